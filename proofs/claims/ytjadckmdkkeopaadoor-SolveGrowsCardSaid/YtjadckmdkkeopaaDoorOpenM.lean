import Derived.Test.YtjadckmdkkeopaaDoorOpenS
set_option linter.unusedSimpArgs false
set_option linter.unusedVariables false
/-! the argument of SolveGrows -/
namespace Go.Proofs.YtjadckmdkkeopaaDoor
open Go.ChangeShapes Go.WideShapes Go.ChangeAt Go.RowKit Go.Deep Go.Joins
section
variable {H : Type} {enc : TypeId × Value → H} {W : World} {fuel : Nat} {v : Value} {x : DataW H × List MemPlace}
/-- a slice of masks that came in -/
theorem open_u64s (hf : DataW.trod enc Tryd.prog W 0 (fun _ => true) true fuel 22 [v] = some x) (hsz : ∀ n ∈ x.1.weights Tryd.prog 22, n ≤ reachBytes) :
    ∃ xs, Nums .u64 W.heap.size W v xs ∧ Wide xs ∧ xs.length ≤ big5 ∧ ∀ n c, v = .slice none n c → c = 0 := by
  obtain ⟨a, len, cap, rfl⟩ := slice_formS Tryd.underlying22 hf
  obtain ⟨z, w, s⟩ : ∃ zs, IsRow .u64 W a len cap zs ∧ len ≤ 17592186044416 := by
    rcases open_ints Tryd.underlying22 Tryd.underlying41 (by kernel_rfl) hf with ⟨hcs, _⟩ | ⟨y, l, c, zs, hcs, _, hl, hm, hz, hx, hcell, hwz⟩
    · simp at hcs
      obtain ⟨rfl, rfl, rfl⟩ := hcs
      exact ⟨[], .inl ⟨rfl, rfl, rfl, rfl⟩, Nat.zero_le _⟩
    · simp at hcs
      obtain ⟨rfl, rfl, rfl⟩ := hcs
      refine ⟨zs, .inr ⟨_, rfl, hl, hm, by simpa using hz, hcell, hwz⟩, ?_⟩
      have hzl : zs.length = cap := by simpa using hz
      have hw := hsz
      rw [hx] at hw
      have h := first_weightS Tryd.underlying22 hw
      have e2 : Tryd.prog.bytesOf 41 = 8 := by kernel_rfl
      rw [e2] at h
      simp only [lits, List.length_map, List.length_take, List.length_drop] at h
      omega
  exact ⟨_, row_all w s⟩
set_option maxRecDepth 100000 in
/-- a system's cells, read -/
theorem open_sysL {cs : List Value} (hl : cs.length = 2) (h : DataW.trod enc Tryd.prog W 0 (fun _ => true) true fuel 26 cs = some x) (hsz : ∀ n ∈ x.1.weights Tryd.prog 26, n ≤ reachBytes) :
    ∃ (cv nv : Value) (c : List (Int × Int)) (tq : List (List Int)), cs = [cv, nv] ∧ LabRow W.heap.size W cv c ∧ WideL c ∧ c.length ≤ 17592186044416 ∧ GraphM W.heap.size W nv tq ∧ Small tq := by
  have c1 : Tryd.prog.cellsOf 23 = 1 := by kernel_rfl
  have c2 : Tryd.prog.cellsOf 24 = 1 := by kernel_rfl
  obtain ⟨xs, k, _, hx, _, hxl, hg⟩ := DataW.trod_struct Tryd.underlying26 h
  match xs, hxl, cs, hl with
  | [y0, y1], _, [u0, u1], _ =>
    have g0 := hg 0 _ rfl
    have g1 := hg 1 _ rfl
    simp [c1] at g0
    simp [c2] at g1
    have hd : x.1 = .agg [y0.1, y1.1] := by rw [hx]; rfl
    rw [hd] at hsz
    have hw : ∀ n, n ∈ y0.1.weights Tryd.prog 23 ∨ n ∈ y1.1.weights Tryd.prog 24 → n ≤ reachBytes := by
      intro n hn
      refine hsz n ?_
      simp only [DataW.weights, Tryd.underlying26]
      simp only [DataW.weightsEach, List.map_cons, List.map_nil, List.mem_append]
      rcases hn with hn | hn
      · exact .inl hn
      · simp [hn]
    obtain ⟨c, h2, h3, h4, _⟩ := open_labs g0 (fun n hn => hw n (.inl hn))
    obtain ⟨a, l, cp, rfl⟩ := slice_formS Tryd.underlying24 g1
    obtain ⟨tq, h5, h6⟩ := open_graph (a := a) (len := l) (cap := cp) (by simpa [Value.cells] using g1) (fun n hn => hw n (.inr hn))
    exact ⟨u0, _, c, tq, rfl, h2, h3, by omega, h5, h6⟩
end
set_option maxRecDepth 100000 in
/-- a system, and more, that came in -/
theorem open_more {H : Type} {enc : TypeId × Value → H} {r : Reach} {b0 : Nat} {W : World} {v : Value} {d : DataW H} {p : List MemPlace}
    (hv : Value.okWide Tryd.prog W r b0 48 v) (h : DataW.Trod enc Tryd.prog W 0 (fun _ => true) true 48 v d p)
    (hsz : ∀ n ∈ d.weights Tryd.prog 48, n ≤ reachBytes) :
    ∃ (uv cv nv : Value) (at5 ne lv lm : Int) (z : List Int) (c : List (Int × Int)) (tq : List (List Int)), v = .agg #[uv, cv, nv, .int .i64 at5, .int .i64 ne, .int .i64 lv, .int .u64 lm] ∧
      (Nums .u64 W.heap.size W uv z ∧ Wide z ∧ z.length ≤ big5 ∧ ∀ n c, uv = .slice none n c → c = 0) ∧ LabRow W.heap.size W cv c ∧ WideL c ∧ c.length ≤ 17592186044416 ∧ GraphM W.heap.size W nv tq ∧ Small tq ∧ (0 ≤ lm ∧ lm ≤ 18446744073709551615) := by
  obtain ⟨cs, rfl, hcs⟩ := okWide_struct Tryd.underlying48 hv
  obtain ⟨l⟩ := cs
  have c7 : Tryd.prog.cellsOf 48 = 7 := by kernel_rfl
  have c0 : Tryd.prog.cellsOf 22 = 1 := by kernel_rfl
  have c1 : Tryd.prog.cellsOf 26 = 2 := by kernel_rfl
  have c2 : Tryd.prog.cellsOf 3 = 1 := by kernel_rfl
  have c3 : Tryd.prog.cellsOf 43 = 2 := by kernel_rfl
  match l, hcs.trans c7 with
  | [u0, u1, u2, u3, u4, u5, u6], _ =>
    obtain ⟨fuel, hf⟩ := h
    obtain ⟨xs, n, _, hx, _, hxl, hg⟩ := DataW.trod_struct Tryd.underlying48 hf
    match xs, hxl with
    | [y0, y1, y2, y3, y4], _ =>
      have g0 := hg 0 _ rfl
      have g1 := hg 1 _ rfl
      have g2 := hg 2 _ rfl
      have g3 := hg 3 _ rfl
      have g4 := hg 4 _ rfl
      simp [Value.cells, c0] at g0
      simp [Value.cells, c1] at g1
      simp [Value.cells, c2] at g2 g3
      simp [Value.cells, c3] at g4
      have hd : d = .agg [y0.1, y1.1, y2.1, y3.1, y4.1] := by simpa using (Prod.mk.inj hx).1
      subst hd
      have hw : ∀ n, n ∈ y0.1.weights Tryd.prog 22 ∨ n ∈ y1.1.weights Tryd.prog 26 → n ≤ reachBytes := by
        intro n hn
        refine hsz n ?_
        simp only [DataW.weights, Tryd.underlying48]
        simp only [DataW.weightsEach, List.map_cons, List.map_nil, List.mem_append]
        rcases hn with hn | hn
        · exact .inl hn
        · exact .inr (.inl hn)
      obtain ⟨z, a1, a2, a3, a4⟩ := open_u64s g0 (fun n hn => hw n (.inl hn))
      obtain ⟨cv, nv, c, tq, e1, b1, b2, b3, b4, b5⟩ := open_sysL rfl g1 (fun n hn => hw n (.inr hn))
      obtain ⟨at5, e2, _, _⟩ := DataW.trod_int Tryd.underlying3 g2
      obtain ⟨ne, e3, _, _⟩ := DataW.trod_int Tryd.underlying3 g3
      obtain ⟨lv, lm, e4, hm, _⟩ := open_labL rfl g4
      simp at e2 e3
      simp only [List.cons.injEq, and_true] at e1 e4
      obtain ⟨rfl, rfl⟩ := e1
      obtain ⟨rfl, rfl⟩ := e4
      subst e2 e3
      exact ⟨u0, _, _, at5, ne, lv, lm, z, c, tq, rfl, ⟨a1, a2, a3, a4⟩, b1, b2, b3, b4, b5, hm⟩
end Go.Proofs.YtjadckmdkkeopaaDoor
