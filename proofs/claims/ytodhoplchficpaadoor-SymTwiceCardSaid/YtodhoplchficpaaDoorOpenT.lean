import Derived.Test.YtodhoplchficpaaDoorOpenC
set_option linter.unusedSimpArgs false
set_option linter.unusedVariables false
/-! the argument of SymTwice -/
namespace Go.Proofs.YtodhoplchficpaaDoor
open Go.ChangeShapes Go.WideShapes Go.ChangeAt Go.RowKit Go.Deep Go.Joins
section
variable {H : Type} {enc : TypeId × Value → H} {W : World} {fuel : Nat} {v : Value} {x : DataW H × List MemPlace}
/-- a slice of ints that came in -/
theorem open_intsW (hf : DataW.trod enc Tryd.prog W 0 (fun _ => true) true fuel 29 [v] = some x) (hsz : ∀ n ∈ x.1.weights Tryd.prog 29, n ≤ reachBytes) :
    ∃ (a : Option Addr) (len cap : Nat) (zs : List Int), v = .slice a len cap ∧ IsRow .i64 W a len cap zs ∧ len ≤ 17592186044416 := by
  obtain ⟨a, len, cap, rfl⟩ := slice_formS Tryd.underlying29 hf
  rcases open_ints Tryd.underlying29 Tryd.underlying3 (by kernel_rfl) hf with ⟨hcs, _⟩ | ⟨y, l, c, zs, hcs, _, hl, hm, hz, hx, hcell, hwz⟩
  · simp at hcs
    obtain ⟨rfl, rfl, rfl⟩ := hcs
    exact ⟨none, 0, 0, [], rfl, .inl ⟨rfl, rfl, rfl, rfl⟩, Nat.zero_le _⟩
  · simp at hcs
    obtain ⟨rfl, rfl, rfl⟩ := hcs
    refine ⟨some y, len, cap, zs, rfl, .inr ⟨_, rfl, hl, hm, by simpa using hz, hcell, hwz⟩, ?_⟩
    have hzl : zs.length = cap := by simpa using hz
    have hw := hsz
    rw [hx] at hw
    have h := first_weightS Tryd.underlying29 hw
    have e2 : Tryd.prog.bytesOf 3 = 8 := by kernel_rfl
    rw [e2] at h
    simp only [lits, List.length_map, List.length_take, List.length_drop] at h
    omega
end
set_option maxRecDepth 100000 in
/-- a call within a call that came in -/
theorem open_twice {H : Type} {enc : TypeId × Value → H} {r : Reach} {b0 : Nat} {W : World} {v : Value} {d : DataW H} {p : List MemPlace}
    (hv : Value.okWide Tryd.prog W r b0 64 v) (h : DataW.Trod enc Tryd.prog W 0 (fun _ => true) true 64 v d p)
    (hsz : ∀ n ∈ d.weights Tryd.prog 64, n ≤ reachBytes) :
    ∃ (uv av : Value) (lv lm pv pm q : Int) (ia : Option Addr) (il ic : Nat) (z : List Int) (g : List (Int × Int)) (j : List Int), v = .agg #[uv, .int .i64 lv, .int .u64 lm, av, .int .i64 pv, .int .u64 pm, .slice ia il ic, .int .i64 q] ∧ (Nums .u64 W.heap.size W uv z ∧ Wide z ∧ z.length ≤ big5 ∧ ∀ n c, uv = .slice none n c → c = 0) ∧
      LabRow W.heap.size W av g ∧ WideL g ∧ g.length ≤ 17592186044416 ∧ (0 ≤ lm ∧ lm ≤ 18446744073709551615) ∧ (0 ≤ pm ∧ pm ≤ 18446744073709551615) ∧ IsRow .i64 W ia il ic j ∧ il ≤ 17592186044416 := by
  obtain ⟨cs, rfl, hcs⟩ := okWide_struct Tryd.underlying64 hv
  obtain ⟨l⟩ := cs
  have c8 : Tryd.prog.cellsOf 64 = 8 := by kernel_rfl
  have c0 : Tryd.prog.cellsOf 46 = 6 := by kernel_rfl
  have c1 : Tryd.prog.cellsOf 29 = 1 := by kernel_rfl
  have c2 : Tryd.prog.cellsOf 3 = 1 := by kernel_rfl
  match l, hcs.trans c8 with
  | [u0, u1, u2, u3, u4, u5, u6, u7], _ =>
    obtain ⟨fuel, hf⟩ := h
    obtain ⟨xs, n, _, hx, _, hxl, hg⟩ := DataW.trod_struct Tryd.underlying64 hf
    match xs, hxl with
    | [y0, y1, y2], _ =>
      have g0 := hg 0 _ rfl
      have g1 := hg 1 _ rfl
      have g2 := hg 2 _ rfl
      simp [Value.cells, c0] at g0
      simp [Value.cells, c1] at g1
      simp [Value.cells, c2] at g2
      have hd : d = .agg [y0.1, y1.1, y2.1] := by simpa using (Prod.mk.inj hx).1
      subst hd
      have hw : ∀ n, n ∈ y0.1.weights Tryd.prog 46 ∨ n ∈ y1.1.weights Tryd.prog 29 → n ≤ reachBytes := by
        intro n hn
        refine hsz n ?_
        simp only [DataW.weights, Tryd.underlying64]
        simp only [DataW.weightsEach, List.map_cons, List.map_nil, List.mem_append]
        rcases hn with hn | hn
        · exact .inl hn
        · simp [hn]
      obtain ⟨uv, av, lv, lm, pv, pm, z, g, e, w1, w2, w3, w4, w5, w6⟩ := open_callL rfl g0 (fun n hn => hw n (.inl hn))
      obtain ⟨ia, il, ic, j, e1, w7, w8⟩ := open_intsW g1 (fun n hn => hw n (.inr hn))
      obtain ⟨q, e2, _, _⟩ := DataW.trod_int Tryd.underlying3 g2
      simp only [List.cons.injEq, and_true] at e
      simp at e1 e2
      obtain ⟨rfl, rfl, rfl, rfl, rfl, rfl⟩ := e
      subst e1 e2
      exact ⟨_, _, lv, lm, pv, pm, q, ia, il, ic, z, g, j, rfl, w1, w2, w3, w4, w5, w6, w7, w8⟩
end Go.Proofs.YtodhoplchficpaaDoor
