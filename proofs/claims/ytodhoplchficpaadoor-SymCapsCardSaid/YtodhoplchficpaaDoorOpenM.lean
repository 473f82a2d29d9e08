import Derived.Test.YtodhoplchficpaaDoorOpenS
set_option linter.unusedSimpArgs false
set_option linter.unusedVariables false
/-! the argument of SolveGrows -/
namespace Go.Proofs.YtodhoplchficpaaDoor
open Go.ChangeShapes Go.WideShapes Go.ChangeAt Go.RowKit Go.Deep Go.Joins
section
variable {H : Type} {enc : TypeId × Value → H} {W : World} {fuel : Nat} {v : Value} {x : DataW H × List MemPlace}
/-- a slice of masks that came in -/
theorem open_u64s (hf : DataW.trod enc Tryd.prog W 0 (fun _ => true) true fuel 22 [v] = some x) (hsz : ∀ n ∈ x.1.weights Tryd.prog 22, n ≤ reachBytes) :
    ∃ xs, Nums .u64 W.heap.size W v xs ∧ Wide xs ∧ xs.length ≤ big5 ∧ ∀ n c, v = .slice none n c → c = 0 := by
  obtain ⟨a, len, cap, rfl⟩ := slice_formS Tryd.underlying22 hf
  obtain ⟨z, w, s⟩ : ∃ zs, IsRow .u64 W a len cap zs ∧ len ≤ 17592186044416 := by
    rcases open_ints Tryd.underlying22 Tryd.underlying36 (by kernel_rfl) hf with ⟨hcs, _⟩ | ⟨y, l, c, zs, hcs, _, hl, hm, hz, hx, hcell, hwz⟩
    · simp at hcs
      obtain ⟨rfl, rfl, rfl⟩ := hcs
      exact ⟨[], .inl ⟨rfl, rfl, rfl, rfl⟩, Nat.zero_le _⟩
    · simp at hcs
      obtain ⟨rfl, rfl, rfl⟩ := hcs
      refine ⟨zs, .inr ⟨_, rfl, hl, hm, by simpa using hz, hcell, hwz⟩, ?_⟩
      have hzl : zs.length = cap := by simpa using hz
      have hw := hsz
      rw [hx] at hw
      have h := first_weightS Tryd.underlying22 hw
      have e2 : Tryd.prog.bytesOf 36 = 8 := by kernel_rfl
      rw [e2] at h
      simp only [lits, List.length_map, List.length_take, List.length_drop] at h
      omega
  exact ⟨_, row_all w s⟩
set_option maxRecDepth 100000 in
/-- a system's cells, read -/
theorem open_sysL {cs : List Value} (hl : cs.length = 2) (h : DataW.trod enc Tryd.prog W 0 (fun _ => true) true fuel 26 cs = some x) (hsz : ∀ n ∈ x.1.weights Tryd.prog 26, n ≤ reachBytes) :
    ∃ (cv nv : Value) (c : List (Int × Int)) (tq : List (List Int)), cs = [cv, nv] ∧ LabRow W.heap.size W cv c ∧ WideL c ∧ c.length ≤ 17592186044416 ∧ GraphM W.heap.size W nv tq ∧ Small tq := by
  have c1 : Tryd.prog.cellsOf 23 = 1 := by kernel_rfl
  have c2 : Tryd.prog.cellsOf 24 = 1 := by kernel_rfl
  obtain ⟨xs, k, _, hx, _, hxl, hg⟩ := DataW.trod_struct Tryd.underlying26 h
  match xs, hxl, cs, hl with
  | [y0, y1], _, [u0, u1], _ =>
    have g0 := hg 0 _ rfl
    have g1 := hg 1 _ rfl
    simp [c1] at g0
    simp [c2] at g1
    have hd : x.1 = .agg [y0.1, y1.1] := by rw [hx]; rfl
    rw [hd] at hsz
    have hw : ∀ n, n ∈ y0.1.weights Tryd.prog 23 ∨ n ∈ y1.1.weights Tryd.prog 24 → n ≤ reachBytes := by
      intro n hn
      refine hsz n ?_
      simp only [DataW.weights, Tryd.underlying26]
      simp only [DataW.weightsEach, List.map_cons, List.map_nil, List.mem_append]
      rcases hn with hn | hn
      · exact .inl hn
      · simp [hn]
    obtain ⟨c, h2, h3, h4, _⟩ := open_labs g0 (fun n hn => hw n (.inl hn))
    obtain ⟨a, l, cp, rfl⟩ := slice_formS Tryd.underlying24 g1
    obtain ⟨tq, h5, h6⟩ := open_graph (a := a) (len := l) (cap := cp) (by simpa [Value.cells] using g1) (fun n hn => hw n (.inr hn))
    exact ⟨u0, _, c, tq, rfl, h2, h3, by omega, h5, h6⟩
end
end Go.Proofs.YtodhoplchficpaaDoor
