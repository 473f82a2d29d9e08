import Derived.Test.YtodhoplchficpaaDoorOpenL
set_option linter.unusedSimpArgs false
set_option linter.unusedVariables false
/-! the arguments of layer 19's laws: calls, caps, calls within calls -/
namespace Go.Proofs.YtodhoplchficpaaDoor
open Go.ChangeShapes Go.WideShapes Go.ChangeAt Go.RowKit Go.Deep Go.Joins
section
variable {H : Type} {enc : TypeId × Value → H} {W : World} {fuel : Nat} {v : Value} {x : DataW H × List MemPlace}
set_option maxRecDepth 100000 in
/-- a call's cells, read -/
theorem open_callL {cs : List Value} (hl : cs.length = 6) (h : DataW.trod enc Tryd.prog W 0 (fun _ => true) true fuel 46 cs = some x) (hsz : ∀ n ∈ x.1.weights Tryd.prog 46, n ≤ reachBytes) :
    ∃ (uv av : Value) (lv lm pv pm : Int) (z : List Int) (g : List (Int × Int)), cs = [uv, .int .i64 lv, .int .u64 lm, av, .int .i64 pv, .int .u64 pm] ∧ (Nums .u64 W.heap.size W uv z ∧ Wide z ∧ z.length ≤ big5 ∧ ∀ n c, uv = .slice none n c → c = 0) ∧
      LabRow W.heap.size W av g ∧ WideL g ∧ g.length ≤ 17592186044416 ∧ (0 ≤ lm ∧ lm ≤ 18446744073709551615) ∧ (0 ≤ pm ∧ pm ≤ 18446744073709551615) := by
  have c0 : Tryd.prog.cellsOf 22 = 1 := by kernel_rfl
  have c1 : Tryd.prog.cellsOf 38 = 2 := by kernel_rfl
  have c2 : Tryd.prog.cellsOf 23 = 1 := by kernel_rfl
  obtain ⟨xs, k, _, hx, _, hxl, hg⟩ := DataW.trod_struct Tryd.underlying46 h
  match xs, hxl, cs, hl with
  | [y0, y1, y2, y3], _, [u0, u1, u2, u3, u4, u5], _ =>
    have g0 := hg 0 _ rfl
    have g1 := hg 1 _ rfl
    have g2 := hg 2 _ rfl
    have g3 := hg 3 _ rfl
    simp [c0] at g0
    simp [c1] at g1 g3
    simp [c2] at g2
    have hd : x.1 = .agg [y0.1, y1.1, y2.1, y3.1] := by rw [hx]; rfl
    rw [hd] at hsz
    have hw : ∀ n, n ∈ y0.1.weights Tryd.prog 22 ∨ n ∈ y2.1.weights Tryd.prog 23 → n ≤ reachBytes := by
      intro n hn
      refine hsz n ?_
      simp only [DataW.weights, Tryd.underlying46]
      simp only [DataW.weightsEach, List.map_cons, List.map_nil, List.mem_append]
      rcases hn with hn | hn
      · exact .inl hn
      · simp [hn]
    obtain ⟨z, a1, a2, a3, a4⟩ := open_u64s g0 (fun n hn => hw n (.inl hn))
    obtain ⟨lv, lm, e1, hm, _⟩ := open_labL rfl g1
    obtain ⟨g, b1, b2, b3, _⟩ := open_labs g2 (fun n hn => hw n (.inr hn))
    obtain ⟨pv, pm, e3, hp, _⟩ := open_labL rfl g3
    simp only [List.cons.injEq, and_true] at e1 e3
    obtain ⟨rfl, rfl⟩ := e1
    obtain ⟨rfl, rfl⟩ := e3
    exact ⟨u0, u3, lv, lm, pv, pm, z, g, rfl, ⟨a1, a2, a3, a4⟩, b1, b2, by omega, hm, hp⟩
end
set_option maxRecDepth 100000 in
/-- a call that came in -/
theorem open_call {H : Type} {enc : TypeId × Value → H} {r : Reach} {b0 : Nat} {W : World} {v : Value} {d : DataW H} {p : List MemPlace}
    (hv : Value.okWide Tryd.prog W r b0 46 v) (h : DataW.Trod enc Tryd.prog W 0 (fun _ => true) true 46 v d p)
    (hsz : ∀ n ∈ d.weights Tryd.prog 46, n ≤ reachBytes) :
    ∃ (uv av : Value) (lv lm pv pm : Int) (z : List Int) (g : List (Int × Int)), v = .agg #[uv, .int .i64 lv, .int .u64 lm, av, .int .i64 pv, .int .u64 pm] ∧ (Nums .u64 W.heap.size W uv z ∧ Wide z ∧ z.length ≤ big5 ∧ ∀ n c, uv = .slice none n c → c = 0) ∧
      LabRow W.heap.size W av g ∧ WideL g ∧ g.length ≤ 17592186044416 ∧ (0 ≤ lm ∧ lm ≤ 18446744073709551615) ∧ (0 ≤ pm ∧ pm ≤ 18446744073709551615) := by
  obtain ⟨cs, rfl, hcs⟩ := okWide_struct Tryd.underlying46 hv
  obtain ⟨l⟩ := cs
  have c6 : Tryd.prog.cellsOf 46 = 6 := by kernel_rfl
  have hl6 : l.length = 6 := by simpa using hcs.trans c6
  obtain ⟨fuel, hf⟩ := h
  simp only [Value.cells] at hf
  obtain ⟨uv, av, lv, lm, pv, pm, z, g, e, hr⟩ := open_callL hl6 hf hsz
  exact ⟨uv, av, lv, lm, pv, pm, z, g, by rw [e], hr⟩
end Go.Proofs.YtodhoplchficpaaDoor
