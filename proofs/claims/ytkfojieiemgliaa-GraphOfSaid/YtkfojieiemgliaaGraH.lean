import Derived.Test.YtkfojieiemgliaaGraD
import Derived.Test.YtkfojieiemgliaaGraF
import Derived.Deep.Slices
import Derived.Lib.SmallJoins
set_option linter.unusedSimpArgs false
set_option linter.unusedVariables false
/-! graphs: a function's blocks as an argument of the laws, opened -/
namespace Go.Proofs.Ytkfojieiemgliaa
open Go.ChangeShapes Go.WideShapes Go.RowKit Go.Deep Go.Joins
instance : Inhabited OpV := ⟨⟨0, 0, 0, 0, 0, none, 0, 0, none, 0, 0, 0, 0⟩⟩
theorem gweight {H : Type} {P : Program} {t e : TypeId} {A B : List (DataW H)} (ht : P.underlying t = some (.slice e)) (hsz : ∀ n ∈ (DataW.slice A B : DataW H).weights P t, n ≤ reachBytes) : (A.length + B.length) * P.bytesOf e ≤ 140737488351232 := by
  have e1 : reachBytes = 140737488351232 := by decide
  rw [← e1]
  refine hsz _ ?_
  simp only [DataW.weights, ht]
  exact List.mem_cons_self ..
section
variable {H : Type} {enc : TypeId × Value → H} {W : World} {fuel : Nat} {v : Value} {x : DataW H × List MemPlace}
theorem trod_slice_form {t e : TypeId} (ht : Try.prog.underlying t = some (.slice e)) (hf : DataW.trod enc Try.prog W 0 (fun _ => true) true fuel t [v] = some x) : ∃ a l c, v = .slice a l c := by
  rcases open_slice ht hf with ⟨hcs, _⟩ | ⟨y, l, c, m, n, D, Pl, hcs, _⟩
  · simp at hcs; exact ⟨_, _, _, hcs⟩
  · simp at hcs; exact ⟨_, _, _, hcs⟩
set_option maxRecDepth 100000 in
theorem open_ops (hf : DataW.trod enc Try.prog W 0 (fun _ => true) true fuel 53 [v] = some x) (hsz : ∀ n ∈ x.1.weights Try.prog 53, n ≤ reachBytes) :
    ∃ b, Ops W.heap.size W v b ∧ b.length ≤ 17592186044416 := by
  rcases open_slice Try.underlying53 hf with ⟨hcs, _⟩ | ⟨y, l, c, m, n, D, Pl, hcs, _, hl, hm, hmm, hx, hel⟩
  · simp at hcs
    subst hcs
    exact ⟨[], .inl ⟨⟨_, _, rfl⟩, rfl⟩, by simp⟩
  · simp at hcs
    subst hcs
    have hm' : m = c := by simpa using hmm
    have ce : Try.prog.cellsOf 57 = 9 := by kernel_rfl
    have c8 : Try.prog.cellsOf 5 = 1 := by kernel_rfl
    have ci : Try.prog.cellsOf 3 = 1 := by kernel_rfl
    have c64 : Try.prog.cellsOf 2 = 1 := by kernel_rfl
    have cr : Try.prog.cellsOf 32 = 1 := by kernel_rfl
    have each : ∀ i, i < l → ∃ q : OpV, ∀ k u, (opCells q)[k]? = some u → W.cell? (y.add (i * 9 + k)) = some u := by
      intro i hi
      obtain ⟨cs', h1, h2⟩ := hel i (by omega)
      rw [ce] at h1
      obtain ⟨_, hlen, hcell⟩ := World.cells?_some h1
      obtain ⟨xs, k, _, _, _, hxl, hg⟩ := DataW.trod_struct Try.underlying57 h2
      match xs, hxl, cs', hlen with
      | [y0, y1, y2, y3, y4, y5, y6, y7, y8], _, [u0, u1, u2, u3, u4, u5, u6, u7, u8], _ =>
        have g0 := hg 0 _ rfl
        have g1 := hg 1 _ rfl
        have g2 := hg 2 _ rfl
        have g3 := hg 3 _ rfl
        have g4 := hg 4 _ rfl
        have g5 := hg 5 _ rfl
        have g6 := hg 6 _ rfl
        have g7 := hg 7 _ rfl
        have g8 := hg 8 _ rfl
        simp [c8] at g0 g1
        simp [ci] at g2 g3 g4 g8
        simp [cr] at g5 g6
        simp [c64] at g7
        obtain ⟨n0, e0, _, _⟩ := DataW.trod_int Try.underlying5 g0
        obtain ⟨n1, e1, _, _⟩ := DataW.trod_int Try.underlying5 g1
        obtain ⟨n2, e2, _, _⟩ := DataW.trod_int Try.underlying3 g2
        obtain ⟨n3, e3, _, _⟩ := DataW.trod_int Try.underlying3 g3
        obtain ⟨n4, e4, _, _⟩ := DataW.trod_int Try.underlying3 g4
        obtain ⟨a5, l5, k5, e5⟩ := trod_slice_form Try.underlying32 g5
        obtain ⟨a6, l6, k6, e6⟩ := trod_slice_form Try.underlying32 g6
        obtain ⟨n7, e7, _, _⟩ := DataW.trod_int Try.underlying2 g7
        obtain ⟨n8, e8, _, _⟩ := DataW.trod_int Try.underlying3 g8
        simp at e0 e1 e2 e3 e4 e7 e8
        subst e0 e1 e2 e3 e4 e5 e6 e7 e8
        refine ⟨⟨n0, n1, n2, n3, n4, a5, l5, k5, a6, l6, k6, n7, n8⟩, fun k u hk => ?_⟩
        have hk9 : k < 9 := by
          have := (List.getElem?_eq_some_iff.1 hk).1
          simpa [opCells] using this
        have c0 := hcell k hk9
        rw [add_add] at c0
        rw [c0]
        exact hk
    obtain ⟨q, hq⟩ := choose_lt each
    have hb : l * 96 ≤ 140737488351232 := by
      have hw := hsz
      rw [hx] at hw
      have := gweight Try.underlying53 hw
      have e2 : Try.prog.bytesOf 57 = 96 := by kernel_rfl
      rw [e2, List.length_map, List.length_range, List.length_map, List.length_range] at this
      omega
    refine ⟨(List.range l).map q, ?_, by simp; omega⟩
    by_cases h0 : l = 0
    · subst h0; exact .inl ⟨⟨_, _, rfl⟩, rfl⟩
    · obtain ⟨b, off, spot⟩ := y
      have hc := hq 0 (by omega) 0 _ rfl
      have hspot : spot = none := by simpa [Addr.add] using World.cell?_spot hc
      subst hspot
      have hlt : b < W.heap.size := by
        apply Classical.byContradiction; intro hn
        simp [World.cell?, Addr.add, Array.getElem?_eq_none (Nat.le_of_not_lt hn)] at hc
      refine .inr ⟨b, off, c, by simp, hlt, fun j x hj k u hk => ?_⟩
      have hj' : j < l := by
        have := (List.getElem?_eq_some_iff.1 hj).1
        simpa using this
      rw [List.getElem?_map, List.getElem?_range hj'] at hj
      simp only [Option.map_some, Option.some.injEq] at hj
      subst hj
      have := hq j hj' k u hk
      rw [Addr.add_lit] at this
      rw [Nat.add_assoc]
      exact this
set_option maxRecDepth 100000 in
theorem open_blocks (hf : DataW.trod enc Try.prog W 0 (fun _ => true) true fuel 38 [v] = some x) (hsz : ∀ n ∈ x.1.weights Try.prog 38, n ≤ reachBytes) :
    ∃ bs, BlocksM W.heap.size W v bs ∧ ∀ b ∈ bs, b.length ≤ 17592186044416 := by
  rcases open_slice Try.underlying38 hf with ⟨hcs, _⟩ | ⟨y, l, c, m, n, D, Pl, hcs, _, hl, hm, hmm, hx, hel⟩
  · simp at hcs
    subst hcs
    exact ⟨[], ⟨[], cells_empty _ _ _ _ (fun _ => rfl), rfl, fun j hj => absurd hj (Nat.not_lt_zero _)⟩, fun b hb => by simp at hb⟩
  · simp at hcs
    subst hcs
    have hm' : m = c := by simpa using hmm
    have ce : Try.prog.cellsOf 53 = 1 := by kernel_rfl
    have each : ∀ i, i < l → ∃ q : Value × List OpV, W.cell? (y.add i) = some q.1 ∧ Ops W.heap.size W q.1 q.2 ∧ q.2.length ≤ 17592186044416 := by
      intro i hi
      obtain ⟨cs', h1, h2⟩ := hel i (by omega)
      rw [ce, Nat.mul_one] at h1
      obtain ⟨_, hlen, hcell⟩ := World.cells?_some h1
      match cs', hlen with
      | [u0], _ =>
        have c0 := hcell 0 (by omega)
        rw [add_add] at c0
        obtain ⟨b, hb1, hb2⟩ := open_ops h2 (fun k hk => hsz k (by
          rw [hx]
          simp only [DataW.weights, Try.underlying38]
          exact List.mem_cons_of_mem _ (List.mem_append_left _ (weightsAll_mem (d := D i) (List.mem_map.2 ⟨i, List.mem_range.2 hi, rfl⟩) hk))))
        exact ⟨(u0, b), by simpa using c0, hb1, hb2⟩
    obtain ⟨q, hq⟩ := choose_lt each
    refine ⟨(List.range l).map fun i => (q i).2, ⟨(List.range l).map fun i => (q i).1, ?_, by simp, fun j hj => ?_⟩, fun b hb => ?_⟩
    · by_cases h0 : l = 0
      · subst h0; exact .inl ⟨⟨some y, c, rfl, fun e => by cases e⟩, rfl⟩
      · have hc := (hq 0 (by omega)).1
        rw [show y.add 0 = y from by cases y; rename_i s; cases s <;> simp [Addr.add]] at hc
        obtain ⟨b, off, rfl, hlt⟩ := addr_plain hc
        refine .inr ⟨b, off, c, by simp, hlt, by simpa using hl, fun j u hj => ?_⟩
        have hjn : j < l := by
          have := (List.getElem?_eq_some_iff.1 hj).1
          simpa using this
        rw [List.getElem?_map, List.getElem?_range hjn] at hj
        have := (hq j hjn).1
        rw [Addr.add_lit] at this
        rw [this]; exact hj
    · have hjn : j < l := by simpa using hj
      refine ⟨(q j).1, by rw [List.getElem?_map, List.getElem?_range hjn]; rfl, ?_⟩
      rw [List.getElem?_map, List.getElem?_range hjn]
      exact (hq j hjn).2.1
    · obtain ⟨j, hj, rfl⟩ := List.mem_map.1 hb
      exact (hq j (List.mem_range.1 hj)).2.2
end
set_option maxRecDepth 100000 in
theorem open_body {H : Type} {enc : TypeId × Value → H} {r : Reach} {b0 : Nat} {W : World} {v : Value} {d : DataW H} {p : List MemPlace}
    (hv : Value.okWide Try.prog W r b0 40 v) (h : DataW.Trod enc Try.prog W 0 (fun _ => true) true 40 v d p)
    (hsz : ∀ n ∈ d.weights Try.prog 40, n ≤ reachBytes) :
    ∃ (x y : Int) (u : Value) (bs : List (List OpV)), v = .agg #[.int .i64 x, .int .i64 y, u] ∧ BlocksM W.heap.size W u bs ∧ ∀ b ∈ bs, b.length ≤ 17592186044416 := by
  obtain ⟨v0, v1, v2, y0, y1, y2, n, rfl, rfl, rfl, h0, h1, h2⟩ := open_agg3 Try.underlying40 (by kernel_rfl) (by kernel_rfl) hv h
  obtain ⟨A, e0, _, _⟩ := DataW.trod_int Try.underlying3 h0
  obtain ⟨B, e1, _, _⟩ := DataW.trod_int Try.underlying3 h1
  simp at e0 e1
  subst e0 e1
  obtain ⟨bs, w, s⟩ := open_blocks h2 (fun k hk => hsz k (by
    simp only [DataW.weights, Try.underlying40]
    simp only [DataW.weightsEach, List.map_cons, List.map_nil, List.mem_append]
    exact .inr (.inr (.inl hk))))
  exact ⟨A, B, v2, bs, rfl, w, s⟩
end Go.Proofs.Ytkfojieiemgliaa
