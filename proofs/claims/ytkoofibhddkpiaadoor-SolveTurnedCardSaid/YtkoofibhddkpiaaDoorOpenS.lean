import Derived.Test.YtkoofibhddkpiaaDoorGraD
import Derived.Test.YtkoofibhddkpiaaDoorSolBN
import Derived.Deep.Slices
import Derived.Lib.SmallJoins
import Derived.OpenShut
import Derived.ChangeArms
import Derived.ChangeSlices
import Derived.SizedLaws
set_option linter.unusedSimpArgs false
set_option linter.unusedVariables false
/-! the arguments of layer 17's and 19's laws: labels, systems -/
namespace Go.Proofs.YtkoofibhddkpiaaDoor
open Go.ChangeShapes Go.WideShapes Go.ChangeAt Go.RowKit Go.Deep Go.Joins
theorem first_weightS {H : Type} {P : Program} {t e : TypeId} {A B : List (DataW H)} (ht : P.underlying t = some (.slice e)) (hsz : ∀ n ∈ (DataW.slice A B : DataW H).weights P t, n ≤ reachBytes) : (A.length + B.length) * P.bytesOf e ≤ 140737488351232 := by
  have e1 : reachBytes = 140737488351232 := by decide
  rw [← e1]
  refine hsz _ ?_
  simp only [DataW.weights, ht]
  exact List.mem_cons_self ..
theorem addr_plainS {W : World} {y : Addr} {v : Value} (h : W.cell? y = some v) : ∃ b off, y = ⟨b, off, none⟩ ∧ b < W.heap.size := by
  obtain ⟨b, off, spot⟩ := y
  have hspot : spot = none := by simpa using World.cell?_spot h
  subst hspot
  refine ⟨b, off, rfl, ?_⟩
  apply Classical.byContradiction; intro hn
  simp [World.cell?, Array.getElem?_eq_none (Nat.le_of_not_lt hn)] at h
theorem wide_of {zs : List Int} (h : ∀ n ∈ zs, (Lit.int .u64 n).wf = true) (k : Nat) : Wide (zs.take k) := fun x hx => wf_u64_bd (h x (List.mem_of_mem_take hx))
theorem row_all {W : World} {a : Option Addr} {len cap : Nat} {zs : List Int} (w : IsRow .u64 W a len cap zs) (s : len ≤ 17592186044416) : Nums .u64 W.heap.size W (.slice a len cap) (zs.take len) ∧ Wide (zs.take len) ∧ (zs.take len).length ≤ big5 ∧ ∀ n c, Value.slice a len cap = .slice none n c → c = 0 := by
  have hn : ∀ n c, Value.slice a len cap = .slice none n c → c = 0 := fun n c e => by
    cases e
    rcases w with ⟨_, _, h, _⟩ | ⟨_, e2, _⟩
    · exact h
    · cases e2
  refine ⟨nums_of_isRow w, ?_, by rw [List.length_take]; unfold big5; omega, hn⟩
  rcases w with ⟨_, _, _, rfl⟩ | ⟨_, _, _, _, _, _, h⟩
  · intro x hx; simp at hx
  · exact wide_of h len
section
variable {H : Type} {enc : TypeId × Value → H} {W : World} {fuel : Nat} {v : Value} {x : DataW H × List MemPlace}
set_option maxRecDepth 100000 in
/-- a label's cells, read -/
theorem open_labL {cs : List Value} (hl : cs.length = 2) (h : DataW.trod enc Tryd.prog W 0 (fun _ => true) true fuel 49 cs = some x) : ∃ a m : Int, cs = [.int .i64 a, .int .u64 m] ∧ (0 ≤ m ∧ m ≤ 18446744073709551615) ∧ (Lit.int .i64 a).wf = true := by
  have c1 : Tryd.prog.cellsOf 3 = 1 := by kernel_rfl
  have c2 : Tryd.prog.cellsOf 47 = 1 := by kernel_rfl
  obtain ⟨xs, k, _, _, _, hxl, hg⟩ := DataW.trod_struct Tryd.underlying49 h
  match xs, hxl, cs, hl with
  | [y0, y1], _, [u0, u1], _ =>
    have g0 := hg 0 _ rfl
    have g1 := hg 1 _ rfl
    simp [c1] at g0
    simp [c2] at g1
    obtain ⟨n0, e0, _, w0⟩ := DataW.trod_int Tryd.underlying3 g0
    obtain ⟨n1, e1, _, w1⟩ := DataW.trod_int Tryd.underlying47 g1
    simp at e0 e1
    subst e0 e1
    exact ⟨n0, n1, rfl, wf_u64_bd w1, w0⟩
/-- a slice of labels that came in -/
theorem open_labs (hf : DataW.trod enc Tryd.prog W 0 (fun _ => true) true fuel 23 [v] = some x) (hsz : ∀ n ∈ x.1.weights Tryd.prog 23, n ≤ reachBytes) :
    ∃ l, LabRow W.heap.size W v l ∧ WideL l ∧ l.length * 16 ≤ 140737488351232 ∧ ∀ p ∈ l, (Lit.int .i64 p.1).wf = true := by
  rcases open_slice Tryd.underlying23 hf with ⟨hcs, _⟩ | ⟨y, l, c, m, n, D, Pl, hcs, _, hl, hm, hmm, hx, hel⟩
  · simp at hcs
    subst hcs
    exact ⟨[], .inl ⟨⟨_, _, rfl, fun _ => rfl⟩, rfl⟩, fun p hp => by simp at hp, by decide, fun p hp => by simp at hp⟩
  · simp at hcs
    subst hcs
    have hm' : m = c := by simpa using hmm
    have ce : Tryd.prog.cellsOf 49 = 2 := by kernel_rfl
    have each : ∀ i, i < l → ∃ q : Int × Int, (W.cell? (y.add (i * 2)) = some (.int .i64 q.1) ∧ W.cell? (y.add (i * 2 + 1)) = some (.int .u64 q.2)) ∧ (0 ≤ q.2 ∧ q.2 ≤ 18446744073709551615) ∧ (Lit.int .i64 q.1).wf = true := by
      intro i hi
      obtain ⟨cs', h1, h2⟩ := hel i (by omega)
      rw [ce] at h1
      obtain ⟨_, hlen, hcell⟩ := World.cells?_some h1
      obtain ⟨a, m, rfl, hw, hwa⟩ := open_labL hlen h2
      have c0 := hcell 0 (by omega)
      have c1 := hcell 1 (by omega)
      rw [add_add] at c0 c1
      exact ⟨(a, m), ⟨by simpa using c0, by simpa using c1⟩, hw, hwa⟩
    obtain ⟨q, hq⟩ := choose_lt each
    have hb : l * 16 ≤ 140737488351232 := by
      have hw := hsz
      rw [hx] at hw
      have := first_weightS Tryd.underlying23 hw
      have e2 : Tryd.prog.bytesOf 49 = 16 := by kernel_rfl
      rw [e2, List.length_map, List.length_range, List.length_map, List.length_range] at this
      omega
    refine ⟨(List.range l).map q, ?_, fun p hp => ?_, by simp; omega, fun p hp => ?_⟩
    · by_cases h0 : l = 0
      · subst h0; exact .inl ⟨⟨_, _, rfl, fun e => by cases e⟩, rfl⟩
      · have hc := (hq 0 (by omega)).1.1
        rw [show y.add (0 * 2) = y from by cases y; rename_i s; cases s <;> simp [Addr.add]] at hc
        obtain ⟨b, off, rfl, hlt⟩ := addr_plainS hc
        refine .inr ⟨b, off, c, by simp, hlt, fun j hj => ?_⟩
        have hj' : j < l := by simpa using hj
        rw [List.getElem?_map, List.getElem?_range hj']
        have := (hq j hj').1
        rw [Addr.add_lit, Addr.add_lit] at this
        exact ⟨this.1, by simpa [Nat.add_assoc] using this.2⟩
    · obtain ⟨i, hi, rfl⟩ := List.mem_map.1 hp
      exact (hq i (List.mem_range.1 hi)).2.1
    · obtain ⟨i, hi, rfl⟩ := List.mem_map.1 hp
      exact (hq i (List.mem_range.1 hi)).2.2
theorem slice_formS {t e : TypeId} (ht : Tryd.prog.underlying t = some (.slice e)) (hf : DataW.trod enc Tryd.prog W 0 (fun _ => true) true fuel t [v] = some x) : ∃ a n c, v = .slice a n c := by
  rcases open_slice ht hf with ⟨hcs, _⟩ | ⟨y, l, c, m, n, D, Pl, hcs, _⟩
  · simp at hcs; exact ⟨_, _, _, hcs⟩
  · simp at hcs; exact ⟨_, _, _, hcs⟩
end
set_option maxRecDepth 100000 in
/-- a system that came in -/
theorem open_sys {H : Type} {enc : TypeId × Value → H} {r : Reach} {b0 : Nat} {W : World} {v : Value} {d : DataW H} {p : List MemPlace}
    (hv : Value.okWide Tryd.prog W r b0 26 v) (h : DataW.Trod enc Tryd.prog W 0 (fun _ => true) true 26 v d p)
    (hsz : ∀ n ∈ d.weights Tryd.prog 26, n ≤ reachBytes) :
    ∃ (cv nv : Value) (c : List (Int × Int)) (to : List (List Int)), v = .agg #[cv, nv] ∧ LabRow W.heap.size W cv c ∧ WideL c ∧ c.length ≤ 17592186044416 ∧ GraphM W.heap.size W nv to ∧ Small to := by
  obtain ⟨v0, v1, y0, y1, n, rfl, rfl, rfl, h0, h1⟩ := open_agg2 Tryd.underlying26 (by kernel_rfl) (by kernel_rfl) hv h
  have hw : ∀ n, n ∈ y0.1.weights Tryd.prog 23 ∨ n ∈ y1.1.weights Tryd.prog 24 → n ≤ reachBytes := by
    intro n hn
    refine hsz n ?_
    simp only [DataW.weights, Tryd.underlying26]
    simp only [DataW.weightsEach, List.map_cons, List.map_nil, List.mem_append]
    rcases hn with hn | hn
    · exact .inl hn
    · simp [hn]
  obtain ⟨c, h2, h3, h4, _⟩ := open_labs h0 (fun n hn => hw n (.inl hn))
  obtain ⟨a, l, cp, rfl⟩ := slice_formS Tryd.underlying24 h1
  obtain ⟨to, h5, h6⟩ := open_graph (a := a) (len := l) (cap := cp) (by simpa [Value.cells] using h1) (fun n hn => hw n (.inr hn))
  exact ⟨v0, _, c, to, rfl, h2, h3, by omega, h5, h6⟩
end Go.Proofs.YtkoofibhddkpiaaDoor
