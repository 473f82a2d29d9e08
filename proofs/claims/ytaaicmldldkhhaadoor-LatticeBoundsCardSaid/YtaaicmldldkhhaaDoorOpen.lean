import Derived.Test.YtaaicmldldkhhaaDoorPrs
import Derived.Deep.Slices
import Derived.Lib.SmallJoins
import Derived.OpenShut
import Derived.ChangeArms
import Derived.ChangeSlices
import Derived.SizedLaws
set_option linter.unusedSimpArgs false
set_option linter.unusedVariables false
/-! the arguments of layer 5's laws: pairs; masks and three levels -/
namespace Go.Proofs.YtaaicmldldkhhaaDoor
open Go.ChangeShapes Go.WideShapes Go.ChangeAt Go.RowKit Go.Deep Go.Joins

theorem open_prs {H : Type} {enc : TypeId × Value → H} {W : World} {fuel : Nat} {a : Option Addr} {len cap : Nat} {x : DataW H × List MemPlace}
    (hf : DataW.trod enc Tryd.prog W 0 (fun _ => true) true fuel 22 (Value.slice a len cap).cells.toList = some x) : ∃ ps, PrsI W.heap.size W (.slice a len cap) ps ∧ ps.length = len := by
  rcases open_slice Tryd.underlying22 hf with ⟨hcs, _⟩ | ⟨y, l, c, m, n, D, Pl, hcs, _, hl, hm, hmm, hx, hel⟩
  · simp [Value.cells] at hcs
    obtain ⟨rfl, rfl, rfl⟩ := hcs
    exact ⟨[], .inl ⟨⟨_, _, rfl⟩, rfl⟩, rfl⟩
  · simp [Value.cells] at hcs
    obtain ⟨rfl, rfl, rfl⟩ := hcs
    have hm' : m = cap := by simpa using hmm
    have ce : Tryd.prog.cellsOf 40 = 2 := by kernel_rfl
    have ci : Tryd.prog.cellsOf 3 = 1 := by kernel_rfl
    have each : ∀ i, i < len → ∃ q : Int × Int, W.cell? (y.add (i * 2)) = some (.int .i64 q.1) ∧ W.cell? (y.add (i * 2 + 1)) = some (.int .i64 q.2) := by
      intro i hi
      obtain ⟨cs', h1, h2⟩ := hel i (by omega)
      rw [ce] at h1
      obtain ⟨_, hlen, hcell⟩ := World.cells?_some h1
      obtain ⟨ys, k, _, _, _, hyl, hg⟩ := DataW.trod_array Tryd.underlying40 h2
      match ys, hyl, cs', hlen with
      | [y0, y1], _, [v0, v1], _ =>
        have g0 := hg 0 (by omega)
        have g1 := hg 1 (by omega)
        rw [ci] at g0 g1
        simp at g0 g1
        obtain ⟨n0, e0, _, _⟩ := DataW.trod_int Tryd.underlying3 g0
        obtain ⟨n1, e1, _, _⟩ := DataW.trod_int Tryd.underlying3 g1
        have c0 := hcell 0 (by omega)
        have c1 := hcell 1 (by omega)
        rw [add_add] at c0 c1
        simp at e0 e1
        subst e0 e1
        exact ⟨(n0, n1), by simpa using c0, by simpa using c1⟩
    obtain ⟨q, hq⟩ := choose_lt each
    refine ⟨(List.range len).map q, ?_, by simp⟩
    by_cases h0 : len = 0
    · subst h0; exact .inl ⟨⟨_, _, rfl⟩, rfl⟩
    · obtain ⟨b, off, spot⟩ := y
      have hc := (hq 0 (by omega)).1
      have hspot : spot = none := by simpa [Addr.add] using World.cell?_spot hc
      subst hspot
      have hlt : b < W.heap.size := by
        apply Classical.byContradiction; intro hn
        simp [World.cell?, Addr.add, Array.getElem?_eq_none (Nat.le_of_not_lt hn)] at hc
      refine .inr ⟨b, off, cap, by simp, hlt, by simpa using hl, fun j hj => ?_⟩
      have hj' : j < len := by simpa using hj
      have := hq j hj'
      rw [Addr.add_lit, Addr.add_lit] at this
      rw [List.getElem?_map, List.getElem?_range hj']
      simp only [Option.map_some, Option.getD_some]
      exact ⟨this.1, by rw [Nat.add_assoc]; exact this.2⟩

theorem open_three {H : Type} {enc : TypeId × Value → H} {r : Reach} {b0 : Nat} {W : World} {v : Value} {d : DataW H} {p : List MemPlace}
    (hv : Value.okWide Tryd.prog W r b0 42 v) (h : DataW.Trod enc Tryd.prog W 0 (fun _ => true) true 42 v d p)
    (hsz : ∀ n ∈ d.weights Tryd.prog 42, n ≤ reachBytes) :
    ∃ (a : Option Addr) (len cap : Nat) (A B C : Int) (zs : List Int), v = .agg #[.slice a len cap, .int .i64 A, .int .i64 B, .int .i64 C] ∧ IsRow .u64 W a len cap zs ∧ len ≤ 17592186044416 := by
  obtain ⟨v0, v1, v2, v3, y0, y1, y2, y3, n, rfl, rfl, rfl, h0, h1, h2, h3⟩ := open_agg4 Tryd.underlying42 (by kernel_rfl) (by kernel_rfl) hv h
  obtain ⟨A, e1, _, _⟩ := DataW.trod_int Tryd.underlying3 h1
  obtain ⟨B, e2, _, _⟩ := DataW.trod_int Tryd.underlying3 h2
  obtain ⟨C, e3, _, _⟩ := DataW.trod_int Tryd.underlying3 h3
  simp at e1 e2 e3
  subst e1 e2 e3
  rcases open_ints Tryd.underlying23 Tryd.underlying45 (by kernel_rfl) h0 with ⟨hcs, _⟩ | ⟨x, l, c, zs, hcs, _, hl, hm, hz, hx, hcell, hwz⟩
  · simp at hcs
    subst hcs
    exact ⟨none, 0, 0, A, B, C, [], rfl, .inl ⟨rfl, rfl, rfl, rfl⟩, Nat.zero_le _⟩
  · simp at hcs
    subst hcs
    refine ⟨some x, l, c, A, B, C, zs, rfl, .inr ⟨_, rfl, hl, hm, by simpa using hz, hcell, hwz⟩, ?_⟩
    have hd := (Prod.mk.inj hx).1
    have hzl : zs.length = c := by simpa using hz
    have hw := hsz ((zs.length) * 8) (by
      simp only [DataW.weights, Tryd.underlying42, hd]
      simp [DataW.weightsEach, DataW.weights, Tryd.underlying23, lits]
      left
      have e2 : Tryd.prog.bytesOf 45 = 8 := by kernel_rfl
      rw [e2]
      omega)
    have e1 : reachBytes = 140737488351232 := by decide
    rw [e1] at hw
    omega
end Go.Proofs.YtaaicmldldkhhaaDoor
