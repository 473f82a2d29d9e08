import Derived.Test.YtgfjdnmnjabbbaaDoorPlatO
import Derived.Test.YtgfjdnmnjabbbaaDoorLatAll
set_option linter.unusedSimpArgs false
set_option linter.unusedVariables false
/-! layer 5's order, of any masks -/
namespace Go.Proofs.YtgfjdnmnjabbbaaDoor
open Go.RowKit Go.Shelf
attribute [local go_sem] Oper.semAt_some

set_option maxRecDepth 100000 in
set_option maxHeartbeats 1600000 in
theorem order_any (v : Value) (xs : List Int) (n₀ : Nat) (w : World) (hv : Nums .u64 n₀ w v xs) (hn : n₀ ≤ w.heap.size) (hx : Wide xs) (hl : xs.length ≤ big5) (hT : Tz w) :
    Calls Tryd.prog 56 #[v] w fun e w' => e = .returned (.bool (LL.ordB xs)) ∧ Below w.heap.size w w' := by
  by_cases h0 : 1 ≤ xs.length ∧ xs.length ≤ 64
  · exact order_in v xs n₀ w hv hn hx h0 hT
  · have HR := Lib.hid (show LL.ordB xs = false by unfold LL.ordB; rw [decide_eq_false h0]; rfl)
    have hl2 : xs.length ≤ 17592186044416 := hl
    obtain ⟨a, cap, rfl⟩ := hv.form
    clear hv hx hl
    have hs1 := cell_new_l (w.alloc (.cells #[.slice a xs.length cap] 23)) (.bool false) 4
    rw [World.size_alloc] at hs1
    have hB0 := ((Below.refl w.heap.size w).alloc (Nat.le_refl _) (.cells #[.slice a xs.length cap] 23)).alloc (by simp) (.cells #[.bool false] 4)
    refine (callsIn_wide (n := 5)).1 ?_
    refine callsIn_of_wp_marks Tryd.func56 rfl trivial ?_ rfl
    simp only [Tryd.ntmps56, List.size_toArray, List.length_cons, List.length_nil, Nat.reduceAdd, Nat.reduceSub, Array.replicate_succ, Array.replicate_zero, List.push_toArray, List.append_toArray, List.nil_append, List.cons_append]
    by_cases h1 : (xs.length : Int) < 1
    · clear h0
      gi_wp2
      refine ⟨.bool false, ?_, by rw [HR.out], hB0⟩
      simp [results, Tryd.f56, go_sem, hs1.1]
    · have h2 : (64 : Int) < xs.length := by omega
      clear h0
      gi_wp2
      refine ⟨.bool false, ?_, by rw [HR.out], hB0⟩
      simp [results, Tryd.f56, go_sem, hs1.1]
end Go.Proofs.YtgfjdnmnjabbbaaDoor
