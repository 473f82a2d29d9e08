import Derived.Test.YtgbbkgmimcomkabDoorArithT
import Derived.LaidSub
import Derived.LaidMore
/-! ArithOrders: the walk -/
namespace Go.Proofs.YtgbbkgmimcomkabDoor
set_option linter.unusedVariables false
open Go.RowKit
theorem less_one (a b : Int) : (lessI a b == 1) = decide (a < b) := by
  unfold lessI
  by_cases h : a < b
  · rw [if_pos h, decide_eq_true h]; rfl
  · rw [if_neg h, decide_eq_false h]; rfl
theorem ord_wrap (a b : Int) : (wrap64 (wrap64 (dA 12 a b + dA 11 a b) + dA 12 b a) == 1) = true := by
  rw [beq_iff_eq, d12, d11, d12, w_add, ord_one]; decide +kernel
set_option maxRecDepth 100000 in
set_option maxHeartbeats 800000 in
theorem arithOrders_walk (a b : Int) (w : World) (ha : (Lit.int .i64 a).wf = true) (hb : (Lit.int .i64 b).wf = true) (hN : Names w) :
    Calls Tryd.prog 4 #[.int .i64 a, .int .i64 b] w fun e w' => e = .returned (.bool true) ∧ Below w.heap.size w w' := by
  have HN := Lib.hid hN
  have HA := Lib.hid ha
  have HB := Lib.hid hb
  have hs := ord_wrap a b
  obtain ⟨l, hl⟩ : ∃ t : Bool, decide (a < b) = t := ⟨_, rfl⟩
  have hd : (dA 12 a b == 1) = l := by rw [d12, less_one, hl]
  clear ha hb hN
  go_enter Tryd.func4, Tryd.ntmps4
  go_wp2_with fail
  refine (ldo_any 12 a b (by decide) (by decide) HA.out HB.out _).mono ?_
  rintro e w1 ⟨rfl, hb1⟩
  go_wp2_with fail
  refine (ldo_any 11 a b (by decide) (by decide) HA.out HB.out _).mono ?_
  rintro e w2 ⟨rfl, hb2⟩
  have hB2 := bstep hb1 hb2
  clear hb1 hb2
  go_wp2_with fail
  refine (ldo_any 12 b a (by decide) (by decide) HB.out HA.out _).mono ?_
  rintro e w3 ⟨rfl, hb3⟩
  have hB3 := bstep hB2 hb3
  clear hB2 hb3
  go_wp2_with fail
  refine (ldo_any 12 a b (by decide) (by decide) HA.out HB.out _).mono ?_
  rintro e w4 ⟨rfl, hb4⟩
  have hB4 := bstep hB3 hb4
  clear hB3 hb4
  go_wp2_with fail
  refine (rname4_any 12 (by decide) (by decide) _).mono ?_
  rintro e w5 ⟨rfl, hb5⟩
  have hB5 := bstep hB4 hb5
  clear hB4 hb5
  go_wp2_with fail
  refine (name4_any 12 (by decide) (by decide) _ (HN.out.below hB5)).mono ?_
  rintro e w6 ⟨rfl, rfl⟩
  go_wp2_with fail
  refine (awake_any _).mono ?_
  rintro e w99 ⟨rfl, hb99⟩
  go_wp2_with fail
  go_ret
  exact ⟨rfl, bstep hB5 hb99⟩
end Go.Proofs.YtgbbkgmimcomkabDoor
