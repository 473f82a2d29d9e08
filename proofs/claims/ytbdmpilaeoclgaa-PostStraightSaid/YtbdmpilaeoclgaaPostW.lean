import Derived.Test.YtbdmpilaeoclgaaPostV
set_option linter.unusedSimpArgs false
set_option linter.unusedVariables false
/-! post: what the chapter's example says -/
namespace Go.Proofs.Ytbdmpilaeoclgaa
open Go.RowKit
theorem exP_tree : DD.postL [[1], [2, 3], [1], []] = [1, 3, 1, 4] := by decide +kernel
theorem exP_region : DD.regionL [[1], [2, 3], [1], []] 1 = [1, 2] := by decide +kernel
theorem exP_held : (DD.heldL [[1], [2, 3], [1], []]).length = 4 := by decide +kernel
theorem exP_small : Small [[1], [2, 3], [1], []] := ⟨by decide, by decide⟩
set_option maxRecDepth 100000 in
set_option maxHeartbeats 1600000 in
theorem awakeP_any (W : World) : Calls Try.prog 31 #[] W fun e W' => e = .returned (.bool true) ∧ Below W.heap.size W W' := by
  have HM := Lib.hid (exV_mem W [1] [2, 3] [1])
  have HB := Lib.hid (exV_below W [1] [2, 3] [1])
  have HS := Lib.hid exP_small
  go_enter Try.func31, Try.ntmps31
  go_wp2_with fail
  rw [show (((W.alloc (.cells #[.int .i64 1] 3)).alloc (.cells #[.int .i64 2, .int .i64 3] 3)).alloc (.cells #[.int .i64 1] 3)).alloc (.cells #[.slice (some ⟨W.heap.size, 0, none⟩) 1 1, .slice (some ⟨W.heap.size + 1, 0, none⟩) 2 2, .slice (some ⟨W.heap.size + 1 + 1, 0, none⟩) 1 1, .slice none 0 0] 24) = exV W [1] [2, 3] [1] from rfl]
  refine (ptree_any _ HM.out HS.out).mono ?_
  rintro e w1 ⟨lv, rfl, hl, hB1⟩
  rw [exP_tree] at hl
  have HL1 := Lib.hid (hl.on ((Below.refl _ _).alloc (Nat.le_refl _) (.cells #[.int .i64 1, .int .i64 3, .int .i64 1, .int .i64 4] 3)) (by simp))
  have HB1 := Lib.hid (HB.out.trans (hB1.mono (by have := HB.out.size; omega)))
  have HBX1 := Lib.hid hB1
  clear hl hB1
  go_wp2_with fail
  refine (ints_any _ _ [1, 3, 1, 4] [1, 3, 1, 4] _ _ HL1.out (row_lits w1 [1, 3, 1, 4] _ (by decide)) (by decide) (by decide)).mono ?_
  rintro e w2 ⟨rfl, d, rfl⟩
  rw [decide_eq_true (rfl : ([1, 3, 1, 4] : List Int) = [1, 3, 1, 4])]
  obtain ⟨w2, ew2⟩ : ∃ w2, w2 = (w1.alloc (.cells #[.int .i64 1, .int .i64 3, .int .i64 1, .int .i64 4] 3)).drewN d := ⟨_, rfl⟩
  rw [← ew2]
  have hb2 : Below w1.heap.size w1 w2 := by rw [ew2]; exact below_dN ((Below.refl _ _).alloc (Nat.le_refl _) _) d
  have HB2 := Lib.hid (bstep HB1.out hb2)
  have HBX2 := Lib.hid (bstep HBX1.out hb2)
  clear hb2 ew2
  go_wp2_with fail
  refine (region_any _ (HM.out.on HBX2.out HBX2.out.size) HS.out 1).mono ?_
  rintro e w3 ⟨lv3, rfl, hl3, hb3⟩
  rw [exP_region] at hl3
  have HL3 := Lib.hid (hl3.on ((Below.refl _ _).alloc (Nat.le_refl _) (.cells #[.int .i64 1, .int .i64 2] 3)) (by simp))
  have HB3 := Lib.hid (bstep HB2.out hb3)
  have HBX3 := Lib.hid (bstep HBX2.out hb3)
  clear hb3 hl3
  go_wp2_with fail
  refine (ints_any _ _ [1, 2] [1, 2] _ _ HL3.out (row_lits w3 [1, 2] _ (by decide)) (by decide) (by decide)).mono ?_
  rintro e w4 ⟨rfl, d2, rfl⟩
  rw [decide_eq_true (rfl : ([1, 2] : List Int) = [1, 2])]
  obtain ⟨w4, ew4⟩ : ∃ w4, w4 = (w3.alloc (.cells #[.int .i64 1, .int .i64 2] 3)).drewN d2 := ⟨_, rfl⟩
  rw [← ew4]
  have hb4 : Below w3.heap.size w3 w4 := by rw [ew4]; exact below_dN ((Below.refl _ _).alloc (Nat.le_refl _) _) d2
  have HB4 := Lib.hid (bstep HB3.out hb4)
  have HBX4 := Lib.hid (bstep HBX3.out hb4)
  clear hb4 ew4
  go_wp2_with fail
  refine (held_any _ (HM.out.on HBX4.out HBX4.out.size) HS.out).mono ?_
  rintro e w5 ⟨hv5, rfl, hg5, hb5⟩
  obtain ⟨ha, hc, rfl⟩ := hg5.form
  rw [exP_held]
  have HB5 := Lib.hid (bstep HB4.out hb5)
  clear hb5 hg5
  go_wp2_with fail
  go_ret
  exact ⟨rfl, HB5.out⟩
end Go.Proofs.Ytbdmpilaeoclgaa
