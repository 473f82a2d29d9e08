import Derived.Test.YthdcamklbjlanaaDoorBase
/-! letters and digits: the walks of text.Letter, text.Digit and of the reference's -/
namespace Go.Proofs.YthdcamklbjlanaaDoor
set_option linter.unusedVariables false
open Go.RowKit

/-- does r stand between two ends? -/
def inB (f t r : Int) : Bool := decide (f ≤ r) && decide (r ≤ t)
def letterB (r : Int) : Bool := inB 97 122 r || inB 65 90 r || (r == 95) || inB 945 969 r || (inB 913 937 r && r != 930)
def digitB (r : Int) : Bool := inB 48 57 r

set_option maxHeartbeats 400000 in
theorem between_any (r : Int) (w : World) :
    Calls Tryd.prog 32 #[.int .i32 r] w fun e w' => e = .returned (.func (.func 42) #[] #[.pointer (some ⟨w.heap.size, 0, none⟩)]) ∧ w' = w.alloc (.cells #[.int .i32 r] 21) := by
  go_enter Tryd.func32, Tryd.ntmps32
  go_wp2
  go_ret
  exact ⟨rfl, rfl⟩

set_option maxHeartbeats 400000 in
theorem in_any (f t r : Int) (B : Nat) (w : World) (hc : w.cell? ⟨B, 0, none⟩ = some (.int .i32 r)) :
    Calls Tryd.prog 42 #[.int .i32 f, .int .i32 t, .pointer (some ⟨B, 0, none⟩)] w fun e w' => e = .returned (.bool (inB f t r)) ∧ w = w' := by
  by_cases h : f ≤ r
  · have hv := Lib.hid (show decide (r ≤ t) = inB f t r by unfold inB; rw [decide_eq_true h, Bool.true_and])
    go_enter Tryd.func42, Tryd.ntmps42
    go_wp2
    go_ret
    exact ⟨ret_bool hv.out, rfl⟩
  · have hv := Lib.hid (show false = inB f t r by unfold inB; rw [decide_eq_false h, Bool.false_and])
    have h : r < f := by omega
    go_enter Tryd.func42, Tryd.ntmps42
    go_wp2
    go_ret
    exact ⟨ret_bool hv.out, rfl⟩

theorem cell_new (W : World) (v : Value) (t : TypeId) : (W.alloc (.cells #[v] t)).cell? ⟨W.heap.size, 0, none⟩ = some v := by
  rw [World.cell?_alloc_at _ _ _ _ rfl]; rfl
theorem below_new (W : World) (o : Obj) : Below W.heap.size W (W.alloc o) := (Below.refl _ _).alloc (Nat.le_refl _) _

set_option maxHeartbeats 800000 in
theorem letter_any (r : Int) (w : World) :
    Calls Tryd.prog 25 #[.int .i32 r] w fun e w' => e = .returned (.bool (letterB r)) ∧ Below w.heap.size w w' := by
  have hcell := cell_new w (.int .i32 r) 21
  have hB := below_new w (.cells #[.int .i32 r] 21)
  cases c1 : inB 97 122 r
  · cases c2 : inB 65 90 r
    · cases c3 : (r == 95)
      · cases c4 : inB 945 969 r
        · cases c5 : inB 913 937 r
          · have hv := Lib.hid (show letterB r = false by unfold letterB; rw [c1, c2, c3, c4, c5]; rfl)
            go_enter Tryd.func25, Tryd.ntmps25
            go_wp2_with (first | (go_at_call 32; refine (between_any _ _).mono ?_; rintro e w' ⟨rfl, rfl⟩) | (go_at_call 42; refine (in_any _ _ _ _ _ hcell).mono ?_; rintro e w' ⟨rfl, rfl⟩))
            go_ret
            exact ⟨ret_bool hv.out.symm, hB⟩
          · have hv := Lib.hid (show letterB r = (r != 930) by unfold letterB; rw [c1, c2, c3, c4, c5]; rfl)
            go_enter Tryd.func25, Tryd.ntmps25
            go_wp2_with (first | (go_at_call 32; refine (between_any _ _).mono ?_; rintro e w' ⟨rfl, rfl⟩) | (go_at_call 42; refine (in_any _ _ _ _ _ hcell).mono ?_; rintro e w' ⟨rfl, rfl⟩))
            go_ret
            exact ⟨ret_bool hv.out.symm, hB⟩
        · have hv := Lib.hid (show letterB r = true by unfold letterB; rw [c1, c2, c3, c4]; rfl)
          go_enter Tryd.func25, Tryd.ntmps25
          go_wp2_with (first | (go_at_call 32; refine (between_any _ _).mono ?_; rintro e w' ⟨rfl, rfl⟩) | (go_at_call 42; refine (in_any _ _ _ _ _ hcell).mono ?_; rintro e w' ⟨rfl, rfl⟩))
          go_ret
          exact ⟨ret_bool hv.out.symm, hB⟩
      · have hv := Lib.hid (show letterB r = true by unfold letterB; rw [c1, c2, c3]; rfl)
        go_enter Tryd.func25, Tryd.ntmps25
        go_wp2_with (first | (go_at_call 32; refine (between_any _ _).mono ?_; rintro e w' ⟨rfl, rfl⟩) | (go_at_call 42; refine (in_any _ _ _ _ _ hcell).mono ?_; rintro e w' ⟨rfl, rfl⟩))
        go_ret
        exact ⟨ret_bool hv.out.symm, hB⟩
    · have hv := Lib.hid (show letterB r = true by unfold letterB; rw [c1, c2]; rfl)
      go_enter Tryd.func25, Tryd.ntmps25
      go_wp2_with (first | (go_at_call 32; refine (between_any _ _).mono ?_; rintro e w' ⟨rfl, rfl⟩) | (go_at_call 42; refine (in_any _ _ _ _ _ hcell).mono ?_; rintro e w' ⟨rfl, rfl⟩))
      go_ret
      exact ⟨ret_bool hv.out.symm, hB⟩
  · have hv := Lib.hid (show letterB r = true by unfold letterB; rw [c1]; rfl)
    go_enter Tryd.func25, Tryd.ntmps25
    go_wp2_with (first | (go_at_call 32; refine (between_any _ _).mono ?_; rintro e w' ⟨rfl, rfl⟩) | (go_at_call 42; refine (in_any _ _ _ _ _ hcell).mono ?_; rintro e w' ⟨rfl, rfl⟩))
    go_ret
    exact ⟨ret_bool hv.out.symm, hB⟩

set_option maxHeartbeats 400000 in
theorem digit_any (r : Int) (w : World) :
    Calls Tryd.prog 26 #[.int .i32 r] w fun e w' => e = .returned (.bool (digitB r)) ∧ Below w.heap.size w w' := by
  have hcell := cell_new w (.int .i32 r) 21
  have hB := below_new w (.cells #[.int .i32 r] 21)
  go_enter Tryd.func26, Tryd.ntmps26
  go_wp2_with (first | (go_at_call 32; refine (between_any _ _).mono ?_; rintro e w' ⟨rfl, rfl⟩) | (go_at_call 42; refine (in_any _ _ _ _ _ hcell).mono ?_; rintro e w' ⟨rfl, rfl⟩))
  go_ret
  exact ⟨rfl, hB⟩

theorem letter_at (r : Int) (b : Bool) (h : (97 ≤ r ∧ r ≤ 122 ∨ 65 ≤ r ∧ r ≤ 90 ∨ r = 95 ∨ 945 ≤ r ∧ r ≤ 969 ∨ 913 ≤ r ∧ r ≤ 937 ∧ r ≠ 930) ↔ b = true) : letterB r = b := by
  rw [Bool.eq_iff_iff, ← h]
  unfold letterB inB
  simp only [Bool.or_eq_true, Bool.and_eq_true, decide_eq_true_eq, beq_iff_eq, bne_iff_ne]
  omega

end Go.Proofs.YthdcamklbjlanaaDoor
