import Derived.Test.YthdcamklbjlanaaDoorBase
import Derived.Test.YthdcamklbjlanaaDoorTextM
/-! the reference's forms of runes -/
namespace Go.Proofs.YthdcamklbjlanaaDoor
set_option linter.unusedVariables false
open Go.RowKit

def byteAt (s : ByteArray) (i : Nat) : Int := ((s.get! i).toNat : Int)
def moreB (s : ByteArray) (i : Int) (l m : Int) : Bool := decide (i < s.size) && (decide (l ≤ byteAt s i.toNat) && decide (byteAt s i.toNat ≤ m))
theorem byteAt_get (s : ByteArray) (i : Nat) (h : i < s.size) : ((s[i]'h).toNat : Int) = byteAt s i := by
  unfold byteAt
  rw [show s.get! i = s[i]'h by simp [ByteArray.get!, getElem!_pos, h]; rfl]
theorem byteAt_bd (s : ByteArray) (i : Nat) : 0 ≤ byteAt s i ∧ byteAt s i ≤ 255 := by
  unfold byteAt; have := (s.get! i).toNat_lt; omega

set_option maxHeartbeats 400000 in
theorem more_any (s : ByteArray) (i l m : Int) (w : World) (h0 : 0 ≤ i) :
    Calls Tryd.prog 28 #[.string s, .int .i64 i, .int .u8 l, .int .u8 m] w fun e w' => e = .returned (.bool (moreB s i l m)) ∧ w = w' := by
  obtain ⟨k, rfl⟩ := Int.eq_ofNat_of_zero_le h0
  by_cases h1 : k < s.size
  · have hg := Lib.hid (byteAt_get s k h1)
    by_cases h2 : l ≤ byteAt s k
    · have hv := Lib.hid (show decide (byteAt s k ≤ m) = moreB s k l m by unfold moreB; rw [Int.toNat_natCast, decide_eq_true (show (k : Int) < s.size by omega), decide_eq_true h2]; rfl)
      have h2' : l ≤ ((s[k]'h1).toNat : Int) := by rw [hg.out]; exact h2
      go_enter Tryd.func28, Tryd.ntmps28
      go_wp2
      go_ret
      exact ⟨ret_bool (by rw [hg.out]; exact hv.out), rfl⟩
    · have hv := Lib.hid (show false = moreB s k l m by unfold moreB; rw [Int.toNat_natCast, decide_eq_true (show (k : Int) < s.size by omega), decide_eq_false h2]; rfl)
      have h2' : ((s[k]'h1).toNat : Int) < l := by rw [hg.out]; omega
      go_enter Tryd.func28, Tryd.ntmps28
      go_wp2
      go_ret
      exact ⟨ret_bool hv.out, rfl⟩
  · have hv := Lib.hid (show false = moreB s k l m by unfold moreB; rw [decide_eq_false (show ¬ (k : Int) < s.size by omega)]; rfl)
    have h1' : (s.size : Int) ≤ k := by omega
    go_enter Tryd.func28, Tryd.ntmps28
    go_wp2
    go_ret
    exact ⟨ret_bool hv.out, rfl⟩
/-- the form that begins at i: its rune, its length; 0, 0: none -/
def formI (s : ByteArray) (i : Int) : Int × Int :=
  if 0 ≤ i ∧ i < s.size then (((TM.fN (s.size - i.toNat) (s.get! i.toNat).toNat (s.get! (i.toNat + 1)).toNat (s.get! (i.toNat + 2)).toNat (s.get! (i.toNat + 3)).toNat).1 : Int),
    ((TM.fN (s.size - i.toNat) (s.get! i.toNat).toNat (s.get! (i.toNat + 1)).toNat (s.get! (i.toNat + 2)).toNat (s.get! (i.toNat + 3)).toNat).2 : Int)) else (0, 0)
theorem formI_out (s : ByteArray) (i : Int) (h : ¬ (0 ≤ i ∧ i < s.size)) : formI s i = (0, 0) := by unfold formI; rw [if_neg h]
theorem formI_in (s : ByteArray) (k : Nat) (h : k < s.size) (v j : Nat)
    (e : TM.fN (s.size - k) (s.get! k).toNat (s.get! (k + 1)).toNat (s.get! (k + 2)).toNat (s.get! (k + 3)).toNat = (v, j)) : formI s k = ((v : Int), (j : Int)) := by
  unfold formI; rw [if_pos (by omega), Int.toNat_natCast, e]
theorem more_yes (s : ByteArray) (k j : Nat) (l m : Int) (h : moreB s ((k : Int) + j) l m = true) : j < s.size - k ∧ l ≤ byteAt s (k + j) ∧ byteAt s (k + j) ≤ m := by
  unfold moreB at h
  simp only [Bool.and_eq_true, decide_eq_true_eq] at h
  rw [show ((k : Int) + j).toNat = k + j by omega] at h
  exact ⟨by omega, h.2.1, h.2.2⟩
theorem more_no (s : ByteArray) (k j : Nat) (l m : Int) (h : moreB s ((k : Int) + j) l m = false) : ¬ (j < s.size - k ∧ l ≤ byteAt s (k + j) ∧ byteAt s (k + j) ≤ m) := by
  intro ⟨h1, h2, h3⟩
  unfold moreB at h
  rw [show ((k : Int) + j).toNat = k + j by omega, decide_eq_true (show (k : Int) + j < s.size by omega), decide_eq_true h2, decide_eq_true h3] at h
  cases h
theorem ret_form {s : ByteArray} {i a b : Int} (h : formI s i = (a, b)) : Ending.returned (.tuple #[.int .i64 a, .int .i64 b]) = .returned (.tuple #[.int .i64 (formI s i).1, .int .i64 (formI s i).2]) := by rw [h]
theorem and63 (b : Int) (h0 : 0 ≤ b) (h1 : b ≤ 255) : bits .and .u8 b 63 = b % 64 := by
  rw [u8_and b 63 h0 (by omega) (by omega) (by omega), show (63 : Int).toNat = 63 from rfl, nat_mask6]; omega
theorem and15 (b : Int) (h0 : 0 ≤ b) (h1 : b ≤ 255) : bits .and .u8 b 15 = b % 16 := by
  rw [u8_and b 15 h0 (by omega) (by omega) (by omega), show (15 : Int).toNat = 15 from rfl, nat_mask4]; omega
theorem and31 (b : Int) (h0 : 0 ≤ b) (h1 : b ≤ 255) : bits .and .u8 b 31 = b % 32 := by
  rw [u8_and b 31 h0 (by omega) (by omega) (by omega), show (31 : Int).toNat = 31 from rfl, nat_mask5]; omega
theorem and7 (b : Int) (h0 : 0 ≤ b) (h1 : b ≤ 255) : bits .and .u8 b 7 = b % 8 := by
  rw [u8_and b 7 h0 (by omega) (by omega) (by omega), show (7 : Int).toNat = 7 from rfl, nat_mask3]; omega

end Go.Proofs.YthdcamklbjlanaaDoor
