import Derived.Test.YtgfjdnmnjabbbaaDoorPolP
import Derived.Test.YtgfjdnmnjabbbaaDoorTextG
import Derived.Deep.RegionHeld3
import Derived.Deep.QuietTactic
import Derived.BigQuiet
set_option linter.unusedSimpArgs false
set_option linter.unusedVariables false
/-! policy: names: Word, isName, Contains -/
namespace Go.Proofs.YtgfjdnmnjabbbaaDoor
open Go.RowKit

theorem wordFrom_step (s : ByteArray) (f k : Nat) (l : List UInt8) (hl : (wordW k).toList = l) (h : (s.toList == l) = false) : wordFrom s (f + 1) k = wordFrom s f (k + 1) := by
  subst hl
  simp only [wordFrom]
  rw [if_neg (by intro e; rw [beq_iff_eq] at e; rw [e] at h; simp at h)]
theorem wordFrom_hit (s : ByteArray) (f k : Nat) (l : List UInt8) (hl : (wordW k).toList = l) (h : (s.toList == l) = true) : wordFrom s (f + 1) k = true := by
  subst hl
  simp only [wordFrom]
  rw [if_pos (by rw [beq_iff_eq] at h ⊢; exact h.symm)]
set_option maxRecDepth 100000 in
set_option maxHeartbeats 6400000 in
theorem word_any (s : ByteArray) (w : World) :
    Calls Tryd.prog 61 #[.string s] w fun e w' => e = .returned (.bool (wordB s)) ∧ w' = w := by
  have HW : Hid (wordB s = wordFrom s 26 0) := Lib.hid rfl
  cases h0 : (s.toList == [97, 114, 114, 97, 121])
  rotate_left
  · have HV := Lib.hid (HW.out.trans (wordFrom_hit s 25 0 _ (by rw [ByteArray.toList_eq]; rfl) h0))
    clear HW
    go_enter Tryd.func61, Tryd.ntmps61
    go_wp2_with fail
    go_ret
    exact ⟨ret_bool HV.out.symm, rfl⟩
  replace HW := Lib.hid (HW.out.trans (wordFrom_step s 25 0 _ (by rw [ByteArray.toList_eq]; rfl) h0))
  cases h1 : (s.toList == [102, 110])
  rotate_left
  · have HV := Lib.hid (HW.out.trans (wordFrom_hit s 24 1 _ (by rw [ByteArray.toList_eq]; rfl) h1))
    clear HW
    go_enter Tryd.func61, Tryd.ntmps61
    go_wp2_with fail
    go_ret
    exact ⟨ret_bool HV.out.symm, rfl⟩
  replace HW := Lib.hid (HW.out.trans (wordFrom_step s 24 1 _ (by rw [ByteArray.toList_eq]; rfl) h1))
  cases h2 : (s.toList == [99, 111, 110, 115, 116])
  rotate_left
  · have HV := Lib.hid (HW.out.trans (wordFrom_hit s 23 2 _ (by rw [ByteArray.toList_eq]; rfl) h2))
    clear HW
    go_enter Tryd.func61, Tryd.ntmps61
    go_wp2_with fail
    go_ret
    exact ⟨ret_bool HV.out.symm, rfl⟩
  replace HW := Lib.hid (HW.out.trans (wordFrom_step s 23 2 _ (by rw [ByteArray.toList_eq]; rfl) h2))
  cases h3 : (s.toList == [112, 104, 105])
  rotate_left
  · have HV := Lib.hid (HW.out.trans (wordFrom_hit s 22 3 _ (by rw [ByteArray.toList_eq]; rfl) h3))
    clear HW
    go_enter Tryd.func61, Tryd.ntmps61
    go_wp2_with fail
    go_ret
    exact ⟨ret_bool HV.out.symm, rfl⟩
  replace HW := Lib.hid (HW.out.trans (wordFrom_step s 22 3 _ (by rw [ByteArray.toList_eq]; rfl) h3))
  cases h4 : (s.toList == [108, 111, 97, 100])
  rotate_left
  · have HV := Lib.hid (HW.out.trans (wordFrom_hit s 21 4 _ (by rw [ByteArray.toList_eq]; rfl) h4))
    clear HW
    go_enter Tryd.func61, Tryd.ntmps61
    go_wp2_with fail
    go_ret
    exact ⟨ret_bool HV.out.symm, rfl⟩
  replace HW := Lib.hid (HW.out.trans (wordFrom_step s 21 4 _ (by rw [ByteArray.toList_eq]; rfl) h4))
  cases h5 : (s.toList == [119, 114, 97, 112])
  rotate_left
  · have HV := Lib.hid (HW.out.trans (wordFrom_hit s 20 5 _ (by rw [ByteArray.toList_eq]; rfl) h5))
    clear HW
    go_enter Tryd.func61, Tryd.ntmps61
    go_wp2_with fail
    go_ret
    exact ⟨ret_bool HV.out.symm, rfl⟩
  replace HW := Lib.hid (HW.out.trans (wordFrom_step s 20 5 _ (by rw [ByteArray.toList_eq]; rfl) h5))
  cases h6 : (s.toList == [115, 116, 111, 114, 101])
  rotate_left
  · have HV := Lib.hid (HW.out.trans (wordFrom_hit s 19 6 _ (by rw [ByteArray.toList_eq]; rfl) h6))
    clear HW
    go_enter Tryd.func61, Tryd.ntmps61
    go_wp2_with fail
    go_ret
    exact ⟨ret_bool HV.out.symm, rfl⟩
  replace HW := Lib.hid (HW.out.trans (wordFrom_step s 19 6 _ (by rw [ByteArray.toList_eq]; rfl) h6))
  cases h7 : (s.toList == [99, 97, 108, 108])
  rotate_left
  · have HV := Lib.hid (HW.out.trans (wordFrom_hit s 18 7 _ (by rw [ByteArray.toList_eq]; rfl) h7))
    clear HW
    go_enter Tryd.func61, Tryd.ntmps61
    go_wp2_with fail
    go_ret
    exact ⟨ret_bool HV.out.symm, rfl⟩
  replace HW := Lib.hid (HW.out.trans (wordFrom_step s 18 7 _ (by rw [ByteArray.toList_eq]; rfl) h7))
  cases h8 : (s.toList == [105, 110, 112, 117, 116])
  rotate_left
  · have HV := Lib.hid (HW.out.trans (wordFrom_hit s 17 8 _ (by rw [ByteArray.toList_eq]; rfl) h8))
    clear HW
    go_enter Tryd.func61, Tryd.ntmps61
    go_wp2_with fail
    go_ret
    exact ⟨ret_bool HV.out.symm, rfl⟩
  replace HW := Lib.hid (HW.out.trans (wordFrom_step s 17 8 _ (by rw [ByteArray.toList_eq]; rfl) h8))
  cases h9 : (s.toList == [111, 117, 116, 112, 117, 116])
  rotate_left
  · have HV := Lib.hid (HW.out.trans (wordFrom_hit s 16 9 _ (by rw [ByteArray.toList_eq]; rfl) h9))
    clear HW
    go_enter Tryd.func61, Tryd.ntmps61
    go_wp2_with fail
    go_ret
    exact ⟨ret_bool HV.out.symm, rfl⟩
  replace HW := Lib.hid (HW.out.trans (wordFrom_step s 16 9 _ (by rw [ByteArray.toList_eq]; rfl) h9))
  cases h10 : (s.toList == [114, 101, 108, 101, 97, 115, 101])
  rotate_left
  · have HV := Lib.hid (HW.out.trans (wordFrom_hit s 15 10 _ (by rw [ByteArray.toList_eq]; rfl) h10))
    clear HW
    go_enter Tryd.func61, Tryd.ntmps61
    go_wp2_with fail
    go_ret
    exact ⟨ret_bool HV.out.symm, rfl⟩
  replace HW := Lib.hid (HW.out.trans (wordFrom_step s 15 10 _ (by rw [ByteArray.toList_eq]; rfl) h10))
  cases h11 : (s.toList == [106, 117, 109, 112])
  rotate_left
  · have HV := Lib.hid (HW.out.trans (wordFrom_hit s 14 11 _ (by rw [ByteArray.toList_eq]; rfl) h11))
    clear HW
    go_enter Tryd.func61, Tryd.ntmps61
    go_wp2_with fail
    go_ret
    exact ⟨ret_bool HV.out.symm, rfl⟩
  replace HW := Lib.hid (HW.out.trans (wordFrom_step s 14 11 _ (by rw [ByteArray.toList_eq]; rfl) h11))
  cases h12 : (s.toList == [98, 114, 97, 110, 99, 104])
  rotate_left
  · have HV := Lib.hid (HW.out.trans (wordFrom_hit s 13 12 _ (by rw [ByteArray.toList_eq]; rfl) h12))
    clear HW
    go_enter Tryd.func61, Tryd.ntmps61
    go_wp2_with fail
    go_ret
    exact ⟨ret_bool HV.out.symm, rfl⟩
  replace HW := Lib.hid (HW.out.trans (wordFrom_step s 13 12 _ (by rw [ByteArray.toList_eq]; rfl) h12))
  cases h13 : (s.toList == [114, 101, 116, 117, 114, 110])
  rotate_left
  · have HV := Lib.hid (HW.out.trans (wordFrom_hit s 12 13 _ (by rw [ByteArray.toList_eq]; rfl) h13))
    clear HW
    go_enter Tryd.func61, Tryd.ntmps61
    go_wp2_with fail
    go_ret
    exact ⟨ret_bool HV.out.symm, rfl⟩
  replace HW := Lib.hid (HW.out.trans (wordFrom_step s 12 13 _ (by rw [ByteArray.toList_eq]; rfl) h13))
  cases h14 : (s.toList == [97, 100, 100])
  rotate_left
  · have HV := Lib.hid (HW.out.trans (wordFrom_hit s 11 14 _ (by rw [ByteArray.toList_eq]; rfl) h14))
    clear HW
    go_enter Tryd.func61, Tryd.ntmps61
    go_wp2_with fail
    go_ret
    exact ⟨ret_bool HV.out.symm, rfl⟩
  replace HW := Lib.hid (HW.out.trans (wordFrom_step s 11 14 _ (by rw [ByteArray.toList_eq]; rfl) h14))
  cases h15 : (s.toList == [115, 117, 98])
  rotate_left
  · have HV := Lib.hid (HW.out.trans (wordFrom_hit s 10 15 _ (by rw [ByteArray.toList_eq]; rfl) h15))
    clear HW
    go_enter Tryd.func61, Tryd.ntmps61
    go_wp2_with fail
    go_ret
    exact ⟨ret_bool HV.out.symm, rfl⟩
  replace HW := Lib.hid (HW.out.trans (wordFrom_step s 10 15 _ (by rw [ByteArray.toList_eq]; rfl) h15))
  cases h16 : (s.toList == [109, 117, 108])
  rotate_left
  · have HV := Lib.hid (HW.out.trans (wordFrom_hit s 9 16 _ (by rw [ByteArray.toList_eq]; rfl) h16))
    clear HW
    go_enter Tryd.func61, Tryd.ntmps61
    go_wp2_with fail
    go_ret
    exact ⟨ret_bool HV.out.symm, rfl⟩
  replace HW := Lib.hid (HW.out.trans (wordFrom_step s 9 16 _ (by rw [ByteArray.toList_eq]; rfl) h16))
  cases h17 : (s.toList == [100, 105, 118])
  rotate_left
  · have HV := Lib.hid (HW.out.trans (wordFrom_hit s 8 17 _ (by rw [ByteArray.toList_eq]; rfl) h17))
    clear HW
    go_enter Tryd.func61, Tryd.ntmps61
    go_wp2_with fail
    go_ret
    exact ⟨ret_bool HV.out.symm, rfl⟩
  replace HW := Lib.hid (HW.out.trans (wordFrom_step s 8 17 _ (by rw [ByteArray.toList_eq]; rfl) h17))
  cases h18 : (s.toList == [109, 111, 100])
  rotate_left
  · have HV := Lib.hid (HW.out.trans (wordFrom_hit s 7 18 _ (by rw [ByteArray.toList_eq]; rfl) h18))
    clear HW
    go_enter Tryd.func61, Tryd.ntmps61
    go_wp2_with fail
    go_ret
    exact ⟨ret_bool HV.out.symm, rfl⟩
  replace HW := Lib.hid (HW.out.trans (wordFrom_step s 7 18 _ (by rw [ByteArray.toList_eq]; rfl) h18))
  cases h19 : (s.toList == [97, 110, 100])
  rotate_left
  · have HV := Lib.hid (HW.out.trans (wordFrom_hit s 6 19 _ (by rw [ByteArray.toList_eq]; rfl) h19))
    clear HW
    go_enter Tryd.func61, Tryd.ntmps61
    go_wp2_with fail
    go_ret
    exact ⟨ret_bool HV.out.symm, rfl⟩
  replace HW := Lib.hid (HW.out.trans (wordFrom_step s 6 19 _ (by rw [ByteArray.toList_eq]; rfl) h19))
  cases h20 : (s.toList == [111, 114])
  rotate_left
  · have HV := Lib.hid (HW.out.trans (wordFrom_hit s 5 20 _ (by rw [ByteArray.toList_eq]; rfl) h20))
    clear HW
    go_enter Tryd.func61, Tryd.ntmps61
    go_wp2_with fail
    go_ret
    exact ⟨ret_bool HV.out.symm, rfl⟩
  replace HW := Lib.hid (HW.out.trans (wordFrom_step s 5 20 _ (by rw [ByteArray.toList_eq]; rfl) h20))
  cases h21 : (s.toList == [120, 111, 114])
  rotate_left
  · have HV := Lib.hid (HW.out.trans (wordFrom_hit s 4 21 _ (by rw [ByteArray.toList_eq]; rfl) h21))
    clear HW
    go_enter Tryd.func61, Tryd.ntmps61
    go_wp2_with fail
    go_ret
    exact ⟨ret_bool HV.out.symm, rfl⟩
  replace HW := Lib.hid (HW.out.trans (wordFrom_step s 4 21 _ (by rw [ByteArray.toList_eq]; rfl) h21))
  cases h22 : (s.toList == [115, 104, 108])
  rotate_left
  · have HV := Lib.hid (HW.out.trans (wordFrom_hit s 3 22 _ (by rw [ByteArray.toList_eq]; rfl) h22))
    clear HW
    go_enter Tryd.func61, Tryd.ntmps61
    go_wp2_with fail
    go_ret
    exact ⟨ret_bool HV.out.symm, rfl⟩
  replace HW := Lib.hid (HW.out.trans (wordFrom_step s 3 22 _ (by rw [ByteArray.toList_eq]; rfl) h22))
  cases h23 : (s.toList == [115, 104, 114])
  rotate_left
  · have HV := Lib.hid (HW.out.trans (wordFrom_hit s 2 23 _ (by rw [ByteArray.toList_eq]; rfl) h23))
    clear HW
    go_enter Tryd.func61, Tryd.ntmps61
    go_wp2_with fail
    go_ret
    exact ⟨ret_bool HV.out.symm, rfl⟩
  replace HW := Lib.hid (HW.out.trans (wordFrom_step s 2 23 _ (by rw [ByteArray.toList_eq]; rfl) h23))
  cases h24 : (s.toList == [101, 113])
  rotate_left
  · have HV := Lib.hid (HW.out.trans (wordFrom_hit s 1 24 _ (by rw [ByteArray.toList_eq]; rfl) h24))
    clear HW
    go_enter Tryd.func61, Tryd.ntmps61
    go_wp2_with fail
    go_ret
    exact ⟨ret_bool HV.out.symm, rfl⟩
  replace HW := Lib.hid (HW.out.trans (wordFrom_step s 1 24 _ (by rw [ByteArray.toList_eq]; rfl) h24))
  cases h25 : (s.toList == [108, 101, 115, 115])
  rotate_left
  · have HV := Lib.hid (HW.out.trans (wordFrom_hit s 0 25 _ (by rw [ByteArray.toList_eq]; rfl) h25))
    clear HW
    go_enter Tryd.func61, Tryd.ntmps61
    go_wp2_with fail
    go_ret
    exact ⟨ret_bool HV.out.symm, rfl⟩
  replace HW := Lib.hid (HW.out.trans (wordFrom_step s 0 25 _ (by rw [ByteArray.toList_eq]; rfl) h25))
  go_enter Tryd.func61, Tryd.ntmps61
  go_wp2_with fail
  go_ret
  exact ⟨ret_bool HW.out.symm, rfl⟩
/-- may a level or a channel be called s? -/
def pnameB (s : ByteArray) : Bool := nameB s && !wordB s
set_option maxRecDepth 100000 in
set_option maxHeartbeats 1600000 in
theorem isname_any (s : ByteArray) (w : World) (hs : s.size ≤ 562949953421312) :
    Calls Tryd.prog 44 #[.string s] w fun e w' => e = .returned (.bool (pnameB s)) ∧ Below w.heap.size w w' := by
  cases hn : nameB s
  · have HN := Lib.hid (show pnameB s = false by unfold pnameB; rw [hn]; rfl)
    go_enter Tryd.func44, Tryd.ntmps44
    go_wp2_with (first
      | (go_at_call 60; refine (name_any s _ hs).mono ?_; rintro e w' ⟨rfl, hb⟩; rw [hn]))
    go_ret
    exact ⟨ret_bool HN.out.symm, hb⟩
  · have HN := Lib.hid (show pnameB s = !wordB s by unfold pnameB; rw [hn]; rfl)
    go_enter Tryd.func44, Tryd.ntmps44
    go_wp2_with (first
      | (go_at_call 60; refine (name_any s _ hs).mono ?_; rintro e w' ⟨rfl, hb⟩; rw [hn])
      | (go_at_call 61; refine (word_any s _).mono ?_; rintro e w' ⟨rfl, rfl⟩))
    go_ret
    exact ⟨ret_bool HN.out.symm, hb⟩
set_option maxRecDepth 100000 in
set_option maxHeartbeats 1600000 in
theorem contains_q (v : Value) (ss : List ByteArray) (s : ByteArray) (n : Nat) (w : World) (hv : Strs n w v ss) (hx : ss.length ≤ 9223372036854775807) :
    Calls Tryd.prog 45 #[v, .string s] w fun e w' => e = .returned (.bool (decide (0 ≤ levelI ss s))) ∧ w' = w := by
  have HV := Lib.hid hv
  clear hv
  go_enter Tryd.func45, Tryd.ntmps45
  go_wp2_with (go_at_call 16; refine (index_q v ss s n _ HV.out hx).mono ?_; rintro e w' ⟨rfl, rfl⟩)
  go_ret
  exact ⟨rfl, rfl⟩
end Go.Proofs.YtgfjdnmnjabbbaaDoor
