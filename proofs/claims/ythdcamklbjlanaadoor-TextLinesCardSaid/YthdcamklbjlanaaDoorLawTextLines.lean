import Derived.Test.YthdcamklbjlanaaDoorTextN
import Derived.Test.YthdcamklbjlanaaDoorDoor
import Derived.Test.YthdcamklbjlanaaDoorLines
import Derived.Test.YthdcamklbjlanaaDoorLays
/-! TextLines: the walk -/
namespace Go.Proofs.YthdcamklbjlanaaDoor
set_option linter.unusedVariables false
open Go.RowKit

set_option maxHeartbeats 400000 in
theorem show_seven (w : World) :
    Calls Tryd.prog 16 #[.int .i64 7] w fun e w' => e = .returned (.string ⟨#[55]⟩) ∧ w = w' := by
  have h := Tryd.strconv_FormatInt_10_small 7 (by decide) w
  rw [show (Lib.decDigits 7).toArray = #[55] from by rw [Lib.decDigits_one (by decide)]; rfl] at h
  have H := Lib.hid h
  clear h
  go_enter Tryd.func16, Tryd.ntmps16
  go_wp2_with fail
  refine H.out.mono ?_
  rintro e w1 ⟨rfl, rfl⟩
  go_wp2_with fail
  go_ret
  exact ⟨rfl, rfl⟩

set_option maxRecDepth 100000 in
set_option maxHeartbeats 800000 in
theorem textLines_out (a b : ByteArray) (i : Int) (w : World) (h : 5000 < (a.size : Int) ∨ 5000 < (b.size : Int) ∨ i < 0 ∨ (b.size : Int) < i) :
    Calls Tryd.prog 8 #[.string a, .string b, .int .i64 i] w fun e w' => e = .returned (.bool true) ∧ Below w.heap.size w w' := by
  by_cases h1 : 5000 < (a.size : Int)
  · clear h
    go_enter Tryd.func8, Tryd.ntmps8
    go_wp2_with fail
    refine (show_seven _).mono ?_
    rintro e w1 ⟨rfl, rfl⟩
    go_wp2_with fail
    go_ret
    exact ⟨rfl, Below.refl _ _⟩
  by_cases h2 : 5000 < (b.size : Int)
  · clear h
    go_enter Tryd.func8, Tryd.ntmps8
    go_wp2_with fail
    refine (show_seven _).mono ?_
    rintro e w1 ⟨rfl, rfl⟩
    go_wp2_with fail
    go_ret
    exact ⟨rfl, Below.refl _ _⟩
  by_cases h3 : i < 0
  · clear h
    go_enter Tryd.func8, Tryd.ntmps8
    go_wp2_with fail
    refine (show_seven _).mono ?_
    rintro e w1 ⟨rfl, rfl⟩
    go_wp2_with fail
    go_ret
    exact ⟨rfl, Below.refl _ _⟩
  · have h4 : (b.size : Int) < i := by omega
    clear h
    go_enter Tryd.func8, Tryd.ntmps8
    go_wp2_with fail
    refine (show_seven _).mono ?_
    rintro e w1 ⟨rfl, rfl⟩
    go_wp2_with fail
    go_ret
    exact ⟨rfl, Below.refl _ _⟩

set_option maxRecDepth 100000 in
set_option maxHeartbeats 1600000 in
theorem textLines_in (a b : ByteArray) (k : Nat) (w : World) (ha : a.size ≤ 5000) (hb : b.size ≤ 5000) (hk : k ≤ b.size) :
    Calls Tryd.prog 8 #[.string a, .string b, .int .i64 k] w fun e w' => e = .returned (.bool true) ∧ Below w.heap.size w w' := by
  have HL := Lib.hid (lines_at a b k hk)
  have hkb : (k : Int) ≤ b.size := by omega
  have hnb := nl_le b k
  have hc1 : 0 ≤ lineI b k := by unfold lineI; omega
  have hc2 : lineI b k ≤ 6000 := by unfold lineI; omega
  have hz : (a ++ strNL ++ b).size ≤ 140737488351232 := by rw [ByteArray.size_append, ByteArray.size_append]; have : strNL.size = 1 := rfl; omega
  have hk2 : a.size + 1 + k ≤ (a ++ strNL ++ b).size := by rw [ByteArray.size_append, ByteArray.size_append]; have : strNL.size = 1 := rfl; omega
  have HP : Hid (∀ wx : World, Calls Tryd.prog 18 #[.string (a ++ ⟨#[10]⟩ ++ b), .int .i64 ((a.size : Int) + 1 + (k : Int))] wx fun e w' => e = .returned (.tuple #[.int .i64 (lineI b k + (nl a a.size : Int) + 1), .int .i64 (colI b k)]) ∧ Below wx.heap.size wx w') := Lib.hid (by
    intro wx
    have h := place_any (a ++ strNL ++ b) (a.size + 1 + k) wx hz hk2
    rw [HL.out.1, HL.out.2, show ((a.size + 1 + k : Nat) : Int) = (a.size : Int) + 1 + (k : Int) by omega] at h
    exact h)
  clear hz hk2
  go_enter Tryd.func8, Tryd.ntmps8
  go_wp2_with fail
  refine (place_any b k _ (by omega) hk).mono ?_
  rintro e w1 ⟨rfl, hb1⟩
  go_wp2_with fail
  go_loop [9, 10] (fun n i => ∃ j : Nat, j ≤ a.size ∧ i = .int .i64 j ∧ n = .int .i64 (nl a j : Int)) (fun _ i => a.size - (intOf i).toNat)
  case atStart => exact ⟨0, Nat.zero_le _, rfl, rfl⟩
  case round =>
    obtain ⟨j, hj, rfl, rfl⟩ := hrel
    have hnl := nl_le a j
    by_cases hlt : j < a.size
    · have hg := byteAt_get a j (by omega)
      cases hbt : (byteAt a j == 10)
      · have hb' : byteAt a j ≠ 10 := by intro e; rw [e] at hbt; simp at hbt
        have HA := Lib.hid (show nl a (j + 1) = nl a j by simp [nl, hb'])
        clear hb'
        go_wp2_with fail
        go_round
        case rel => exact ⟨j + 1, by omega, by go_num, by rw [HA.out]⟩
        case measure => simp [intOf]; omega
      · have hb' : byteAt a j = 10 := beq_iff_eq.1 hbt
        have HA := Lib.hid (show nl a (j + 1) = nl a j + 1 by simp [nl, hb'])
        clear hb'
        go_wp2_with fail
        go_round
        case rel => exact ⟨j + 1, by omega, by go_num, by rw [HA.out]; go_num⟩
        case measure => simp [intOf]; omega
    · obtain rfl : j = a.size := by omega
      go_wp2_with fail
      refine (HP.out _).mono ?_
      rintro e w2 ⟨rfl, hb2⟩
      have hB2 := bstep hb1 hb2
      clear hb1 hb2
      go_wp2_with fail
      refine (show_seven _).mono ?_
      rintro e w3 ⟨rfl, rfl⟩
      go_wp2_with fail
      go_ret
      exact ⟨rfl, hB2⟩

theorem textLines_walk (a b : ByteArray) (i : Int) (w : World) :
    Calls Tryd.prog 8 #[.string a, .string b, .int .i64 i] w fun e w' => e = .returned (.bool true) ∧ Below w.heap.size w w' := by
  by_cases h : 5000 < (a.size : Int) ∨ 5000 < (b.size : Int) ∨ i < 0 ∨ (b.size : Int) < i
  · exact textLines_out a b i w h
  · obtain ⟨k, rfl⟩ : ∃ k : Nat, i = k := ⟨i.toNat, by omega⟩
    exact textLines_in a b k w (by omega) (by omega) (by omega)
end Go.Proofs.YthdcamklbjlanaaDoor
