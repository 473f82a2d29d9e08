import Derived.Test.YthdcamklbjlanaaDoorTextB
import Derived.Test.YthdcamklbjlanaaDoorDoorU
import Derived.Test.YthdcamklbjlanaaDoorJoin
/-! TextNaming: the walk -/
namespace Go.Proofs.YthdcamklbjlanaaDoor
set_option linter.unusedVariables false
open Go.RowKit
theorem naming_tabs {W : World} (h : laidMetH Tryd.prog Rows.textNamingRow.laid W) : Lib.Utf8Tabs 0 1 W := utabs_of h (by kernel_rfl)

def str7 : ByteArray := ⟨#[55]⟩
def strq : ByteArray := ⟨#[113]⟩
def strB : ByteArray := ⟨#[32]⟩
theorem name_q : nameB strq = true := by decide +kernel
theorem nameB_parts {s : ByteArray} (h : nameB s = true) : 0 < (allP s).length ∧ (allP s).length ≤ 24 ∧ ∀ p ∈ allP s, okB s p = true := by
  unfold nameB at h
  simp only [Bool.and_eq_true, decide_eq_true_eq, List.all_eq_true] at h
  exact ⟨h.1.1, h.1.2, h.2⟩
theorem nobad_of {s : ByteArray} (h : nameB s = true) : ∀ p ∈ allP s, badB s p = false := by
  intro p hm
  cases hb : badB s p
  · rfl
  · have h1 := rn_bad s p hb
    rw [(nameB_parts h).2.2 p hm] at h1
    cases h1
theorem okB_l (a b : ByteArray) (p : Nat) (hm : p ∈ allP a) (ha : badB a p = false) : okB (a ++ b) p = okB a p := by
  have := decode_l a b p (poss_lt a _ _ p hm) ha
  unfold okB rn; rw [this]
theorem rn_r (a b : ByteArray) : rn (a ++ b) a.size = rn b 0 := by
  have := decode_r a b 0
  unfold rn; rw [← this]; rfl
theorem size_pos {s : ByteArray} (h : nameB s = true) : 0 < s.size := by
  have := allP_len s
  have := (nameB_parts h).1
  omega
/-- a rune of one byte behind a name -/
theorem one_behind {s x : ByteArray} (h : nameB s = true) (hx : allP x = [0]) : allP (s ++ x) = allP s ++ [s.size] := by
  rw [allP_join s x (nobad_of h), hx]; rfl
theorem name_behind {s x : ByteArray} (h : nameB s = true) (hx : allP x = [0]) (hok : letterB (rn x 0) = true ∨ digitB (rn x 0) = true) : nameB (s ++ x) = !((allP s).length == 24) := by
  obtain ⟨h1, h2, h3⟩ := nameB_parts h
  have hp := size_pos h
  have hall : (allP (s ++ x)).all (okB (s ++ x)) = true := by
    rw [one_behind h hx, List.all_append, Bool.and_eq_true]
    refine ⟨List.all_eq_true.2 fun p hm => ?_, ?_⟩
    · rw [okB_l s x p hm (nobad_of h p hm)]; exact h3 p hm
    · simp only [List.all_cons, List.all_nil, Bool.and_true]
      unfold okB
      rw [rn_r]
      have hz : (s.size != 0) = true := by rw [bne_iff_ne]; omega
      rcases hok with hok | hok <;> rw [hok] <;> simp [hz]
  unfold nameB
  rw [hall, one_behind h hx, List.length_append, decide_eq_true (by simp)]
  by_cases h24 : (allP s).length = 24
  · rw [h24]; rfl
  · have : ((allP s).length == 24) = false := by rw [beq_eq_false_iff_ne]; exact h24
    rw [this, decide_eq_true (by simp; omega)]; rfl
theorem name_blank {s : ByteArray} (h : nameB s = true) : nameB (s ++ strB) = false := by
  refine nameB_no (s ++ strB) (allP s) [] s.size (one_behind h (by decide +kernel)) ?_
  unfold okB
  rw [rn_r, show rn strB 0 = 32 from by decide +kernel]
  rw [show letterB ((32 : Nat) : Int) = false from by decide +kernel, show digitB ((32 : Nat) : Int) = false from by decide +kernel]
  simp
theorem name_ahead (s : ByteArray) : nameB (str7 ++ s) = false := by
  have hb : ∀ p ∈ allP str7, badB str7 p = false := by decide +kernel
  have ha : allP (str7 ++ s) = [] ++ 0 :: (allP s).map (str7.size + ·) := by
    rw [allP_join str7 s hb, show allP str7 = [0] from by decide +kernel]; rfl
  refine nameB_no _ _ _ _ ha ?_
  have e : okB (str7 ++ s) 0 = okB str7 0 := okB_l str7 s 0 (by decide +kernel) (by decide +kernel)
  rw [e]; decide +kernel

set_option maxRecDepth 100000 in
set_option maxHeartbeats 1600000 in
theorem textNaming_walk (s : ByteArray) (w : World) (hs : s.size ≤ 140737488351232) (hT : Lib.Utf8Tabs 0 1 w) :
    Calls Tryd.prog 9 #[.string s] w fun e w' => e = .returned (.bool true) ∧ Below w.heap.size w w' := by
  have HT := Lib.hid hT
  clear hT
  cases hn : nameB s
  · go_enter Tryd.func9, Tryd.ntmps9
    go_wp2_with fail
    refine (name_any _ _ (by omega)).mono ?_
    rintro e w1 ⟨rfl, hb1⟩
    rw [hn]
    go_wp2_with fail
    refine (name_any strq _ (by decide)).mono ?_
    rintro e w2 ⟨rfl, hb2⟩
    rw [name_q]
    go_wp2_with fail
    go_ret
    exact ⟨rfl, bstep hb1 hb2⟩
  · have H7 := Lib.hid (name_behind (x := str7) hn (by decide +kernel) (.inr (by decide +kernel)))
    have Hq := Lib.hid (name_behind (x := strq) hn (by decide +kernel) (.inl (by decide +kernel)))
    have HB := Lib.hid (name_blank hn)
    have HA := Lib.hid (name_ahead s)
    have HN := Lib.hid (badI_none s _ rfl (nobad_of hn))
    have HF := Lib.hid hn
    have z7 := Lib.hid (show (s ++ str7).size ≤ 562949953421312 by rw [ByteArray.size_append]; have : str7.size = 1 := rfl; omega)
    have zq := Lib.hid (show (s ++ strq).size ≤ 562949953421312 by rw [ByteArray.size_append]; have : strq.size = 1 := rfl; omega)
    have zb := Lib.hid (show (s ++ strB).size ≤ 562949953421312 by rw [ByteArray.size_append]; have : strB.size = 1 := rfl; omega)
    have za := Lib.hid (show (str7 ++ s).size ≤ 562949953421312 by rw [ByteArray.size_append]; have : str7.size = 1 := rfl; omega)
    obtain ⟨l, hl, hle⟩ : ∃ l : Bool, (((allP s).length : Int) == 24) = l ∧ ((allP s).length == 24) = l :=
      ⟨_, rfl, by rw [Bool.eq_iff_iff, beq_iff_eq, beq_iff_eq]; omega⟩
    have HLE := Lib.hid hle
    clear hn hle
    go_enter Tryd.func9, Tryd.ntmps9
    go_wp2_with fail
    refine (name_any _ _ (by omega)).mono ?_
    rintro e w1 ⟨rfl, hb1⟩
    rw [HF.out]
    go_wp2_with fail
    refine (runes_any _ _ (by omega)).mono ?_
    rintro e w2 ⟨rfl, hb2⟩
    have hB2 := bstep hb1 hb2
    clear hb1 hb2
    go_wp2_with fail
    refine (name_any (s ++ str7) _ z7.out).mono ?_
    rintro e w3 ⟨rfl, hb3⟩
    rw [H7.out, HLE.out]
    have hB3 := bstep hB2 hb3
    clear hB2 hb3
    go_wp2_with fail
    refine (name_any (s ++ strq) _ zq.out).mono ?_
    rintro e w4 ⟨rfl, hb4⟩
    rw [Hq.out, HLE.out]
    have hB4 := bstep hB3 hb4
    clear hB3 hb4
    go_wp2_with fail
    refine (name_any (str7 ++ s) _ za.out).mono ?_
    rintro e w5 ⟨rfl, hb5⟩
    rw [HA.out]
    have hB5 := bstep hB4 hb5
    clear hB4 hb5
    go_wp2_with fail
    refine (name_any (s ++ strB) _ zb.out).mono ?_
    rintro e w6 ⟨rfl, hb6⟩
    rw [HB.out]
    have hB6 := bstep hB5 hb6
    clear hB5 hb6
    go_wp2_with fail
    refine (bad_any _ _ (by omega) (Utf8Tabs_below HT.out hB6)).mono ?_
    rintro e w7 ⟨rfl, hb7⟩
    rw [HN.out]
    have hB7 := bstep hB6 hb7
    clear hB6 hb7
    go_wp2_with fail
    go_ret
    exact ⟨rfl, hB7⟩
end Go.Proofs.YthdcamklbjlanaaDoor
