import Derived.Test.YtdkpnbjkehakjaaGreatDoorTextG
import Derived.Test.YtdkpnbjkehakjaaGreatDoorLays
import Derived.Shelf.Strings.MapAny
/-! the walks of text.Bad, text.Runes -/
namespace Go.Proofs.YtdkpnbjkehakjaaGreatDoor
set_option linter.unusedVariables false
open Go.RowKit
open Go.Lib (Utf8Tabs)

theorem rune_wf (s : ByteArray) (pos : Nat) : (rn s pos : Int) ≤ 1114111 := by have := rn_le s pos; omega

theorem go_at (s : ByteArray) (pos : Nat) (h : pos < s.size) : Lib.decodeGo (s.extract pos s.size) = (rn s pos, wd s pos) := by
  rw [Lib.decodeGo_extract s pos h]; rfl

set_option maxHeartbeats 800000 in
theorem bad_any (s : ByteArray) (w : World) (hs : s.size ≤ 562949953421312) (hT : Utf8Tabs 0 1 w) :
    Calls Tryz.prog 31 #[.string s] w fun e w' => e = .returned (.int .i64 (badI s)) ∧ Below w.heap.size w w' := by
  have h0 := iter_start w s
  have HTab := Lib.hid hT
  clear hT
  go_enter Tryz.func31, Tryz.ntmps31
  go_wp2_with fail
  go_loopw [3] (fun _ wr => ∃ (pre : List Nat) (pos : Nat), wr.heap[w.heap.size]? = some (.stringIter s pos) ∧ Below w.heap.size w wr ∧ Stand s pre pos ∧ ∀ p ∈ pre, badB s p = false) (fun _ wr => s.size - wr.iterPos w.heap.size)
  case atStart => exact ⟨[], 0, h0.1, h0.2, Stand.start s, by simp⟩
  case round =>
    clear h0
    obtain ⟨pre, pos, hit, hB, hst, hno⟩ := hrel
    have hl := hst.2.1
    have HS := Lib.hid hst
    have HNo := Lib.hid hno
    clear hst hno
    by_cases hlt : pos < s.size
    · obtain ⟨W1, hnx, hit1, hb1, hz1⟩ := range_step (P := Tryz.prog) wr w.heap.size s pos 0 hit hlt
      have hB1 : Below w.heap.size w W1 := hB.trans hb1
      have hmeas := Lib.hid (iterPos_at hit)
      have HN := Lib.hid (HS.out.next hlt)
      have HP : Hid (badB s pos = false → ∀ p ∈ pre ++ [pos], badB s p = false) := Lib.hid (by
        intro hb p hm; rcases List.mem_append.1 hm with hm | hm
        · exact HNo.out p hm
        · simp at hm; subst hm; exact hb)
      have HT1 := Lib.hid (Utf8Tabs_below HTab.out (hB1.mono (Nat.le_refl _)))
      clear hit hb1 hz1
      cases hr : ((rn s pos : Int) == 65533)
      · have HK := Lib.hid (HP.out (by unfold badB; rw [decide_eq_false (by intro e; rw [e] at hr; simp at hr)]; rfl))
        go_wp2_with fail
        go_roundw
        case rel => exact ⟨pre ++ [pos], pos + wd s pos, hit1, hB1, HN.out, HK.out⟩
        case measure => rw [iterPos_at hit1, hmeas.out]; have := wd_pos s pos; omega
      · have hr' : rn s pos = 65533 := by have := beq_iff_eq.1 hr; omega
        have HR := Lib.hid hr'
        clear hr'
        have HG := Lib.hid (go_at s pos hlt)
        cases hw : ((wd s pos : Int) == 1)
        · have HK := Lib.hid (HP.out (by unfold badB; rw [decide_eq_false (p := wd s pos = 1) (by intro e; rw [e] at hw; simp at hw)]; simp))
          go_wp2_with fail
          refine (Tryz.utf8_DecodeRuneInString _ _ HT1.out).mono ?_
          rintro e w2 ⟨rfl, hb2⟩
          rw [HG.out]
          have hit2 := iter_kept hit1 hb2
          have hB2 := hB1.trans (hb2.mono hB1.size)
          clear hit1 hB1 hb2
          go_wp2_with fail
          go_roundw
          case rel => exact ⟨pre ++ [pos], pos + wd s pos, hit2, hB2, HN.out, HK.out⟩
          case measure => rw [iterPos_at hit2, hmeas.out]; have := wd_pos s pos; omega
        · have hw' : wd s pos = 1 := by have := beq_iff_eq.1 hw; omega
          obtain ⟨t, ht⟩ := HS.out.mem hlt
          have HV := Lib.hid (badI_hit s pre pos t ht HNo.out (by unfold badB; rw [HR.out, hw']; rfl))
          clear ht hw'
          go_wp2_with fail
          refine (Tryz.utf8_DecodeRuneInString _ _ HT1.out).mono ?_
          rintro e w2 ⟨rfl, hb2⟩
          rw [HG.out]
          have hB2 := hB1.trans (hb2.mono hB1.size)
          clear hit1 hB1 hb2
          go_wp2_with fail
          go_ret
          exact ⟨ret_int HV.out.symm, hB2⟩
    · have hnx := Lib.run_next_end_at (P := Tryz.prog) wr w.heap.size s pos 0 hit hlt
      have HB := Lib.hid (badI_none s pre (HS.out.stop hlt) HNo.out)
      go_wp2_with fail
      go_ret
      exact ⟨ret_int HB.out.symm, hB⟩

end Go.Proofs.YtdkpnbjkehakjaaGreatDoor
