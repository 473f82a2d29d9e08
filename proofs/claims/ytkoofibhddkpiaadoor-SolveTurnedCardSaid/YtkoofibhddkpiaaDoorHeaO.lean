import Derived.Test.YtkoofibhddkpiaaDoorHeaK
set_option linter.unusedSimpArgs false
set_option linter.unusedVariables false
/-! solve: container/heap over the line: up, down -/
namespace Go.Proofs.YtkoofibhddkpiaaDoor
open Go.RowKit
theorem HP.len {W0 W : World} {wb B : Nat} {c0 c1 c2 c3 lv mv : Value} {l0 l : List Int} (h : HP W0 wb B c0 c1 c2 c3 lv mv l0 W l) : l.length = l0.length := h.perm.length_eq

set_option maxRecDepth 100000 in
set_option maxHeartbeats 3200000 in
theorem hup_any {W : World} {wb B g n cap : Nat} {c0 c1 c2 c3 mv : Value} {l : List Int} (h : LineP W wb B c0 c1 c2 c3 (.slice (some ⟨g, 0, none⟩) n cap) mv l) (hn : l.length = n) (hb : n ≤ 8589934592) (j : Nat) (hj : j < n) :
    Calls Tryd.prog 37 #[.iface 58 (.pointer (some ⟨wb, 4, none⟩)), .int .i64 j] W fun e w' => e = .returned (.tuple #[]) ∧ ∃ l', HP W wb B c0 c1 c2 c3 (.slice (some ⟨g, 0, none⟩) n cap) mv l w' l' := by
  have HB := Lib.hid h.base
  have H0 := Lib.hid (show HP W wb B c0 c1 c2 c3 (.slice (some ⟨g, 0, none⟩) n cap) mv l W l from ⟨h, LK.refl wb B W, .refl _⟩)
  clear h
  go_enter Tryd.func37, Tryd.ntmps37
  go_wp2_with fail
  go_loopw [1] (fun k wr => ∃ (i : Nat) (l' : List Int), k = .int .i64 (i : Int) ∧ i < n ∧ HP W wb B c0 c1 c2 c3 (.slice (some ⟨g, 0, none⟩) n cap) mv l wr l') (fun k _ => (intOf k).toNat)
  case atStart => exact ⟨j, l, rfl, hj, H0.out⟩
  case round =>
    obtain ⟨i, l', rfl, hi, hP⟩ := hrel
    have HL := Lib.hid hP
    have HN := Lib.hid (hP.len.trans hn)
    clear hP
    by_cases h0 : i = 0
    · subst h0
      go_wp2_with fail
      go_end0
      exact ⟨rfl, l', HL.out⟩
    · obtain ⟨p, hp⟩ : ∃ p : Nat, p = (i - 1) / 2 := ⟨_, rfl⟩
      have i0 : (0 : Int) ≤ (i : Int) - 1 := by omega
      have hq : ((i : Int) - 1) / 2 = (p : Int) := by omega
      have hpn : p < n := by omega
      have hpi : p < i := by omega
      have hne : ¬ ((p : Int) = (i : Int)) := by omega
      clear hp
      have mL := meth_val infoLess HL.out.line.work
      cases hlt : ltL l' i p
      · go_wp2_with (go_at_call 58; refine (lessC HL.out HN.out hi hpn).mono ?_; rintro e w' ⟨rfl, hP2⟩; have HL2 := Lib.hid hP2; clear hP2; rw [hlt])
        go_end0
        exact ⟨rfl, l', HL2.out⟩
      · go_wp2_with (first | (go_at_call 58; refine (lessC HL.out HN.out hi hpn).mono ?_; rintro e w' ⟨rfl, hP2⟩; have HL2 := Lib.hid hP2; clear hP2; have mS := meth_val infoSwap HL2.out.line.work; clear mL; rw [hlt]) | (go_at_call 59; refine (swapC HL2.out HN.out hpn hi HB.out).mono ?_; rintro e w' ⟨rfl, hP3⟩; have HL3 := Lib.hid hP3; clear hP3; clear mS))
        go_roundw
        case rel => exact ⟨p, swapL l' p i, by go_num, hpn, HL3.out⟩
        case measure => simp [intOf]; omega

set_option maxRecDepth 100000 in
set_option maxHeartbeats 6400000 in
theorem hdown_any {W : World} {wb B g n cap : Nat} {c0 c1 c2 c3 mv : Value} {l : List Int} (h : LineP W wb B c0 c1 c2 c3 (.slice (some ⟨g, 0, none⟩) n cap) mv l) (hn : l.length = n) (hb : n ≤ 8589934592) (m : Nat) (hm : m ≤ n) (j : Nat) (hj : j ≤ m) (hj2 : m = 0 ∨ j < m) :
    Calls Tryd.prog 30 #[.iface 58 (.pointer (some ⟨wb, 4, none⟩)), .int .i64 j, .int .i64 m] W fun e w' => (∃ t : Bool, e = .returned (.bool t)) ∧ ∃ l', HP W wb B c0 c1 c2 c3 (.slice (some ⟨g, 0, none⟩) n cap) mv l w' l' := by
  have HB := Lib.hid h.base
  have H0 := Lib.hid (show HP W wb B c0 c1 c2 c3 (.slice (some ⟨g, 0, none⟩) n cap) mv l W l from ⟨h, LK.refl wb B W, .refl _⟩)
  clear h
  go_enter Tryd.func30, Tryd.ntmps30
  go_wp2_with fail
  go_loopw [7] (fun k wr => ∃ (i : Nat) (l' : List Int), k = .int .i64 (i : Int) ∧ i ≤ m ∧ (m = 0 ∨ i < m) ∧ HP W wb B c0 c1 c2 c3 (.slice (some ⟨g, 0, none⟩) n cap) mv l wr l') (fun k _ => m - (intOf k).toNat)
  case atStart => exact ⟨j, l, rfl, hj, hj2, H0.out⟩
  case round =>
    obtain ⟨i, l', rfl, hi, hi2, hP⟩ := hrel
    have HL := Lib.hid hP
    have HN := Lib.hid (hP.len.trans hn)
    clear hP
    by_cases h0 : m ≤ 2 * i + 1
    · have h0z : (m : Int) ≤ 2 * (i : Int) + 1 := by omega
      go_wp2_with fail
      go_ret
      exact ⟨⟨_, rfl⟩, l', HL.out⟩
    · have h0z : ¬ ((m : Int) ≤ 2 * (i : Int) + 1) := by omega
      have hin : i < n := by omega
      have hJ : 2 * i + 1 < n := by omega
      have mL := meth_val infoLess HL.out.line.work
      by_cases h1 : 2 * i + 2 < m
      · have h1z : 2 * (i : Int) + 1 + 1 < (m : Int) := by omega
        have hR : 2 * i + 2 < n := by omega
        cases hlr : ltL l' (2 * i + 2) (2 * i + 1)
        · cases hlt : ltL l' (2 * i + 1) i
          · go_wp2_with (first | (go_at_call 58; refine (lessC2 HL.out HN.out (i := 2 * i + 2) (j := 2 * i + 1) (by omega) (by omega) (by omega) (by omega)).mono ?_; rintro e w' ⟨rfl, hP2⟩; have HL1 := Lib.hid hP2; clear hP2; have mL1 := meth_val infoLess HL1.out.line.work; clear mL; rw [hlr]) | (go_at_call 58; refine (lessC2 HL1.out HN.out (i := 2 * i + 1) (j := i) (by omega) (by omega) (by omega) (by omega)).mono ?_; rintro e w' ⟨rfl, hP2⟩; have HL2 := Lib.hid hP2; clear hP2; clear mL1; rw [hlt]))
            go_ret
            exact ⟨⟨_, rfl⟩, l', HL2.out⟩
          · go_wp2_with (first | (go_at_call 58; refine (lessC2 HL.out HN.out (i := 2 * i + 2) (j := 2 * i + 1) (by omega) (by omega) (by omega) (by omega)).mono ?_; rintro e w' ⟨rfl, hP2⟩; have HL1 := Lib.hid hP2; clear hP2; have mL1 := meth_val infoLess HL1.out.line.work; clear mL; rw [hlr]) | (go_at_call 58; refine (lessC2 HL1.out HN.out (i := 2 * i + 1) (j := i) (by omega) (by omega) (by omega) (by omega)).mono ?_; rintro e w' ⟨rfl, hP2⟩; have HL2 := Lib.hid hP2; clear hP2; have mS := meth_val infoSwap HL2.out.line.work; clear mL1; rw [hlt]) | (go_at_call 59; refine (swapC2 HL2.out HN.out (i := i) (j := 2 * i + 1) (by omega) (by omega) HB.out (by omega) (by omega)).mono ?_; rintro e w' ⟨rfl, hP3⟩; have HL3 := Lib.hid hP3; clear hP3; clear mS))
            go_roundw
            case rel => exact ⟨2 * i + 1, swapL l' i (2 * i + 1), by go_num, by omega, by omega, HL3.out⟩
            case measure => simp [intOf]; omega
        · cases hlt : ltL l' (2 * i + 2) i
          · go_wp2_with (first | (go_at_call 58; refine (lessC2 HL.out HN.out (i := 2 * i + 2) (j := 2 * i + 1) (by omega) (by omega) (by omega) (by omega)).mono ?_; rintro e w' ⟨rfl, hP2⟩; have HL1 := Lib.hid hP2; clear hP2; have mL1 := meth_val infoLess HL1.out.line.work; clear mL; rw [hlr]) | (go_at_call 58; refine (lessC2 HL1.out HN.out (i := 2 * i + 2) (j := i) (by omega) (by omega) (by omega) (by omega)).mono ?_; rintro e w' ⟨rfl, hP2⟩; have HL2 := Lib.hid hP2; clear hP2; clear mL1; rw [hlt]))
            go_ret
            exact ⟨⟨_, rfl⟩, l', HL2.out⟩
          · go_wp2_with (first | (go_at_call 58; refine (lessC2 HL.out HN.out (i := 2 * i + 2) (j := 2 * i + 1) (by omega) (by omega) (by omega) (by omega)).mono ?_; rintro e w' ⟨rfl, hP2⟩; have HL1 := Lib.hid hP2; clear hP2; have mL1 := meth_val infoLess HL1.out.line.work; clear mL; rw [hlr]) | (go_at_call 58; refine (lessC2 HL1.out HN.out (i := 2 * i + 2) (j := i) (by omega) (by omega) (by omega) (by omega)).mono ?_; rintro e w' ⟨rfl, hP2⟩; have HL2 := Lib.hid hP2; clear hP2; have mS := meth_val infoSwap HL2.out.line.work; clear mL1; rw [hlt]) | (go_at_call 59; refine (swapC2 HL2.out HN.out (i := i) (j := 2 * i + 2) (by omega) (by omega) HB.out (by omega) (by omega)).mono ?_; rintro e w' ⟨rfl, hP3⟩; have HL3 := Lib.hid hP3; clear hP3; clear mS))
            go_roundw
            case rel => exact ⟨2 * i + 2, swapL l' i (2 * i + 2), by go_num, by omega, by omega, HL3.out⟩
            case measure => simp [intOf]; omega
      · have h1z : ¬ (2 * (i : Int) + 1 + 1 < (m : Int)) := by omega
        cases hlt : ltL l' (2 * i + 1) i
        · go_wp2_with (first | (go_at_call 58; refine (lessC2 HL.out HN.out (i := 2 * i + 1) (j := i) (by omega) (by omega) (by omega) (by omega)).mono ?_; rintro e w' ⟨rfl, hP2⟩; have HL2 := Lib.hid hP2; clear hP2; clear mL; rw [hlt]))
          go_ret
          exact ⟨⟨_, rfl⟩, l', HL2.out⟩
        · go_wp2_with (first | (go_at_call 58; refine (lessC2 HL.out HN.out (i := 2 * i + 1) (j := i) (by omega) (by omega) (by omega) (by omega)).mono ?_; rintro e w' ⟨rfl, hP2⟩; have HL2 := Lib.hid hP2; clear hP2; have mS := meth_val infoSwap HL2.out.line.work; clear mL; rw [hlt]) | (go_at_call 59; refine (swapC2 HL2.out HN.out (i := i) (j := 2 * i + 1) (by omega) (by omega) HB.out (by omega) (by omega)).mono ?_; rintro e w' ⟨rfl, hP3⟩; have HL3 := Lib.hid hP3; clear hP3; clear mS))
          go_roundw
          case rel => exact ⟨2 * i + 1, swapL l' i (2 * i + 1), by go_num, by omega, by omega, HL3.out⟩
          case measure => simp [intOf]; omega
end Go.Proofs.YtkoofibhddkpiaaDoor
