import Derived.Test.YtdkpnbjkehakjaaGreatDoorPlatP
import Derived.Test.YtdkpnbjkehakjaaGreatDoorPlatS
set_option linter.unusedSimpArgs false
set_option linter.unusedVariables false
/-! the walk of layer 5's chase -/
namespace Go.Proofs.YtdkpnbjkehakjaaGreatDoor
open Go.RowKit

set_option maxRecDepth 100000 in
set_option maxHeartbeats 1600000 in
theorem chase_any (g n : Nat) (S : List Int) (w0 w : World) (hr : Row5 g n S w) (hl : S.length = n) (hw : Wide S) (hn : n ≤ 64) (hg : w0.heap.size ≤ g) (hB : Below w0.heap.size w0 w) :
    Calls Tryz.prog 79 #[.slice (some ⟨g, 0, none⟩) n n] w fun e w' => (∃ v, e = .returned v) ∧ Row5 g n (LL.chL S n) w' ∧ Below w0.heap.size w0 w' := by
  have HL := Lib.hid hl
  have HW := Lib.hid hw
  clear hl hw
  go_enter Tryz.func79, Tryz.ntmps79
  go_wp2_with fail
  go_loopw [6] (fun i wr => ∃ k : Nat, k ≤ n ∧ i = .int .i64 (k : Int) ∧ Row5 g n (LL.chL S k) wr ∧ Below w0.heap.size w0 wr) (fun i _ => n - (intOf i).toNat)
  case atStart => exact ⟨0, Nat.zero_le _, rfl, hr, hB⟩
  case round =>
    obtain ⟨k, hk, rfl, hR, hB⟩ := hrel
    clear hr
    by_cases hkn : k < n
    · have HLk := Lib.hid (show (LL.chL S k).length = n by rw [LL.ch_len, HL.out])
      have HWk := Lib.hid (LL.ch_wide HW.out k)
      have hR0 : Row5 g n (LL.midL (LL.chL S k) k 0) wr := by rw [LL.mid_zero]; exact hR
      have HEnd := Lib.hid (show LL.midL (LL.chL S k) k n = LL.chL S (k + 1) by show _ = LL.passL _ _; unfold LL.passL; rw [HLk.out])
      clear hR
      generalize LL.chL S k = T at HLk HWk hR0 HEnd
      go_wp2_with fail
      go_loopw [11] (fun i wr => ∃ i' : Nat, i' ≤ n ∧ i = .int .i64 (i' : Int) ∧ Row5 g n (LL.midL T k i') wr ∧ Below w0.heap.size w0 wr) (fun i _ => n - (intOf i).toNat)
      case atStart => exact ⟨0, Nat.zero_le _, rfl, hR0, hB⟩
      case round =>
        obtain ⟨i, hi, rfl, hR, hB⟩ := hrel
        clear hR0
        by_cases hin : i < n
        · have HR := Lib.hid hR
          have hml : (LL.midL T k i).length = n := by rw [LL.mid_len, HLk.out]
          have hrow := LL.mid_row (k := k) HWk.out (show i < T.length by rw [HLk.out]; exact hin) (by rw [HLk.out]; exact hkn)
          have hci := hR.cell hml hin
          have hck := hR.cell hml hkn
          have hfi := hR.frozen i
          rw [hrow.1] at hci
          rw [hrow.2] at hck
          have HXi := Lib.hid (HWk.out.at i)
          have i1 : (0 : Int) ≤ i ∧ (i : Int) < n := by omega
          have i2 : (0 : Int) ≤ k ∧ (k : Int) < n := by omega
          clear hrow hR hml
          cases hab : LL.ab T i k
          · have HN := Lib.hid (LL.mid_no hab)
            have HA := Lib.hid (show MM.hasB (T[i]?.getD 0) (k : Int) = false from hab)
            clear hab
            generalize T[i]?.getD 0 = ti at hci HA HXi
            go_wp2_with (go_at_call 56; refine (has_any _ _ _ HXi.out.1 HXi.out.2).mono ?_; rintro e w' ⟨rfl, rfl⟩; rw [HA.out])
            go_roundw
            case rel => exact ⟨i + 1, by omega, by go_num, HN.out ▸ HR.out, hB⟩
            case measure => simp [intOf]; omega
          · have HN := Lib.hid (LL.mid_yes (show i < T.length by rw [HLk.out]; exact hin) hab)
            have HA := Lib.hid (show MM.hasB (T[i]?.getD 0) (k : Int) = true from hab)
            clear hab
            generalize T[i]?.getD 0 = ti at hci HA HXi HN
            generalize T[k]?.getD 0 = tk at hck HN
            go_wp2_with (go_at_call 56; refine (has_any _ _ _ HXi.out.1 HXi.out.2).mono ?_; rintro e w' ⟨rfl, rfl⟩; rw [HA.out])
            go_still_tail 10, (by kernel_rfl)
            change wpList _ _ _ _ _ (World.drew _)
            have HR3 := Lib.hid (show Row5 g n (LL.midL T k i) wr.drew from HR.out)
            have hB3 : Below w0.heap.size w0 wr.drew := hB.trans ⟨rfl, rfl, rfl, Nat.le_refl _, fun _ _ => rfl⟩
            have hci3 : wr.drew.cell? ⟨g, i, none⟩ = some (.int .u64 ti) := hci
            have hfi3 : wr.drew.frozen? ⟨g, i, none⟩ = false := hfi
            clear hci hck hfi hB HR
            generalize wr.drew = w2 at HR3 hB3 hci3 hfi3 ⊢
            go_wp2_with fail
            go_roundw
            case rel => exact ⟨i + 1, by omega, by go_num, HN.out ▸ HR3.out.set i _, hB3.setCell (p := ⟨g, i, none⟩) hg _⟩
            case measure => simp [intOf]; omega
        · have hR2 : Row5 g n (LL.chL S (k + 1)) wr := by
            obtain rfl : i = n := by omega
            rw [← HEnd.out]; exact hR
          clear hR
          go_wp2_with fail
          go_roundw
          case rel => exact ⟨k + 1, by omega, by go_num, hR2, hB⟩
          case measure => simp [intOf]; omega
    · obtain rfl : k = n := by omega
      go_wp2_with fail
      go_end0
      exact ⟨⟨_, rfl⟩, hR, hB⟩
end Go.Proofs.YtdkpnbjkehakjaaGreatDoor
