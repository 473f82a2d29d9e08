import Derived.Test.YthdcamklbjlanaaDoorRNumber
/-! the walk of the reference's Number at a sign -/
namespace Go.Proofs.YthdcamklbjlanaaDoor
set_option linter.unusedVariables false
open Go.RowKit

theorem wrap_neg (x : Int) : wrap64 (IntKind.u64.wrap x) = wrap64 x := by rw [IntKind.wrap_u64]; unfold wrap64; omega

set_option maxRecDepth 100000 in
set_option maxHeartbeats 1600000 in
theorem rnumber_minus (s : ByteArray) (w : World) (hz : 0 < s.size) (hm : byteAt s 0 = 45) :
    Calls Tryd.prog 15 #[.string s] w fun e w' => RetNum s e ∧ ∃ k, w' = w.drewN k := by
  have hf : fromN s = 1 := by unfold fromN; rw [if_pos ⟨hz, hm⟩]
  have hg := byteAt_get s 0 hz
  have hq : (byteAt s 0 == 45) = true := by rw [beq_iff_eq]; exact hm
  have HF := Lib.hid hf
  clear hm hf
  by_cases hl1 : s.size = 1
  · have HR := Lib.hid (rel_none (s := s) (.inl (by rw [HF.out]; omega)))
    have hz0 : ((s.size : Int) == 1) = true := by rw [beq_iff_eq]; omega
    clear hl1
    go_enter Tryd.func15, Tryd.ntmps15
    go_wp2_with fail
    go_ret2
    exact ⟨RetNum.mk (v := 0) (ok := false) HR.out, 0, rfl⟩
  have hz0 : ((s.size : Int) == 1) = false := by rw [beq_eq_false_iff_ne]; omega
  by_cases hl : 20 < s.size
  · have HR := Lib.hid (rel_none (s := s) (.inr (.inl (by rw [HF.out]; omega))))
    clear hl1
    go_enter Tryd.func15, Tryd.ntmps15
    go_wp2_with fail
    go_ret2
    exact ⟨RetNum.mk (v := 0) (ok := false) HR.out, 0, rfl⟩
  · have hl2 : 1 < s.size := by omega
    clear hl1
    go_enter Tryd.func15, Tryd.ntmps15
    go_wp2_with fail
    go_loop [5, 6] (fun u i => ∃ k : Nat, 1 + k ≤ s.size ∧ i = .int .i64 ((1 + k : Nat) : Int) ∧ u = .int .u64 (dig s 1 k : Int) ∧ RowKit.Hid (Digs s 1 k)) (fun _ i => s.size - (intOf i).toNat)
    case atStart => exact ⟨0, by omega, rfl, by rw [dig_zero]; rfl, fun j hj => absurd hj (by omega)⟩
    case round =>
      obtain ⟨k, hk, rfl, rfl, HD⟩ := hrel
      by_cases hlt : 1 + k < s.size
      · have hgk := byteAt_get s (1 + k) hlt
        have hbd := byteAt_bd s (1 + k)
        by_cases h1 : byteAt s (1 + k) < 48
        · have HR := Lib.hid (rel_none (s := s) (.inr (.inr ⟨k, by rw [HF.out]; omega, by rw [HF.out]; omega⟩)))
          go_wp2_with fail
          go_ret2
          exact ⟨RetNum.mk (v := 0) (ok := false) HR.out, 0, rfl⟩
        · by_cases h2 : 57 < byteAt s (1 + k)
          · have HR := Lib.hid (rel_none (s := s) (.inr (.inr ⟨k, by rw [HF.out]; omega, by rw [HF.out]; omega⟩)))
            go_wp2_with fail
            go_ret2
            exact ⟨RetNum.mk (v := 0) (ok := false) HR.out, 0, rfl⟩
          · have hu : dig s 1 k ≤ 1000000000000000000 := by
              have a := dig_lt s 1 k (by omega) HD.out
              have b : 10 ^ k ≤ 10 ^ 18 := Nat.pow_le_pow_right (by decide) (by omega)
              have c : (10 : Nat) ^ 18 = 1000000000000000000 := by decide
              rw [c] at b; omega
            have HS := Lib.hid (show (dig s 1 (k + 1) : Int) = (dig s 1 k : Int) * 10 + (byteAt s (1 + k) - 48) by
              rw [dig_step s 1 k (by omega)]; omega)
            have HD2 : Hid (Digs s 1 (k + 1)) := Lib.hid (fun j hj => by
              by_cases e : j = k
              · rw [e]; omega
              · exact HD.out j (by omega))
            go_wp2_with fail
            go_round
            case rel => exact ⟨k + 1, by omega, by go_num, by rw [HS.out], HD2⟩
            case measure => simp [intOf]; omega
      · have hzz : s.size - 1 = k := by omega
        have hu : dig s 1 k < 10000000000000000000 := by
          have a := dig_lt s 1 k (by omega) HD.out
          have b : 10 ^ k ≤ 10 ^ 19 := Nat.pow_le_pow_right (by decide) (by omega)
          rw [ten19] at b; omega
        obtain ⟨n, hn⟩ : ∃ n, n = wrap64 (-(dig s 1 k : Int)) := ⟨_, rfl⟩
        have HE := Lib.hid (rel_end (s := s) (n := n) (by rw [HF.out, if_pos rfl, hzz]; exact hn))
        have HN := Lib.hid hn
        clear hn
        go_wp2_with fail
        rw [wrap_neg, ← HN.out]
        refine (rshow_any n HE.out.2.2.1 HE.out.2.2.2 _).mono ?_
        rintro e w1 ⟨rfl, m, rfl⟩
        by_cases hq : num n = s
        · have HR := Lib.hid (HE.out.1 hq)
          have hqb : ((num n).toList == s.toList) = true := by rw [hq]; simp
          clear hq
          go_wp2_with fail
          go_ret2
          exact ⟨RetNum.mk (v := n) (ok := true) HR.out, _, rfl⟩
        · have HR := Lib.hid (HE.out.2.1 hq)
          have hqb := bytes_ne hq
          clear hq
          go_wp2_with fail
          go_ret2
          exact ⟨RetNum.mk (v := 0) (ok := false) HR.out, _, rfl⟩

set_option maxRecDepth 100000 in
set_option maxHeartbeats 800000 in
theorem rnumber_any (s : ByteArray) (w : World) :
    Calls Tryd.prog 15 #[.string s] w fun e w' => RetNum s e ∧ ∃ k, w' = w.drewN k := by
  by_cases hz : 0 < s.size
  · by_cases hm : byteAt s 0 = 45
    · exact rnumber_minus s w hz hm
    · exact rnumber_plus s w hz hm
  · have HR := Lib.hid (rel_none (s := s) (.inl (by omega)))
    have hz0 : ((s.size : Int) == 0) = true := by rw [beq_iff_eq]; omega
    go_enter Tryd.func15, Tryd.ntmps15
    go_wp2_with fail
    go_ret2
    exact ⟨RetNum.mk (v := 0) (ok := false) HR.out, 0, rfl⟩
end Go.Proofs.YthdcamklbjlanaaDoor
