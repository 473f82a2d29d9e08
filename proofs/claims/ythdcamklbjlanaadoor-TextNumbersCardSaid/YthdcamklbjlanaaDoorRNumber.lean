import Derived.Test.YthdcamklbjlanaaDoorNumR
import Derived.Test.YthdcamklbjlanaaDoorNumber
/-! the walk of the reference's Number -/
namespace Go.Proofs.YthdcamklbjlanaaDoor
set_option linter.unusedVariables false
open Go.RowKit

/-- a call has handed back which number s is the text of, if any -/
def RetNum (s : ByteArray) (e : Ending) : Prop := ∃ v ok, e = .returned (.tuple #[.int .i64 v, .bool ok]) ∧ NumRel s v ok
theorem RetNum.mk {s : ByteArray} {v : Int} {ok : Bool} (h : NumRel s v ok) : RetNum s (.returned (.tuple #[.int .i64 v, .bool ok])) := ⟨v, ok, rfl, h⟩
theorem rel_none {s : ByteArray} (h : s.size ≤ fromN s ∨ fromN s + 19 < s.size ∨ ∃ j, j < s.size - fromN s ∧ ¬ (48 ≤ byteAt s (fromN s + j) ∧ byteAt s (fromN s + j) ≤ 57)) : NumRel s 0 false := by
  refine .inr ⟨rfl, rfl, fun m b0 b1 e => ?_⟩
  obtain ⟨_, h1, h2, h3, _⟩ := num_inv m b0 b1 s e
  rcases h with h | h | ⟨j, hj, h⟩
  · omega
  · omega
  · exact h (h3 j hj)
theorem rel_end {s : ByteArray} {n : Int} (hn : n = if fromN s = 1 then wrap64 (-(dig s (fromN s) (s.size - fromN s) : Int)) else wrap64 (dig s (fromN s) (s.size - fromN s) : Int)) :
    (num n = s → NumRel s n true) ∧ (num n ≠ s → NumRel s 0 false) ∧ (-9223372036854775808 ≤ n ∧ n ≤ 9223372036854775807) := by
  have hb : -9223372036854775808 ≤ n ∧ n ≤ 9223372036854775807 := by
    split at hn <;> rw [hn] <;> exact wf_i64_bd (wrap64_wf _)
  refine ⟨fun e => .inl ⟨rfl, e, hb.1, hb.2⟩, fun ne => .inr ⟨rfl, rfl, fun m b0 b1 e => ne ?_⟩, hb⟩
  obtain ⟨h1, _, _, _, h5⟩ := num_inv m b0 b1 s e
  rw [h5] at hn
  have : n = m := by
    by_cases hm : m < 0
    · rw [if_pos (h1.2 hm)] at hn
      rw [hn, IntWalk.wrap64_in _ (by omega)]; omega
    · rw [if_neg (fun h => hm (h1.1 h))] at hn
      rw [hn, IntWalk.wrap64_in _ (by omega)]; omega
  rw [this]; exact e

set_option maxRecDepth 100000 in
set_option maxHeartbeats 1600000 in
theorem rnumber_plus (s : ByteArray) (w : World) (hz : 0 < s.size) (hm : ¬ byteAt s 0 = 45) :
    Calls Tryd.prog 15 #[.string s] w fun e w' => RetNum s e ∧ ∃ k, w' = w.drewN k := by
  have hf : fromN s = 0 := by unfold fromN; rw [if_neg (fun h => hm h.2)]
  have hg := byteAt_get s 0 hz
  have hq : (byteAt s 0 == 45) = false := by rw [beq_eq_false_iff_ne]; exact hm
  have hz0 : ((s.size : Int) == 0) = false := by rw [beq_eq_false_iff_ne]; omega
  have HF := Lib.hid hf
  clear hm hf
  by_cases hl : 19 < s.size
  · have HR := Lib.hid (rel_none (s := s) (.inr (.inl (by rw [HF.out]; omega))))
    go_enter Tryd.func15, Tryd.ntmps15
    go_wp2_with fail
    go_ret2
    exact ⟨RetNum.mk (v := 0) (ok := false) HR.out, 0, rfl⟩
  · go_enter Tryd.func15, Tryd.ntmps15
    go_wp2_with fail
    go_loop [5, 6] (fun u i => ∃ k : Nat, k ≤ s.size ∧ i = .int .i64 k ∧ u = .int .u64 (dig s 0 k : Int) ∧ RowKit.Hid (Digs s 0 k)) (fun _ i => s.size - (intOf i).toNat)
    case atStart => exact ⟨0, Nat.zero_le _, rfl, by rw [dig_zero]; rfl, fun j hj => absurd hj (by omega)⟩
    case round =>
      obtain ⟨k, hk, rfl, rfl, HD⟩ := hrel
      by_cases hlt : k < s.size
      · have hgk := byteAt_get s k hlt
        have hbd := byteAt_bd s k
        by_cases h1 : byteAt s k < 48
        · have HR := Lib.hid (rel_none (s := s) (.inr (.inr ⟨k, by rw [HF.out]; omega, by rw [HF.out, Nat.zero_add]; omega⟩)))
          go_wp2_with fail
          go_ret2
          exact ⟨RetNum.mk (v := 0) (ok := false) HR.out, 0, rfl⟩
        · by_cases h2 : 57 < byteAt s k
          · have HR := Lib.hid (rel_none (s := s) (.inr (.inr ⟨k, by rw [HF.out]; omega, by rw [HF.out, Nat.zero_add]; omega⟩)))
            go_wp2_with fail
            go_ret2
            exact ⟨RetNum.mk (v := 0) (ok := false) HR.out, 0, rfl⟩
          · have hu : dig s 0 k ≤ 1000000000000000000 := by
              have a := dig_lt s 0 k (by omega) HD.out
              have b : 10 ^ k ≤ 10 ^ 18 := Nat.pow_le_pow_right (by decide) (by omega)
              have c : (10 : Nat) ^ 18 = 1000000000000000000 := by decide
              rw [c] at b; omega
            have HS := Lib.hid (show (dig s 0 (k + 1) : Int) = (dig s 0 k : Int) * 10 + (byteAt s k - 48) by
              rw [dig_step s 0 k (by omega), Nat.zero_add]; omega)
            have HD2 : Hid (Digs s 0 (k + 1)) := Lib.hid (fun j hj => by
              by_cases e : j = k
              · rw [e, Nat.zero_add]; omega
              · exact HD.out j (by omega))
            go_wp2_with fail
            go_round
            case rel => exact ⟨k + 1, by omega, by go_num, by rw [HS.out], HD2⟩
            case measure => simp [intOf]; omega
      · obtain rfl : k = s.size := by omega
        have hu : dig s 0 s.size < 10000000000000000000 := by
          have a := dig_lt s 0 s.size (by omega) HD.out
          have b : 10 ^ s.size ≤ 10 ^ 19 := Nat.pow_le_pow_right (by decide) (by omega)
          rw [ten19] at b; omega
        obtain ⟨n, hn⟩ : ∃ n, n = wrap64 (dig s 0 s.size : Int) := ⟨_, rfl⟩
        have HE := Lib.hid (rel_end (s := s) (n := n) (by rw [HF.out, if_neg (by decide)]; exact hn))
        have HN := Lib.hid hn
        clear hn
        go_wp2_with fail
        rw [← HN.out]
        refine (rshow_any n HE.out.2.2.1 HE.out.2.2.2 _).mono ?_
        rintro e w1 ⟨rfl, m, rfl⟩
        by_cases hq : num n = s
        · have HR := Lib.hid (HE.out.1 hq)
          have hqb : ((num n).toList == s.toList) = true := by rw [hq]; simp
          clear hq
          go_wp2_with fail
          go_ret2
          exact ⟨RetNum.mk (v := n) (ok := true) HR.out, _, rfl⟩
        · have HR := Lib.hid (HE.out.2.1 hq)
          have hqb := bytes_ne hq
          clear hq
          go_wp2_with fail
          go_ret2
          exact ⟨RetNum.mk (v := 0) (ok := false) HR.out, _, rfl⟩
end Go.Proofs.YthdcamklbjlanaaDoor
