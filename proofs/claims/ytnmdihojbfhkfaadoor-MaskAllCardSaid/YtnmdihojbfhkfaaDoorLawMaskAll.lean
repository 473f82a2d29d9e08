import Derived.Test.YtnmdihojbfhkfaaDoorMaskAll
/-! the walk of MaskAll -/
namespace Go.Proofs.YtnmdihojbfhkfaaDoor
set_option linter.unusedVariables false
open Go.RowKit

theorem ints_take {n : Nat} {W : World} {b off len cap : Nat} {xs : List Int} (h : Ints n W (.slice (some ⟨b, off, none⟩) len cap) xs) (k : Nat) (hk : k ≤ xs.length) : Ints n W (.slice (some ⟨b, off, none⟩) k cap) (xs.take k) := by
  rcases h with ⟨_, h⟩ | ⟨b', off', cap', e, hb⟩
  · subst h
    obtain rfl : k = 0 := by simpa using hk
    exact .inl ⟨⟨_, _, rfl⟩, rfl⟩
  · cases e
    refine .inr ⟨_, _, _, by rw [List.length_take, Nat.min_eq_left hk], hb.1, by rw [List.length_take]; omega, fun j hj => ?_⟩
    have hc := hb.2.2
    rw [List.length_take, Nat.min_eq_left hk] at hj
    rw [List.getElem?_take_of_lt hj]
    exact hc j (by omega)
theorem all5 : ((MM.bitsI 5).take 9).length = 2 := by decide

set_option maxHeartbeats 400000 in
theorem maskAll_walk (m most : Int) (w : World) (hTz : Tz w) (m0 : 0 ≤ m) (m1 : m ≤ 18446744073709551615) (t0 : 0 ≤ most) (t1 : most ≤ 255) :
    Calls Tryd.prog 4 #[.int .u64 m, .int .u8 most] w fun e w' => e = .returned (.bool true) ∧ Below w.heap.size w w' := by
  have hlen := MM.uptoI_len m 64
  go_enter Tryd.func4, Tryd.ntmps4
  go_wp2_with fail
  refine (list_any _ _ m0 m1).mono ?_
  rintro e w1 ⟨v, rfl, hrow, hb1⟩
  have hI := ints_of_row hrow
  clear hrow
  go_wp2_with fail
  refine (lall_any _ _ _ m0 m1 (by omega) (by omega) (by first | exact hTz | exact hTz.on (by assumption) | exact hTz.on hb1 | exact (hTz.on hB2).on hb3 | exact (hTz.on hB1).on hb2 | exact (hTz.on hB3).on hb4 | exact (hTz.on hb2).on hb3 | exact ((hTz.on hb2).on hb3).on hb4 | exact (hTz.on hb1).on hb2 | exact ((hTz.on hb1).on hb2).on hb3 | exact (((hTz.on hb1).on hb2).on hb3).on hb4 | exact ((((hTz.on hb1).on hb2).on hb3).on hb4).on hb5 | exact (((((hTz.on hb1).on hb2).on hb3).on hb4).on hb5).on hb6 | exact hTz.alloc _ | exact (hTz.on (by assumption)).alloc _ | exact (hTz.alloc _).alloc _)).mono ?_
  rintro e w2 ⟨v2, rfl, hrow2, hb2⟩
  have hI2 := (ints_of_row hrow2).mono (Nat.le_refl _)
  have hI1 := (hI.below hb2).mono hb2.size
  clear hrow2 hI
  have hB2 := bstep hb1 hb2
  clear hb1 hb2
  obtain ⟨K, hK⟩ : ∃ K : Nat, (most % 70).toNat = K := ⟨_, rfl⟩
  have hK' : (K : Int) = most % 70 := by omega
  rw [hK] at hI2
  generalize hxs : MM.bitsI m = xs at *
  have hlen : xs.length ≤ 64 := by rw [← hxs]; exact MM.uptoI_len m 64
  clear hxs
  have h5 := all5
  by_cases hlt : K < xs.length
  · obtain ⟨b, off, cap, rfl⟩ : ∃ b off cap, v = .slice (some ⟨b, off, none⟩) xs.length cap := by
      rcases hI1 with ⟨_, h⟩ | ⟨b, off, cap, e, _⟩
      · rw [h] at hlt; simp at hlt
      · exact ⟨_, _, _, e⟩
    have hcap : xs.length ≤ cap := by
      rcases hI1 with ⟨_, h⟩ | ⟨b', off', cap', e, _, h, _⟩
      · rw [h]; exact Nat.zero_le _
      · cases e; exact h
    have hJ := ints_take hI1 K (by omega)
    have i1 : most % 70 < (xs.length : Int) := by omega
    have i2 : 0 ≤ most % 70 := by omega
    clear hK'
    go_wp2_with fail
    refine (same_any _ _ (xs.take K) (xs.take K) w2.heap.size w2 hI2 hJ (by rw [List.length_take]; omega) (by rw [List.length_take]; omega)).mono ?_
    rintro e w3 ⟨rfl, hb3⟩
    rw [beq_self_eq_true]
    go_wp2_with fail
    refine (lall_any _ _ _ (by omega) (by omega) (by omega) (by omega) (by first | exact hTz | exact hTz.on (by assumption) | exact hTz.on hb1 | exact (hTz.on hB2).on hb3 | exact (hTz.on hB1).on hb2 | exact (hTz.on hB3).on hb4 | exact (hTz.on hb2).on hb3 | exact ((hTz.on hb2).on hb3).on hb4 | exact (hTz.on hb1).on hb2 | exact ((hTz.on hb1).on hb2).on hb3 | exact (((hTz.on hb1).on hb2).on hb3).on hb4 | exact ((((hTz.on hb1).on hb2).on hb3).on hb4).on hb5 | exact (((((hTz.on hb1).on hb2).on hb3).on hb4).on hb5).on hb6 | exact hTz.alloc _ | exact (hTz.on (by assumption)).alloc _ | exact (hTz.alloc _).alloc _)).mono ?_
    rintro e w4 ⟨v4, rfl, hrow4, hb4⟩
    obtain ⟨a4, cap4, rfl⟩ := (ints_of_row hrow4).form
    go_wp2_with fail
    go_ret
    exact ⟨rfl, bstep (bstep hB2 hb3) hb4⟩
  · have hE : xs.take K = xs := List.take_of_length_le (by omega)
    rw [hE] at hI2
    obtain ⟨a, cap, rfl⟩ := hI1.form
    have i1 : (xs.length : Int) ≤ most % 70 := by omega
    clear hE hK hK'
    go_wp2_with fail
    refine (same_any _ _ xs xs w2.heap.size w2 hI2 hI1 (by omega) (by omega)).mono ?_
    rintro e w3 ⟨rfl, hb3⟩
    rw [beq_self_eq_true]
    go_wp2_with fail
    refine (lall_any _ _ _ (by omega) (by omega) (by omega) (by omega) (by first | exact hTz | exact hTz.on (by assumption) | exact hTz.on hb1 | exact (hTz.on hB2).on hb3 | exact (hTz.on hB1).on hb2 | exact (hTz.on hB3).on hb4 | exact (hTz.on hb2).on hb3 | exact ((hTz.on hb2).on hb3).on hb4 | exact (hTz.on hb1).on hb2 | exact ((hTz.on hb1).on hb2).on hb3 | exact (((hTz.on hb1).on hb2).on hb3).on hb4 | exact ((((hTz.on hb1).on hb2).on hb3).on hb4).on hb5 | exact (((((hTz.on hb1).on hb2).on hb3).on hb4).on hb5).on hb6 | exact hTz.alloc _ | exact (hTz.on (by assumption)).alloc _ | exact (hTz.alloc _).alloc _)).mono ?_
    rintro e w4 ⟨v4, rfl, hrow4, hb4⟩
    obtain ⟨a4, cap4, rfl⟩ := (ints_of_row hrow4).form
    go_wp2_with fail
    go_ret
    exact ⟨rfl, bstep (bstep hB2 hb3) hb4⟩
end Go.Proofs.YtnmdihojbfhkfaaDoor
