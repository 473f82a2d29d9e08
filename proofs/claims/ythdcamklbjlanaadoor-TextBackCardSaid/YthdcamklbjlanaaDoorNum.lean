import Derived.Test.YthdcamklbjlanaaDoorShow
import Derived.Lib.ParseIntBTie
import Derived.Lib.ParseIntBCases
/-! plain: what is written is read back -/
namespace Go.Proofs.YthdcamklbjlanaaDoor
set_option linter.unusedVariables false
open Go.RowKit

theorem digit_toNat (d : Nat) (h : d < 10) : (UInt8.ofNat (48 + d)).toNat = 48 + d := by
  simp [UInt8.toNat_ofNat']; omega
theorem dec_mem (u : Nat) : ∀ c ∈ Lib.decDigits u, 48 ≤ c.toNat ∧ c.toNat ≤ 57 := by
  induction u using Nat.strongRecOn with
  | _ u ih =>
    intro c hc
    by_cases h : u < 10
    · rw [Lib.decDigits, dif_pos h] at hc
      simp only [List.mem_singleton] at hc
      subst hc
      rw [digit_toNat u h]; omega
    · rw [Lib.decDigits, dif_neg h] at hc
      rcases List.mem_append.1 hc with hc | hc
      · exact ih (u / 10) (by omega) c hc
      · simp only [List.mem_singleton] at hc
        subst hc
        rw [digit_toNat _ (by omega)]; omega
theorem dec_ne (u : Nat) : Lib.decDigits u ≠ [] := by
  intro e
  have h := Lib.decDigits_length u
  have := Lib.nDigits_pos u
  rw [e] at h; simp at h; omega
theorem parse_dec (u : Nat) : ∀ r : List UInt8, u ≤ 18446744073709551615 → Lib.parseUintM 18446744073709551615 0 (Lib.decDigits u ++ r) = Lib.parseUintM 18446744073709551615 u r := by
  induction u using Nat.strongRecOn with
  | _ u ih =>
    intro r hu
    by_cases h : u < 10
    · rw [Lib.decDigits, dif_pos h]
      simp only [List.cons_append, List.nil_append, Lib.parseUintM]
      rw [digit_toNat u h, if_pos (by omega), if_neg (by omega), if_neg (by omega)]
      congr 1; omega
    · rw [Lib.decDigits, dif_neg h, List.append_assoc, ih (u / 10) (by omega) _ (by omega)]
      simp only [List.cons_append, List.nil_append, Lib.parseUintM]
      rw [digit_toNat _ (by omega), if_pos (by omega), if_neg (by omega), if_neg (by omega)]
      congr 1; omega
theorem parse_mag (u : Nat) (hu : u ≤ 18446744073709551615) : Lib.parseUintB 64 (Lib.decDigits u) = .ok u := by
  unfold Lib.parseUintB
  rw [if_neg (dec_ne u)]
  have := parse_dec u [] hu
  rw [List.append_nil] at this
  exact this
theorem parse_itoa (n : Int) (h0 : -9223372036854775808 ≤ n) (h1 : n ≤ 9223372036854775807) : Lib.parseIntB 64 (Lib.itoa n) = .ok n := by
  by_cases hn : n < 0
  · obtain ⟨u, rfl⟩ : ∃ u : Nat, n = -(u : Int) := ⟨n.natAbs, by omega⟩
    rw [Lib.itoa_neg u (by omega), Lib.parseIntB_minus, parse_mag u (by omega)]
    show (if 2 ^ 63 < u then _ else _) = _
    rw [if_neg (by omega)]
  · obtain ⟨u, rfl⟩ : ∃ u : Nat, n = u := ⟨n.toNat, by omega⟩
    have hm := dec_mem u
    rw [Lib.itoa_nonneg]
    cases hd : Lib.decDigits u with
    | nil => exact absurd hd (dec_ne u)
    | cons c r =>
      have hc := hm c (by rw [hd]; exact List.mem_cons_self ..)
      rw [Lib.parseIntB_plain 64 c r (by omega) (by omega), ← hd, parse_mag u (by omega)]
      show (if 2 ^ 63 ≤ u then _ else _) = _
      rw [if_neg (by omega)]
theorem num_list (n : Int) : (num n).data.toList = Lib.itoa n := by simp [num]

/-- a number's text: which number, if any -/
def NumRel (s : ByteArray) (v : Int) (ok : Bool) : Prop :=
  (ok = true ∧ num v = s ∧ -9223372036854775808 ≤ v ∧ v ≤ 9223372036854775807) ∨ (ok = false ∧ v = 0 ∧ ∀ m : Int, -9223372036854775808 ≤ m → m ≤ 9223372036854775807 → num m ≠ s)
theorem NumRel.same {s : ByteArray} {v v' : Int} {ok ok' : Bool} (h : NumRel s v ok) (h' : NumRel s v' ok') : v = v' ∧ ok = ok' := by
  rcases h with ⟨rfl, e, b0, b1⟩ | ⟨rfl, rfl, n⟩ <;> rcases h' with ⟨rfl, e', b0', b1'⟩ | ⟨rfl, rfl, n'⟩
  · refine ⟨?_, rfl⟩
    have h1 := parse_itoa v b0 b1
    have h2 := parse_itoa v' b0' b1'
    rw [← num_list, e] at h1
    rw [← num_list, e', h1] at h2
    injection h2
  · exact absurd e (n' v b0 b1)
  · exact absurd e' (n v' b0' b1')
  · exact ⟨rfl, rfl⟩
theorem NumRel.of_num {n v : Int} {ok : Bool} (h0 : -9223372036854775808 ≤ n) (h1 : n ≤ 9223372036854775807) (h : NumRel (num n) v ok) : v = n ∧ ok = true :=
  h.same (.inl ⟨rfl, rfl, h0, h1⟩)
theorem NumRel.of_bad {s : ByteArray} (h : ∀ v, Lib.parseIntB 64 s.data.toList ≠ .ok v) : NumRel s 0 false := by
  refine .inr ⟨rfl, rfl, fun m b0 b1 e => h m ?_⟩
  rw [← e, num_list]; exact parse_itoa m b0 b1
theorem NumRel.of_ok {s : ByteArray} {v : Int} (h : Lib.parseIntB 64 s.data.toList = .ok v) : (num v = s → NumRel s v true) ∧ (num v ≠ s → NumRel s 0 false) ∧ -9223372036854775808 ≤ v ∧ v ≤ 9223372036854775807 := by
  have hb := Lib.parseIntB_bounds h
  have h0 : -9223372036854775808 ≤ v := by have := hb.1; simpa using this
  have h1 : v ≤ 9223372036854775807 := by have := hb.2; simp at this; omega
  refine ⟨fun e => .inl ⟨rfl, e, h0, h1⟩, fun ne => .inr ⟨rfl, rfl, fun m b0 b1 e => ne ?_⟩, h0, h1⟩
  have h2 := parse_itoa m b0 b1
  rw [← num_list, e, h] at h2
  injection h2 with h2
  rw [h2]; exact e
end Go.Proofs.YthdcamklbjlanaaDoor
