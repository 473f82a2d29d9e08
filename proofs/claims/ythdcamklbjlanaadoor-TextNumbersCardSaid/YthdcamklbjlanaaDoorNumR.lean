import Derived.Test.YthdcamklbjlanaaDoorNum
import Derived.Test.YthdcamklbjlanaaDoorTextP
/-! plain: a numeral's digits, one behind the other -/
namespace Go.Proofs.YthdcamklbjlanaaDoor
set_option linter.unusedVariables false
open Go.RowKit

def dval (l : List UInt8) : Nat := l.foldl (fun a c => a * 10 + (c.toNat - 48)) 0
theorem dval_snoc (l : List UInt8) (c : UInt8) : dval (l ++ [c]) = dval l * 10 + (c.toNat - 48) := by simp [dval]
theorem dval_dec (u : Nat) : dval (Lib.decDigits u) = u := by
  induction u using Nat.strongRecOn with
  | _ u ih =>
    by_cases h : u < 10
    · rw [Lib.decDigits, dif_pos h]
      show 0 * 10 + ((UInt8.ofNat (48 + u)).toNat - 48) = u
      rw [digit_toNat u h]; omega
    · rw [Lib.decDigits, dif_neg h, dval_snoc, ih (u / 10) (by omega), digit_toNat _ (by omega)]; omega
theorem nd_le : ∀ k u : Nat, 1 ≤ k → u < 10 ^ k → Lib.nDigits u ≤ k
  | 0, _, h, _ => by omega
  | k + 1, u, _, h => by
    by_cases hu : u < 10
    · rw [Lib.nDigits_small hu]; omega
    · rw [Lib.nDigits_big hu]
      rw [Nat.pow_succ] at h
      have hk : 1 ≤ k := by
        rcases Nat.eq_zero_or_pos k with rfl | h'
        · simp at h; omega
        · exact h'
      have := nd_le k (u / 10) hk (by omega)
      omega

theorem byteAt_list (s : ByteArray) (j : Nat) : byteAt s j = ((s.data.toList.getD j 0).toNat : Int) := by
  unfold byteAt
  congr 2
  simp only [ByteArray.get!, getElem!_def]
  rw [List.getD_eq_getElem?_getD, Array.getElem?_toList]
  cases s.data[j]? <;> rfl

/-- what the k digits from f on spell -/
def dig (s : ByteArray) (f k : Nat) : Nat := dval ((s.data.toList.drop f).take k)
theorem dig_zero (s : ByteArray) (f : Nat) : dig s f 0 = 0 := by simp [dig, dval]
theorem dig_step (s : ByteArray) (f k : Nat) (h : f + k < s.size) : dig s f (k + 1) = dig s f k * 10 + ((byteAt s (f + k)).toNat - 48) := by
  have hl : s.data.toList.length = s.size := by rw [Array.length_toList]; rfl
  have hg : (s.data.toList.drop f)[k]? = some (s.data.toList.getD (f + k) 0) := by
    rw [List.getElem?_drop, List.getD_eq_getElem?_getD, List.getElem?_eq_getElem (by omega)]; rfl
  unfold dig
  rw [List.take_add_one, hg, byteAt_list]
  simp only [Option.toList_some]
  rw [dval_snoc]; simp
/-- are the k bytes from f on digits? -/
def Digs (s : ByteArray) (f k : Nat) : Prop := ∀ j, j < k → 48 ≤ byteAt s (f + j) ∧ byteAt s (f + j) ≤ 57
theorem dig_lt (s : ByteArray) (f : Nat) : ∀ k, f + k ≤ s.size → Digs s f k → dig s f k < 10 ^ k
  | 0, _, _ => by rw [dig_zero]; decide
  | k + 1, h, hd => by
    have h1 := dig_lt s f k (by omega) (fun j hj => hd j (by omega))
    have h2 := hd k (by omega)
    rw [dig_step s f k (by omega), Nat.pow_succ]
    omega

theorem ten19 : (10 : Nat) ^ 19 = 10000000000000000000 := by decide
/-- where the digits begin -/
def fromN (s : ByteArray) : Nat := if 0 < s.size ∧ byteAt s 0 = 45 then 1 else 0
theorem num_inv (m : Int) (h0 : -9223372036854775808 ≤ m) (h1 : m ≤ 9223372036854775807) (s : ByteArray) (e : num m = s) :
    (fromN s = 1 ↔ m < 0) ∧ fromN s < s.size ∧ s.size ≤ fromN s + 19 ∧ Digs s (fromN s) (s.size - fromN s) ∧ dig s (fromN s) (s.size - fromN s) = m.natAbs := by
  have hL : s.data.toList = Lib.itoa m := by rw [← e, num_list]
  have hz : s.size = (Lib.itoa m).length := by rw [← hL, Array.length_toList]; rfl
  have hd : Lib.nDigits m.natAbs ≤ 19 := nd_le 19 _ (by decide) (by rw [ten19]; omega)
  have hp := Lib.nDigits_pos m.natAbs
  by_cases hm : m < 0
  · have hi : Lib.itoa m = 45 :: Lib.decDigits m.natAbs := by unfold Lib.itoa; rw [if_pos hm]
    have hz2 : s.size = 1 + Lib.nDigits m.natAbs := by rw [hz, hi, List.length_cons, Lib.decDigits_length]; omega
    have hf : fromN s = 1 := by
      unfold fromN
      rw [if_pos ⟨by omega, by rw [byteAt_list, hL, hi]; rfl⟩]
    rw [hf]
    refine ⟨by simp [hm], by omega, by omega, fun j hj => ?_, ?_⟩
    · rw [byteAt_list, hL, hi, Nat.add_comm 1 j]
      have hj' : j < (Lib.decDigits m.natAbs).length := by rw [Lib.decDigits_length]; omega
      have := dec_mem m.natAbs _ (List.getElem_mem hj')
      simp only [List.getD_cons_succ]
      rw [List.getD_eq_getElem?_getD, List.getElem?_eq_getElem hj']
      simp only [Option.getD_some]; omega
    · unfold dig
      rw [hL, hi, List.drop_one, List.tail_cons, List.take_of_length_le (by rw [Lib.decDigits_length]; omega), dval_dec]
  · have hi : Lib.itoa m = Lib.decDigits m.natAbs := by unfold Lib.itoa; rw [if_neg hm]; congr 1; omega
    have hz2 : s.size = Lib.nDigits m.natAbs := by rw [hz, hi, Lib.decDigits_length]
    have hall : ∀ j, j < s.size → 48 ≤ byteAt s j ∧ byteAt s j ≤ 57 := by
      intro j hj
      have hj' : j < (Lib.decDigits m.natAbs).length := by rw [Lib.decDigits_length]; omega
      have := dec_mem m.natAbs _ (List.getElem_mem hj')
      rw [byteAt_list, hL, hi, List.getD_eq_getElem?_getD, List.getElem?_eq_getElem hj']
      simp only [Option.getD_some]; omega
    have hf : fromN s = 0 := by
      unfold fromN
      rw [if_neg]
      intro h
      have := hall 0 (by omega)
      omega
    rw [hf]
    refine ⟨by simp [hm], by omega, by omega, fun j hj => by rw [Nat.zero_add]; exact hall j (by omega), ?_⟩
    unfold dig
    rw [hL, hi, List.drop_zero, List.take_of_length_le (by rw [Lib.decDigits_length]; omega), dval_dec]
end Go.Proofs.YthdcamklbjlanaaDoor
