import Derived.Test.YthdcamklbjlanaaDoorTextP
/-! plain: lines and columns -/
namespace Go.Proofs.YthdcamklbjlanaaDoor
set_option linter.unusedVariables false
open Go.RowKit

set_option maxRecDepth 100000 in
set_option maxHeartbeats 2000000 in
theorem decode_facts (n c b1 b2 b3 : Nat) : ((Lib.decodeN n c b1 b2 b3).1 = 10 ↔ c = 10) ∧ (c = 10 → (Lib.decodeN n c b1 b2 b3).2 = 1) ∧ (2 ≤ (Lib.decodeN n c b1 b2 b3).2 → 128 ≤ b1) ∧
    (3 ≤ (Lib.decodeN n c b1 b2 b3).2 → 128 ≤ b2) ∧ (4 ≤ (Lib.decodeN n c b1 b2 b3).2 → 128 ≤ b3) := by
  unfold Lib.decodeN
  repeat' split
  all_goals (refine ⟨⟨fun h => ?_, fun h => ?_⟩, fun h => ?_, fun h => ?_, fun h => ?_, fun h => ?_⟩ <;> first | omega | (dsimp only at *; omega) | (exfalso; dsimp only at *; omega))
theorem rn_ten (s : ByteArray) (k : Nat) : rn s k = 10 ↔ byteAt s k = 10 := by
  have h := (decode_facts (s.size - k) (s.get! k).toNat (s.get! (k + 1)).toNat (s.get! (k + 2)).toNat (s.get! (k + 3)).toNat).1
  rw [← Lib.decode_at] at h
  unfold rn byteAt; exact ⟨fun e => by have := h.1 e; omega, fun e => h.2 (by omega)⟩
theorem wd_ten (s : ByteArray) (k : Nat) (h : byteAt s k = 10) : wd s k = 1 := by
  have h2 := (decode_facts (s.size - k) (s.get! k).toNat (s.get! (k + 1)).toNat (s.get! (k + 2)).toNat (s.get! (k + 3)).toNat).2.1
  rw [← Lib.decode_at] at h2
  unfold byteAt at h; exact h2 (by omega)
theorem inner_ten (s : ByteArray) (k j : Nat) (h1 : k < j) (h2 : j < k + wd s k) : byteAt s j ≠ 10 := by
  have h := decode_facts (s.size - k) (s.get! k).toNat (s.get! (k + 1)).toNat (s.get! (k + 2)).toNat (s.get! (k + 3)).toNat
  rw [← Lib.decode_at] at h
  have h4 := wd_le4 s k
  obtain ⟨_, _, a, b, c⟩ := h
  unfold wd at h2 h4
  unfold byteAt
  rcases (show j = k + 1 ∨ j = k + 2 ∨ j = k + 3 by omega) with rfl | rfl | rfl
  · have := a (by omega); omega
  · have := b (by omega); omega
  · have := c (by omega); omega

/-- how many bytes 10 there are below k; where the line of k begins -/
def nl (s : ByteArray) : Nat → Nat
  | 0 => 0
  | k + 1 => nl s k + if byteAt s k = 10 then 1 else 0
def nlast (s : ByteArray) : Nat → Nat
  | 0 => 0
  | k + 1 => if byteAt s k = 10 then k + 1 else nlast s k
theorem nl_le (s : ByteArray) (k : Nat) : nl s k ≤ k := by
  induction k with
  | zero => exact Nat.le_refl _
  | succ k ih => simp only [nl]; split <;> omega
theorem nlast_le (s : ByteArray) (k : Nat) : nlast s k ≤ k := by
  induction k with
  | zero => exact Nat.le_refl _
  | succ k ih => simp only [nlast]; split <;> omega
theorem nl_skip (s : ByteArray) (a b : Nat) (h : a ≤ b) (hn : ∀ j, a ≤ j → j < b → byteAt s j ≠ 10) : nl s b = nl s a ∧ nlast s b = nlast s a := by
  obtain ⟨d, rfl⟩ : ∃ d, b = a + d := ⟨b - a, by omega⟩
  clear h
  induction d with
  | zero => exact ⟨rfl, rfl⟩
  | succ d ih =>
    have ih := ih (fun j h1 h2 => hn j h1 (by omega))
    have h := hn (a + d) (by omega) (by omega)
    rw [show a + (d + 1) = (a + d) + 1 from rfl]
    simp only [nl, nlast, if_neg h, Nat.add_zero]
    exact ih
theorem nl_yes (s : ByteArray) (pos : Nat) (h : rn s pos = 10) : nl s (pos + wd s pos) = nl s pos + 1 ∧ nlast s (pos + wd s pos) = pos + wd s pos := by
  have hb := (rn_ten s pos).1 h
  rw [wd_ten s pos hb]
  simp [nl, nlast, hb]
theorem nl_no (s : ByteArray) (pos : Nat) (h : rn s pos ≠ 10) : nl s (pos + wd s pos) = nl s pos ∧ nlast s (pos + wd s pos) = nlast s pos := by
  have hb : byteAt s pos ≠ 10 := fun e => h ((rn_ten s pos).2 e)
  refine nl_skip s pos (pos + wd s pos) (by omega) (fun j h1 h2 => ?_)
  by_cases e : j = pos
  · rw [e]; exact hb
  · exact inner_ten s pos j (by omega) h2

/-- the runes that begin below at -/
def below (s : ByteArray) (at' : Nat) : List Nat := (allP s).takeWhile (fun p => decide (p < at'))
theorem Stand.below {s : ByteArray} {pre : List Nat} {pos at' : Nat} (h : Stand s pre pos) (hp : ∀ p ∈ pre, p < at') (hge : at' ≤ pos) : below s at' = pre := by
  obtain ⟨⟨fuel, _, e⟩, _⟩ := h
  unfold Proofs.YthdcamklbjlanaaDoor.below
  rw [e, List.takeWhile_append_of_pos (by intro p hm; simp [hp p hm])]
  have : (poss s fuel pos).takeWhile (fun p => decide (p < at')) = [] := by
    cases fuel with
    | zero => rfl
    | succ f =>
      simp only [poss]; split
      · rw [List.takeWhile_cons_of_neg (by simp; omega)]
      · rfl
  rw [this, List.append_nil]
def lineI (s : ByteArray) (at' : Nat) : Int := 1 + (nl s at' : Int)
def colI (s : ByteArray) (at' : Nat) : Int := 1 + (((below s at').length - qOf s (nlast s at') : Nat) : Int)

/-- the line of each place begins where a rune begins -/
theorem stand_near (s : ByteArray) (k : Nat) (hk : k ≤ s.size) : ∃ pre pos, Stand s pre pos ∧ k ≤ pos ∧ (∀ j, k ≤ j → j < pos → byteAt s j ≠ 10) ∧ ∃ pre0, Stand s pre0 (nlast s pos) := by
  induction k with
  | zero => exact ⟨[], 0, Stand.start s, Nat.le_refl _, fun j _ h => absurd h (by omega), [], Stand.start s⟩
  | succ k ih =>
    obtain ⟨pre, pos, hst, hle, hn, pre0, h0⟩ := ih (by omega)
    by_cases h : k + 1 ≤ pos
    · exact ⟨pre, pos, hst, h, fun j h1 h2 => hn j (by omega) h2, pre0, h0⟩
    · obtain rfl : pos = k := by omega
      have hw := wd_pos s pos
      have hnx := hst.next (by omega)
      refine ⟨pre ++ [pos], pos + wd s pos, hnx, by omega, fun j h1 h2 => inner_ten s pos j (by omega) h2, ?_⟩
      by_cases hr : rn s pos = 10
      · rw [(nl_yes s pos hr).2]; exact ⟨_, hnx⟩
      · rw [(nl_no s pos hr).2]; exact ⟨_, h0⟩
theorem stand_line (s : ByteArray) (k : Nat) (hk : k ≤ s.size) : ∃ pre0, Stand s pre0 (nlast s k) := by
  obtain ⟨pre, pos, _, hle, hn, pre0, h0⟩ := stand_near s k hk
  rw [(nl_skip s k pos hle hn).2] at h0
  exact ⟨pre0, h0⟩
end Go.Proofs.YthdcamklbjlanaaDoor
