import Derived.Test.YtdkpnbjkehakjaaGreatDoorTextG
/-! plain: one string behind another: where the runes begin -/
namespace Go.Proofs.YtdkpnbjkehakjaaGreatDoor
set_option linter.unusedVariables false
open Go.RowKit

set_option maxHeartbeats 1000000 in
theorem decode_more (n m c b1 b2 b3 d1 d2 d3 : Nat) (h : n ≤ m) (e1 : 1 < n → d1 = b1) (e2 : 2 < n → d2 = b2) (e3 : 3 < n → d3 = b3) (hb : ¬ Lib.decodeN n c b1 b2 b3 = (65533, 1)) :
    Lib.decodeN m c d1 d2 d3 = Lib.decodeN n c b1 b2 b3 := by
  unfold Lib.decodeN at hb ⊢
  by_cases h0 : c < 128
  · rw [if_pos h0, if_pos h0]
  rw [if_neg h0] at hb ⊢
  rw [if_neg h0]
  by_cases h1 : c / 32 = 6 ∧ (1 < n ∧ b1 / 64 = 2)
  · obtain rfl := e1 h1.2.1
    rw [if_pos h1, if_pos ⟨h1.1, by omega, h1.2.2⟩]
  rw [if_neg h1] at hb ⊢
  by_cases h2 : c / 16 = 14 ∧ (1 < n ∧ b1 / 64 = 2) ∧ (2 < n ∧ b2 / 64 = 2)
  · obtain rfl := e1 h2.2.1.1
    obtain rfl := e2 h2.2.2.1
    rw [if_pos h2, if_neg (by omega), if_pos ⟨h2.1, ⟨by omega, h2.2.1.2⟩, by omega, h2.2.2.2⟩]
  rw [if_neg h2] at hb ⊢
  by_cases h3 : c / 8 = 30 ∧ (1 < n ∧ b1 / 64 = 2) ∧ (2 < n ∧ b2 / 64 = 2) ∧ (3 < n ∧ b3 / 64 = 2)
  · obtain rfl := e1 h3.2.1.1
    obtain rfl := e2 h3.2.2.1.1
    obtain rfl := e3 h3.2.2.2.1
    rw [if_pos h3, if_neg (by omega), if_neg (by omega), if_pos ⟨h3.1, ⟨by omega, h3.2.1.2⟩, ⟨by omega, h3.2.2.1.2⟩, by omega, h3.2.2.2.2⟩]
  rw [if_neg h3] at hb
  exact absurd rfl hb

theorem get_l (a b : ByteArray) (i : Nat) (h : i < a.size) : (a ++ b).get! i = a.get! i := by
  have e : (a ++ b).data = a.data ++ b.data := ByteArray.data_append
  have h' : i < a.data.size := h
  simp only [ByteArray.get!, e]
  simp only [getElem!_def]
  rw [Array.getElem?_append_left h']
theorem get_r (a b : ByteArray) (i : Nat) : (a ++ b).get! (a.size + i) = b.get! i := by
  have e : (a ++ b).data = a.data ++ b.data := ByteArray.data_append
  simp only [ByteArray.get!, e]
  simp only [getElem!_def]
  rw [Array.getElem?_append_right (by show a.data.size ≤ a.data.size + i; omega)]
  rw [show a.size + i - a.data.size = i from by show a.data.size + i - a.data.size = i; omega]

theorem decode_l (a b : ByteArray) (k : Nat) (h : k < a.size) (hb : badB a k = false) : Utf8.decode (a ++ b) k = Utf8.decode a k := by
  rw [Lib.decode_at, Lib.decode_at]
  rw [get_l a b k h]
  apply decode_more
  · rw [ByteArray.size_append]; omega
  · intro h1; rw [get_l a b _ (by omega)]
  · intro h1; rw [get_l a b _ (by omega)]
  · intro h1; rw [get_l a b _ (by omega)]
  · intro e
    rw [← Lib.decode_at] at e
    unfold badB rn wd at hb
    rw [e] at hb
    simp at hb
theorem decode_r (a b : ByteArray) (k : Nat) : Utf8.decode (a ++ b) (a.size + k) = Utf8.decode b k := by
  rw [Lib.decode_at, Lib.decode_at, get_r, show a.size + k + 1 = a.size + (k + 1) by omega, show a.size + k + 2 = a.size + (k + 2) by omega, show a.size + k + 3 = a.size + (k + 3) by omega, get_r, get_r, get_r, ByteArray.size_append]
  rw [show a.size + b.size - (a.size + k) = b.size - k by omega]

theorem wd_in (s : ByteArray) (k : Nat) (h : k < s.size) : k + wd s k ≤ s.size := by
  unfold wd; rw [Lib.decode_at]; unfold Lib.decodeN
  repeat' split
  all_goals (simp only; omega)

theorem poss_lt (s : ByteArray) : ∀ f pos p, p ∈ poss s f pos → p < s.size
  | 0, pos, p, h => by simp [poss] at h
  | f + 1, pos, p, h => by
    by_cases hlt : pos < s.size
    · simp only [poss, hlt, if_true, List.mem_cons] at h
      rcases h with rfl | h
      · exact hlt
      · exact poss_lt s f _ p h
    · rw [poss_end s _ pos hlt] at h; simp at h

theorem poss_len (s : ByteArray) : ∀ f pos, (poss s f pos).length ≤ f
  | 0, pos => Nat.le_refl _
  | f + 1, pos => by
    by_cases h : pos < s.size
    · simp only [poss, h, if_true, List.length_cons]; have := poss_len s f (pos + wd s pos); omega
    · rw [poss_end s _ pos h]; simp
theorem allP_len (s : ByteArray) : (allP s).length ≤ s.size := poss_len s s.size 0

theorem poss_r (a b : ByteArray) : ∀ f pos, poss (a ++ b) f (a.size + pos) = (poss b f pos).map (a.size + ·)
  | 0, pos => rfl
  | f + 1, pos => by
    by_cases h : pos < b.size
    · have h' : a.size + pos < (a ++ b).size := by rw [ByteArray.size_append]; omega
      have hw : wd (a ++ b) (a.size + pos) = wd b pos := by unfold wd; rw [decode_r]
      simp only [poss, h, h', if_true, List.map_cons, hw]
      rw [Nat.add_assoc, poss_r a b f (pos + wd b pos)]
    · rw [poss_end b _ pos h, poss_end (a ++ b) _ _ (by rw [ByteArray.size_append]; omega)]; rfl

theorem poss_l (a b : ByteArray) : ∀ f g pos, pos ≤ a.size → a.size ≤ pos + f → (a ++ b).size ≤ pos + g → (∀ p ∈ poss a f pos, badB a p = false) → poss (a ++ b) g pos = poss a f pos ++ poss (a ++ b) b.size a.size
  | 0, g, pos, h1, h2, h3, _ => by
    obtain rfl : pos = a.size := by omega
    simp only [poss, List.nil_append]
    exact poss_fuel _ _ _ _ h3 (by rw [ByteArray.size_append]; omega)
  | f + 1, 0, pos, h1, h2, h3, hb => by
    rw [ByteArray.size_append] at h3
    obtain rfl : pos = a.size := by omega
    rw [poss_end a _ _ (by omega), List.nil_append]
    exact poss_fuel _ _ _ _ (by rw [ByteArray.size_append]; omega) (by rw [ByteArray.size_append]; omega)
  | f + 1, g + 1, pos, h1, h2, h3, hb => by
    by_cases hlt : pos < a.size
    · have hlt' : pos < (a ++ b).size := by rw [ByteArray.size_append]; omega
      simp only [poss, hlt, if_true, List.mem_cons, forall_eq_or_imp] at hb
      have hw : wd (a ++ b) pos = wd a pos := by unfold wd; rw [decode_l a b pos hlt hb.1]
      have hi := wd_in a pos hlt
      have hp := wd_pos a pos
      simp only [poss, hlt, hlt', if_true, List.cons_append, hw]
      rw [poss_l a b f g (pos + wd a pos) hi (by omega) (by omega) hb.2]
    · obtain rfl : pos = a.size := by omega
      rw [poss_end a _ _ hlt, List.nil_append]
      exact poss_fuel _ _ _ _ h3 (by rw [ByteArray.size_append]; omega)

/-- the runes of two strings, one behind the other, where the first is a text -/
theorem allP_join (a b : ByteArray) (ha : ∀ p ∈ allP a, badB a p = false) : allP (a ++ b) = allP a ++ (allP b).map (a.size + ·) := by
  unfold allP
  rw [poss_l a b a.size (a ++ b).size 0 (Nat.zero_le _) (by omega) (by omega) ha]
  rw [show poss (a ++ b) b.size a.size = poss (a ++ b) b.size (a.size + 0) from rfl, poss_r]

theorem badB_l (a b : ByteArray) (p : Nat) (hm : p ∈ allP a) (ha : badB a p = false) : badB (a ++ b) p = badB a p := by
  have := decode_l a b p (poss_lt a _ _ p hm) ha
  unfold badB rn wd; rw [this]
theorem badB_r (a b : ByteArray) (p : Nat) : badB (a ++ b) (a.size + p) = badB b p := by
  unfold badB rn wd; rw [decode_r]

theorem join_bad (a b : ByteArray) (ha : badI a < 0) (hb : badI b < 0) : badI (a ++ b) = -1 := by
  have ha' := badI_no a ha
  have hb' := badI_no b hb
  refine badI_none (a ++ b) _ (allP_join a b ha') ?_
  intro p hm
  rcases List.mem_append.1 hm with hm | hm
  · rw [badB_l a b p hm (ha' p hm)]; exact ha' p hm
  · obtain ⟨q, hq, rfl⟩ := List.mem_map.1 hm
    rw [badB_r]; exact hb' q hq
theorem join_runes (a b : ByteArray) (ha : badI a < 0) : (allP (a ++ b)).length = (allP a).length + (allP b).length := by
  rw [allP_join a b (badI_no a ha)]; simp
end Go.Proofs.YtdkpnbjkehakjaaGreatDoor
