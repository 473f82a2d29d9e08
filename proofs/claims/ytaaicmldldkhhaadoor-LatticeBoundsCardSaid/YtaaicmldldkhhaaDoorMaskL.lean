import Derived.Test.YtaaicmldldkhhaaDoorMaskR
/-! plain: the numbers of a set, in order -/
namespace Go.Proofs.YtaaicmldldkhhaaDoor.MM
set_option linter.unusedVariables false

/-- the numbers of m below k, in order -/
def upto (m : Int) (k : Nat) : List Nat := (List.range k).filter (fun i => hasB m (i : Int))
def bitsOf (m : Int) : List Nat := upto m 64
theorem upto_zero (m : Int) : upto m 0 = [] := rfl
theorem upto_yes (m : Int) (k : Nat) (h : hasB m (k : Int) = true) : upto m (k + 1) = upto m k ++ [k] := by
  unfold upto; rw [List.range_succ, List.filter_append]; simp [h]
theorem upto_no (m : Int) (k : Nat) (h : hasB m (k : Int) = false) : upto m (k + 1) = upto m k := by
  unfold upto; rw [List.range_succ, List.filter_append]; simp [h]
theorem upto_len (m : Int) (k : Nat) : (upto m k).length ≤ k := by
  unfold upto; exact Nat.le_trans (List.length_filter_le _ _) (by simp)
theorem upto_prefix (m : Int) (k j : Nat) (h : k ≤ j) : upto m k <+: upto m j := by
  obtain ⟨d, rfl⟩ : ∃ d, j = k + d := ⟨j - k, by omega⟩
  clear h
  induction d with
  | zero => exact List.prefix_refl _
  | succ d ih =>
    refine List.IsPrefix.trans ih ?_
    rw [show k + (d + 1) = (k + d) + 1 from rfl]
    cases hh : hasB m ((k + d : Nat) : Int)
    · rw [upto_no _ _ hh]; exact List.prefix_refl _
    · rw [upto_yes _ _ hh]; exact List.prefix_append _ _
theorem bits_len (m : Int) : (bitsOf m).length ≤ 64 := upto_len m 64
theorem bits_lt (m : Int) (x : Nat) (h : x ∈ bitsOf m) : x < 64 := by
  unfold bitsOf upto at h; simp at h; exact h.1
def uptoI (m : Int) (k : Nat) : List Int := (upto m k).map (fun i : Nat => (i : Int))
def bitsI (m : Int) : List Int := uptoI m 64
theorem uptoI_yes (m : Int) (k : Nat) (h : hasB m (k : Int) = true) : uptoI m (k + 1) = uptoI m k ++ [(k : Int)] := by unfold uptoI; rw [upto_yes m k h]; simp
theorem uptoI_no (m : Int) (k : Nat) (h : hasB m (k : Int) = false) : uptoI m (k + 1) = uptoI m k := by unfold uptoI; rw [upto_no m k h]
theorem uptoI_len (m : Int) (k : Nat) : (uptoI m k).length ≤ k := by unfold uptoI; rw [List.length_map]; exact upto_len m k
def toI (l : List Nat) : List Int := l.map (fun i : Nat => (i : Int))
theorem toI_snoc (l : List Nat) (x : Nat) : toI (l ++ [x]) = toI l ++ [(x : Int)] := by unfold toI; simp
theorem toI_len (l : List Nat) : (toI l).length = l.length := by unfold toI; simp
theorem toI_all (m : Int) (k : Nat) (h : (bitsOf m).length ≤ k) : toI (bitsOf m) = (bitsI m).take k := by
  have : (bitsI m) = toI (bitsOf m) := rfl
  rw [this, List.take_of_length_le (by rw [toI_len]; exact h)]
theorem toI_part (m : Int) (k : Nat) (q : List Nat) (x : Nat) (h : q ++ [x] <+: bitsOf m) (hk : q.length = k) : toI q = (bitsI m).take k := by
  obtain ⟨t, ht⟩ := h
  have : (bitsI m) = toI (bitsOf m) := rfl
  rw [this, ← ht]; unfold toI; rw [List.append_assoc, List.map_append, List.take_append_of_le_length (by simp [hk]), List.take_of_length_le (by simp [hk])]
/-- the set of a list of numbers -/
def allIn (l : List Int) : Bool := l.all (fun i => decide (0 ≤ i ∧ i < 64))
def foldW (l : List Int) : Int := l.foldl withI 0
def ofM (l : List Int) : Int := if allIn l = true then foldW l else 0
theorem allIn_snoc (l : List Int) (i : Int) : allIn (l ++ [i]) = (allIn l && decide (0 ≤ i ∧ i < 64)) := by unfold allIn; simp
theorem foldW_snoc (l : List Int) (i : Int) : foldW (l ++ [i]) = withI (foldW l) i := by unfold foldW; simp
theorem foldW_bd' (l : List Int) : ∀ m : Int, 0 ≤ m ∧ m ≤ 18446744073709551615 → 0 ≤ l.foldl withI m ∧ l.foldl withI m ≤ 18446744073709551615 := by
  induction l with
  | nil => intro m h; exact h
  | cons i l ih => intro m h; exact ih _ (withI_bd m i h.1 h.2)
theorem foldW_bd (l : List Int) : 0 ≤ foldW l ∧ foldW l ≤ 18446744073709551615 := foldW_bd' l 0 (by omega)
theorem allIn_take (l : List Int) (k : Nat) (h : allIn (l.take k) = false) : allIn l = false := by
  unfold allIn at *
  rw [Bool.eq_false_iff] at *
  intro hl; apply h
  rw [List.all_eq_true] at *
  exact fun x hx => hl x (List.mem_of_mem_take hx)
theorem ofM_no (l : List Int) (h : allIn l = false) : ofM l = 0 := by unfold ofM; rw [h]; simp
theorem ofM_yes (l : List Int) (h : allIn l = true) : ofM l = foldW l := by unfold ofM; rw [if_pos h]
theorem bit_nz (i : Int) (h : 0 ≤ i ∧ i < 64) : (bitI i == 0) = false := by
  rw [bitI_in h.1 h.2]
  have := pow_pos64 i.toNat (by omega)
  rw [beq_eq_false_iff_ne]; omega
theorem bit_z (i : Int) (h : ¬ (0 ≤ i ∧ i < 64)) : (bitI i == 0) = true := by rw [bitI_out h]; rfl
theorem all_yes (l : List Int) (t : List Int) (x : Int) (ht : t = l ++ [x]) (hl : allIn l = true) (h : 0 ≤ x ∧ x < 64) : allIn t = true := by rw [ht, allIn_snoc, hl, decide_eq_true h]; rfl
theorem all_no (l : List Int) (t : List Int) (x : Int) (ht : t = l ++ [x]) (h : ¬ (0 ≤ x ∧ x < 64)) : allIn t = false := by rw [ht, allIn_snoc, decide_eq_false h]; simp
def firstOf (l : List Nat) : Int := match l with | [] => -1 | x :: _ => (x : Int)
def lastOf (l : List Nat) : Int := match l.getLast? with | none => -1 | some x => (x : Int)
theorem lastOf_nil : lastOf [] = -1 := rfl
theorem lastOf_snoc (l : List Nat) (x : Nat) : lastOf (l ++ [x]) = (x : Int) := by unfold lastOf; simp
theorem firstOf_prefix (l : List Nat) (x : Nat) (h : [x] <+: l) : firstOf l = (x : Int) := by
  obtain ⟨t, rfl⟩ := h; rfl
theorem toI_get (l : List Nat) (j : Nat) (h : j < l.length) : (toI l)[j]?.getD 0 = ((l[j]'h : Nat) : Int) := by unfold toI; simp [h]
theorem first_get (l : List Nat) (h : 0 < l.length) : (toI l)[0]?.getD 0 = firstOf l := by
  rw [toI_get l 0 h]
  match l, h with
  | x :: t, _ => rfl
theorem last_get (l : List Nat) (h : 0 < l.length) : (toI l)[l.length - 1]?.getD 0 = lastOf l := by
  rw [toI_get l (l.length - 1) (by omega)]
  unfold lastOf
  rw [List.getLast?_eq_getElem?, List.getElem?_eq_getElem (by omega)]
end Go.Proofs.YtaaicmldldkhhaaDoor.MM
