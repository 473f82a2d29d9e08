import Derived.Test.YtdkpnbjkehakjaaGreatDoorPolJK
import Derived.Test.YtdkpnbjkehakjaaGreatDoorLaysS
set_option linter.unusedSimpArgs false
set_option linter.unusedVariables false
/-! policy: lines and their words; all lines of a text -/
namespace Go.Proofs.YtdkpnbjkehakjaaGreatDoor
open Go.RowKit

/-- between words -/
def blankP (x : Nat) : Bool := x == 32 || x == 9
/-- a line's words -/
def wordsB (l : ByteArray) : List ByteArray := Lib.goFieldsP blankP l
theorem spans_ok (p : Nat → Bool) (s : ByteArray) : ∀ (f pos : Nat) (st : Option Nat) (acc : List (Nat × Nat)), (∀ x ∈ acc, x.1 < x.2 ∧ x.2 ≤ s.size) → (∀ a, st = some a → a < pos ∧ a < s.size) →
    (∀ x ∈ (Lib.spansFromP p s f pos st acc).1, x.1 < x.2 ∧ x.2 ≤ s.size) ∧ ∀ a, (Lib.spansFromP p s f pos st acc).2 = some a → a < s.size
  | 0, pos, st, acc, h, hs => ⟨h, fun a e => (hs a e).2⟩
  | f + 1, pos, st, acc, h, hs => by
    unfold Lib.spansFromP
    have hw := Lib.width_pos s pos
    split
    · rename_i hlt
      split
      · cases st with
        | none => exact spans_ok p s f _ none acc h (fun a e => by cases e)
        | some a =>
          refine spans_ok p s f _ none _ (fun x hx => ?_) (fun a e => by cases e)
          rcases List.mem_append.1 hx with hx | hx
          · exact h x hx
          · simp at hx; subst hx; exact ⟨(hs a rfl).1, by show pos ≤ _; omega⟩
      · cases st with
        | none => exact spans_ok p s f _ (some pos) acc h (fun a e => by cases e; omega)
        | some a => exact spans_ok p s f _ (some a) acc h (fun b e => by cases e; have := hs a rfl; omega)
    · exact ⟨h, fun a e => (hs a e).2⟩
theorem words_ok (l : ByteArray) : ∀ x ∈ wordsB l, 0 < x.size ∧ x.size ≤ l.size := by
  intro x hx
  unfold wordsB Lib.goFieldsP at hx
  obtain ⟨y, hy, rfl⟩ := List.mem_map.1 hx
  obtain ⟨h1, h2⟩ := spans_ok blankP l l.size 0 none [] (fun x hx => by cases hx) (fun a e => by cases e)
  have hy' : y.1 < y.2 ∧ y.2 ≤ l.size := by
    unfold Lib.spansOfP Lib.closeSpans at hy
    split at hy
    · rename_i a e
      rcases List.mem_append.1 hy with hy | hy
      · exact h1 y hy
      · simp at hy; subst hy; exact ⟨h2 a e, Nat.le_refl _⟩
    · exact h1 y hy
  have : (l.extract y.1 y.2).size = min y.2 l.size - y.1 := by simp
  omega
theorem wd6_mem {ws : List ByteArray} {j : Nat} (h : j < ws.length) : wd6 ws j ∈ ws := by
  unfold wd6; rw [List.getElem?_eq_getElem h]; exact List.getElem_mem h
theorem words_wd (l : ByteArray) (h : l.size ≤ 65536) : (∀ j, (wd6 (wordsB l) j).size ≤ 65536) ∧ ∀ j, j < (wordsB l).length → 0 < (wd6 (wordsB l) j).size := by
  refine ⟨fun j => ?_, fun j hj => (words_ok l _ (wd6_mem hj)).1⟩
  by_cases hj : j < (wordsB l).length
  · have := (words_ok l _ (wd6_mem hj)).2; omega
  · unfold wd6; rw [List.getElem?_eq_none (by omega)]; decide
/-- all lines, from place a on -/
def readP : List ByteArray → Int → PSt → PSt × Int × Int
  | [], _, st => (st, 0, 0)
  | l :: ls, a, st => if (doP st (wordsB l)).2 ≠ 0 then ((doP st (wordsB l)).1, a + Lib.index l.data.toList (wd6 (wordsB l) 0).data.toList, (doP st (wordsB l)).2) else readP ls (a + (l.size + 1)) (doP st (wordsB l)).1
/-- the lines of a text -/
def linesB (s : ByteArray) : List ByteArray := Lib.splitB ⟨#[10]⟩ 0 (Lib.countB s ⟨#[10]⟩) s
theorem linesB_len (s : ByteArray) : (linesB s).length = Lib.countB s ⟨#[10]⟩ + 1 := Lib.splitB_all ⟨#[10]⟩ (by decide) 0 _ s rfl
theorem split_le (sep : ByteArray) (save : Nat) : ∀ (k : Nat) (s : ByteArray), ∀ x ∈ Lib.splitB sep save k s, x.size ≤ s.size
  | 0, s, x, hx => by rw [Lib.splitB_zero] at hx; simp at hx; subst hx; exact Nat.le_refl _
  | k + 1, s, x, hx => by
    unfold Lib.splitB at hx
    split at hx
    · simp at hx; subst hx; exact Nat.le_refl _
    · rcases List.mem_cons.1 hx with rfl | hx
      · simp; omega
      · have := split_le sep save k _ x hx
        simp at this; omega
theorem linesB_le (s : ByteArray) : ∀ x ∈ linesB s, x.size ≤ s.size := split_le _ _ _ s
/-- flows become more by one at the most -/
theorem ite_F {c : Prop} [Decidable c] {a b : PSt × Int} {n : Nat} (h1 : a.1.F.length ≤ n) (h2 : b.1.F.length ≤ n) : (if c then a else b).1.F.length ≤ n := by
  split
  · exact h1
  · exact h2
theorem levelP_F (st : PSt) (ws : List ByteArray) : (levelP st ws).1.F.length ≤ st.F.length + 1 := by
  unfold levelP
  repeat' (refine ite_F ?_ ?_)
  all_goals simp
theorem flowP_F (st : PSt) (ws : List ByteArray) : (flowP st ws).1.F.length ≤ st.F.length + 1 := by
  unfold flowP
  repeat' (refine ite_F ?_ ?_)
  all_goals simp
theorem chanIP_F (st : PSt) (ws : List ByteArray) : (chanIP st ws).1.F.length ≤ st.F.length + 1 := by
  unfold chanIP
  repeat' (refine ite_F ?_ ?_)
  all_goals simp
theorem chanOP_F (st : PSt) (ws : List ByteArray) : (chanOP st ws).1.F.length ≤ st.F.length + 1 := by
  unfold chanOP
  repeat' (refine ite_F ?_ ?_)
  all_goals simp
theorem depthP_F (st : PSt) (ws : List ByteArray) : (depthP st ws).1.F.length ≤ st.F.length + 1 := by
  unfold depthP
  refine ite_F (by simp) ?_
  split
  · simp
  · repeat' (refine ite_F ?_ ?_)
    all_goals simp
theorem doP_F (st : PSt) (ws : List ByteArray) : (doP st ws).1.F.length ≤ st.F.length + 1 := by
  unfold doP
  exact ite_F (by simp) (ite_F (by simp) (ite_F (levelP_F st ws) (ite_F (flowP_F st ws) (ite_F (chanIP_F st ws) (ite_F (chanOP_F st ws) (ite_F (depthP_F st ws) (by simp)))))))
theorem doP_none (st : PSt) (ws : List ByteArray) (h : (doP st ws).2 ≠ 0) : 0 < ws.length := by
  rcases Nat.eq_zero_or_pos ws.length with h0 | h0
  · exact absurd (by unfold doP; rw [if_pos h0]) h
  · exact h0
end Go.Proofs.YtdkpnbjkehakjaaGreatDoor
