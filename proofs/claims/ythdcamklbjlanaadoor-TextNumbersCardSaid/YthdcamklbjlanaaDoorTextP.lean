import Derived.Test.YthdcamklbjlanaaDoorTextW
import Derived.Lib.TrimU
/-! plain: where the runes of a string begin -/
namespace Go.Proofs.YthdcamklbjlanaaDoor
set_option linter.unusedVariables false
open Go.RowKit

def wd (s : ByteArray) (k : Nat) : Nat := (Utf8.decode s k).2
def rn (s : ByteArray) (k : Nat) : Nat := (Utf8.decode s k).1
def badB (s : ByteArray) (k : Nat) : Bool := decide (rn s k = 65533) && decide (wd s k = 1)
theorem wd_pos (s : ByteArray) (k : Nat) : 1 ≤ wd s k := Lib.width_pos s k
theorem rn_le (s : ByteArray) (k : Nat) : rn s k ≤ 1114111 := Lib.rune_le s k
theorem wd_le4 (s : ByteArray) (k : Nat) : wd s k ≤ 4 := by
  unfold wd; rw [Lib.decode_at]; unfold Lib.decodeN
  repeat' split
  all_goals (simp only; omega)

theorem formI_bad (s : ByteArray) (k : Nat) (h : k < s.size) (hb : badB s k = true) : formI s k = (0, 0) := by
  unfold badB rn wd at hb
  simp only [Bool.and_eq_true, decide_eq_true_eq] at hb
  refine formI_in s k h 0 0 (TM.fN_no _ _ _ _ _ ?_)
  rw [← Lib.decode_at]; exact Prod.ext hb.1 hb.2
theorem formI_good (s : ByteArray) (k : Nat) (h : k < s.size) (hb : badB s k = false) : formI s k = ((rn s k : Int), (wd s k : Int)) := by
  refine formI_in s k h (rn s k) (wd s k) ?_
  unfold TM.fN
  rw [← Lib.decode_at, if_neg]
  · rfl
  · intro e
    unfold badB rn wd at hb
    rw [e] at hb
    simp at hb

/-- the places where runes begin, from pos on -/
def poss (s : ByteArray) : Nat → Nat → List Nat
  | 0, _ => []
  | fuel + 1, pos => if pos < s.size then pos :: poss s fuel (pos + wd s pos) else []
def allP (s : ByteArray) : List Nat := poss s s.size 0

theorem poss_end (s : ByteArray) (fuel pos : Nat) (h : ¬ pos < s.size) : poss s fuel pos = [] := by cases fuel <;> simp [poss, h]
theorem poss_step (s : ByteArray) (fuel pos : Nat) (h : pos < s.size) (hf : s.size ≤ pos + fuel) : ∃ f', fuel = f' + 1 ∧ poss s fuel pos = pos :: poss s f' (pos + wd s pos) ∧ s.size ≤ pos + wd s pos + f' := by
  cases fuel with
  | zero => omega
  | succ f => exact ⟨f, rfl, by simp [poss, h], by have := wd_pos s pos; omega⟩

/-- a walk through the runes stands at pos; pre are those gone over -/
def Stand (s : ByteArray) (pre : List Nat) (pos : Nat) : Prop := (∃ fuel, s.size ≤ pos + fuel ∧ allP s = pre ++ poss s fuel pos) ∧ pre.length ≤ pos ∧ (pre = [] ↔ pos = 0) ∧ ∀ p ∈ pre, p < pos
theorem Stand.start (s : ByteArray) : Stand s [] 0 := ⟨⟨s.size, by omega, rfl⟩, Nat.le_refl _, by simp, by simp⟩
theorem Stand.next {s : ByteArray} {pre : List Nat} {pos : Nat} (h : Stand s pre pos) (hlt : pos < s.size) : Stand s (pre ++ [pos]) (pos + wd s pos) := by
  obtain ⟨⟨fuel, hf, e⟩, hl, h0, hp⟩ := h
  obtain ⟨f', rfl, e2, hf'⟩ := poss_step s fuel pos hlt hf
  have := wd_pos s pos
  refine ⟨⟨f', hf', by rw [e, e2]; simp⟩, by simp; omega, ?_, ?_⟩
  · constructor
    · intro h; simp at h
    · intro h; omega
  · intro p hm
    rcases List.mem_append.1 hm with hm | hm
    · have := hp p hm; omega
    · simp at hm; omega
theorem Stand.stop {s : ByteArray} {pre : List Nat} {pos : Nat} (h : Stand s pre pos) (hge : ¬ pos < s.size) : allP s = pre := by
  obtain ⟨⟨fuel, _, e⟩, _⟩ := h
  rw [e, poss_end s fuel pos hge, List.append_nil]
theorem Stand.mem {s : ByteArray} {pre : List Nat} {pos : Nat} (h : Stand s pre pos) (hlt : pos < s.size) : ∃ t, allP s = pre ++ pos :: t := by
  obtain ⟨⟨fuel, hf, e⟩, _⟩ := h
  obtain ⟨f', rfl, e2, _⟩ := poss_step s fuel pos hlt hf
  exact ⟨_, by rw [e, e2]⟩
theorem poss_fuel (s : ByteArray) : ∀ f g pos, s.size ≤ pos + f → s.size ≤ pos + g → poss s f pos = poss s g pos
  | 0, g, pos, hf, _ => by rw [poss_end s 0 pos (by omega), poss_end s g pos (by omega)]
  | f + 1, 0, pos, _, hg => by rw [poss_end s _ pos (by omega), poss_end s 0 pos (by omega)]
  | f + 1, g + 1, pos, hf, hg => by
    by_cases h : pos < s.size
    · have := wd_pos s pos
      simp only [poss, h, if_true]
      rw [poss_fuel s f g (pos + wd s pos) (by omega) (by omega)]
    · rw [poss_end s _ pos h, poss_end s _ pos h]
/-- how many runes begin ahead of pos -/
def qOf (s : ByteArray) (pos : Nat) : Nat := (allP s).length - (poss s s.size pos).length
theorem Stand.q {s : ByteArray} {pre : List Nat} {pos : Nat} (h : Stand s pre pos) : qOf s pos = pre.length := by
  obtain ⟨⟨fuel, hf, e⟩, _⟩ := h
  unfold qOf
  rw [e, poss_fuel s fuel s.size pos hf (by omega)]; simp
end Go.Proofs.YthdcamklbjlanaaDoor
