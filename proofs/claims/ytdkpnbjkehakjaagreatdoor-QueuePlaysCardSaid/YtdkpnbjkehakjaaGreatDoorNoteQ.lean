import Derived.Test.YtdkpnbjkehakjaaGreatDoorNoteP
import Derived.Test.YtdkpnbjkehakjaaGreatDoorPolW
set_option linter.unusedSimpArgs false
set_option linter.unusedVariables false
/-! plain: what Parse tells hangs on the words of the lines alone, and on whether the bytes are a text -/
namespace Go.Proofs.YtdkpnbjkehakjaaGreatDoor
open Go.RowKit

/-- what Parse tells of a text whose lines do q, with the error c -/
def ParseB (q : PSt) (c : Int) (st : PSt) (S : List Int) (e : Int) : Prop :=
  (c ≠ 0 ∧ st = st06 ∧ S = [] ∧ e = c) ∨ (c = 0 ∧ ∃ k, FinE q S k ∧ ((k = 0 ∧ st = q ∧ e = 0) ∨ (k ≠ 0 ∧ S = [] ∧ st = st06 ∧ e = k)))
theorem parse_cases {s : ByteArray} {st : PSt} {S : List Int} {a e : Int} (hs : s.size ≤ 65536) (h : ParseE s st S a e) :
    (0 ≤ badI s ∧ st = st06 ∧ S = [] ∧ e = 5) ∨ (badI s < 0 ∧ ParseB (readP (linesB s) 0 st06).1 (readP (linesB s) 0 st06).2.2 st S e) := by
  unfold ParseE at h
  rw [if_neg (by omega)] at h
  by_cases hb : 0 ≤ badI s
  · rw [if_pos hb] at h
    exact .inl ⟨hb, h.1, h.2.1, h.2.2.2⟩
  · rw [if_neg hb] at h
    refine .inr ⟨by omega, ?_⟩
    by_cases hc : (readP (linesB s) 0 st06).2.2 ≠ 0
    · rw [if_pos hc] at h
      exact .inl ⟨hc, h.1, h.2.1, h.2.2.2⟩
    · rw [if_neg hc] at h
      obtain ⟨k, hf, ⟨h1, h2, _, h4⟩ | ⟨h1, h2, h3, _, h5⟩⟩ := h
      · exact .inr ⟨by simpa using hc, k, hf, .inl ⟨h1, h2, h4⟩⟩
      · exact .inr ⟨by simpa using hc, k, hf, .inr ⟨h1, h2, h3, h5⟩⟩
theorem finE_same {q : PSt} {S S' : List Int} {k k' : Int} (h : FinE q S k) (h' : FinE q S' k') : k = k' ∧ (k = 0 → S = S') := by
  rcases h with ⟨a, rfl⟩ | ⟨a, T, t, hT⟩ <;> rcases h' with ⟨b, rfl⟩ | ⟨b, T', t', hT'⟩
  · exact ⟨rfl, fun e => by simp at e⟩
  · exact absurd a b
  · exact absurd b a
  · rw [LL.close_one t' t] at hT'
    rcases hT with ⟨r, rfl, rfl⟩ | ⟨r, rfl⟩ <;> rcases hT' with ⟨r', rfl, rfl⟩ | ⟨r', rfl⟩
    · exact ⟨rfl, fun _ => rfl⟩
    · rw [r] at r'; cases r'
    · rw [r] at r'; cases r'
    · exact ⟨rfl, fun e => by simp at e⟩
theorem parseB_same {q : PSt} {c : Int} {st st' : PSt} {S S' : List Int} {e e' : Int} (h : ParseB q c st S e) (h' : ParseB q c st' S' e') : e = e' ∧ st = st' ∧ S = S' := by
  rcases h with ⟨a, rfl, rfl, rfl⟩ | ⟨a, k, f, hk⟩ <;> rcases h' with ⟨b, rfl, rfl, rfl⟩ | ⟨b, k', f', hk'⟩
  · exact ⟨rfl, rfl, rfl⟩
  · exact absurd b a
  · exact absurd a b
  · obtain ⟨ek, eS⟩ := finE_same f f'
    subst ek
    rcases hk with ⟨rfl, rfl, rfl⟩ | ⟨n, rfl, rfl, rfl⟩ <;> rcases hk' with ⟨e1, rfl, rfl⟩ | ⟨n', rfl, rfl, rfl⟩
    · exact ⟨rfl, rfl, eS rfl⟩
    · exact absurd rfl n'
    · exact absurd e1 n
    · exact ⟨rfl, rfl, rfl⟩
theorem ite_5 {c : Prop} [Decidable c] {a b : PSt × Int} (h1 : a.2 ≠ 5) (h2 : b.2 ≠ 5) : (if c then a else b).2 ≠ 5 := by
  split
  · exact h1
  · exact h2
theorem doP_5 (st : PSt) (ws : List ByteArray) : (doP st ws).2 ≠ 5 := by
  unfold doP
  refine ite_5 (by simp) (ite_5 (by simp) (ite_5 ?_ (ite_5 ?_ (ite_5 ?_ (ite_5 ?_ (ite_5 ?_ (by simp)))))))
  · unfold levelP; repeat' (refine ite_5 ?_ ?_)
    all_goals simp
  · unfold flowP; repeat' (refine ite_5 ?_ ?_)
    all_goals simp
  · unfold chanIP; repeat' (refine ite_5 ?_ ?_)
    all_goals simp
  · unfold chanOP; repeat' (refine ite_5 ?_ ?_)
    all_goals simp
  · unfold depthP
    refine ite_5 (by simp) ?_
    split
    · simp
    · repeat' (refine ite_5 ?_ ?_)
      all_goals simp
theorem readP_5 : ∀ (ls : List ByteArray) (a : Int) (st : PSt), (readP ls a st).2.2 ≠ 5
  | [], a, st => by simp [readP]
  | l :: ls, a, st => by
    unfold readP
    split
    · exact doP_5 st _
    · exact readP_5 ls _ _
theorem parseB_5 {q : PSt} {c : Int} {st : PSt} {S : List Int} {e : Int} (h : ParseB q c st S e) (hc : c ≠ 5) : e ≠ 5 := by
  rcases h with ⟨_, _, _, rfl⟩ | ⟨_, k, f, ⟨_, _, rfl⟩ | ⟨_, _, _, rfl⟩⟩
  · exact hc
  · decide
  · rcases f with ⟨_, rfl⟩ | ⟨_, T, _, ⟨_, _, rfl⟩ | ⟨_, rfl⟩⟩ <;> decide
/-- what lines that say nothing, and blanks, change of what Parse tells -/
theorem note_parse {note s N W : ByteArray} (hn : ∀ c ∈ note.data.toList, c ≠ 10) (hN : N.data.toList = 35 :: 32 :: note.data.toList) (hW : W.data.toList = noteL note.data.toList s.data.toList)
    (zs : s.size ≤ 65536) (zN : N.size ≤ 65536) (zW : W.size ≤ 65536) {st st1 st2 : PSt} {S S1 S2 : List Int} {a a1 a2 e f g : Int}
    (p : ParseE s st S a e) (q : ParseE N st1 S1 a1 f) (r : ParseE W st2 S2 a2 g) : (f = 5 ∧ g = 5) ∨ (f ≠ 5 ∧ e = g ∧ st = st2 ∧ S = S2) := by
  have ok := okL_note note.data.toList s.data.toList
  rw [← hW, ← hN, okL_bytes, okL_bytes, okL_bytes] at ok
  rcases parse_cases zN q with ⟨bN, _, _, rfl⟩ | ⟨bN, qN⟩
  · refine .inl ⟨rfl, ?_⟩
    rcases parse_cases zW r with ⟨_, _, _, h⟩ | ⟨bW, _⟩
    · exact h
    · have := (ok.1 bW).1; omega
  · refine .inr ⟨parseB_5 qN (readP_5 _ _ _), ?_⟩
    rcases parse_cases zs p with ⟨b, rfl, rfl, rfl⟩ | ⟨b, pb⟩ <;> rcases parse_cases zW r with ⟨bW, rfl, rfl, rfl⟩ | ⟨bW, rb⟩
    · exact ⟨rfl, rfl, rfl⟩
    · have := (ok.1 bW).2; omega
    · have := ok.2 ⟨bN, b⟩; omega
    · obtain ⟨h1, h2⟩ := note_read note s W hn hW st06
      rw [h1, h2] at rb
      exact parseB_same pb rb

/-- how long a policy's lists are at the most -/
def LenOk (st : PSt) : Prop := st.L.length ≤ 64 ∧ st.I.length ≤ 32 ∧ st.O.length ≤ 32
theorem ite_len {c : Prop} [Decidable c] {a b : PSt × Int} (h1 : LenOk a.1) (h2 : ¬ c → LenOk b.1) : LenOk (if c then a else b).1 := by
  split
  · exact h1
  · exact h2 ‹_›
theorem doP_len (st : PSt) (ws : List ByteArray) (h : LenOk st) : LenOk (doP st ws).1 := by
  obtain ⟨hL, hI, hO⟩ := h
  have h : LenOk st := ⟨hL, hI, hO⟩
  unfold doP
  refine ite_len h fun _ => ite_len h fun _ => ?_
  split
  · unfold levelP
    exact ite_len h fun _ => ite_len h fun _ => ite_len h fun _ => ite_len h fun n => ⟨by simp; omega, hI, hO⟩
  · split
    · unfold flowP
      exact ite_len h fun _ => ite_len h fun _ => ite_len h fun _ => ⟨hL, hI, hO⟩
    · split
      · unfold chanIP
        exact ite_len h fun _ => ite_len h fun _ => ite_len h fun _ => ite_len h fun _ => ite_len h fun n => ⟨hL, by simp; omega, hO⟩
      · split
        · unfold chanOP
          exact ite_len h fun _ => ite_len h fun _ => ite_len h fun _ => ite_len h fun _ => ite_len h fun n => ⟨hL, hI, by simp; omega⟩
        · split
          · unfold depthP
            refine ite_len h fun _ => ?_
            split
            · exact h
            · exact ite_len h fun _ => ite_len h fun _ => ⟨hL, hI, hO⟩
          · exact h
theorem readP_len : ∀ (ls : List ByteArray) (a : Int) (st : PSt), LenOk st → LenOk (readP ls a st).1
  | [], _, st, h => h
  | l :: ls, a, st, h => by
    unfold readP
    split
    · exact doP_len st _ h
    · exact readP_len ls _ _ (doP_len st _ h)
theorem st06_len : LenOk st06 := ⟨by decide, by decide, by decide⟩
theorem parse_len {s : ByteArray} {st : PSt} {S : List Int} {a e : Int} (h : ParseE s st S a e) : LenOk st ∧ S.length ≤ 64 := by
  unfold ParseE at h
  by_cases hs : 65536 < s.size
  · rw [if_pos hs] at h
    rw [h.1, h.2.1]; exact ⟨st06_len, by decide⟩
  rw [if_neg hs] at h
  by_cases hb : 0 ≤ badI s
  · rw [if_pos hb] at h
    rw [h.1, h.2.1]; exact ⟨st06_len, by decide⟩
  rw [if_neg hb] at h
  by_cases hc : (readP (linesB s) 0 st06).2.2 ≠ 0
  · rw [if_pos hc] at h
    rw [h.1, h.2.1]; exact ⟨st06_len, by decide⟩
  rw [if_neg hc] at h
  have hl := readP_len (linesB s) 0 st06 st06_len
  obtain ⟨k, hf, ⟨h1, h2, _⟩ | ⟨_, h2, h3, _⟩⟩ := h
  · rw [h2]
    refine ⟨hl, ?_⟩
    rcases hf with ⟨_, h4⟩ | ⟨_, T, hT, ⟨_, rfl, _⟩ | ⟨_, h4⟩⟩
    · omega
    · rw [hT.1]; exact hl.1
    · omega
  · rw [h2, h3]; exact ⟨st06_len, by decide⟩
end Go.Proofs.YtdkpnbjkehakjaaGreatDoor
