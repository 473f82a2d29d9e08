import Derived.Test.YtdkpnbjkehakjaaGreatDoorPolX
import Derived.Test.YtdkpnbjkehakjaaGreatDoorJoin
set_option linter.unusedSimpArgs false
set_option linter.unusedVariables false
/-! plain: a policy's text byte by byte: its lines and words; what blanks and lines that say nothing leave -/
namespace Go.Proofs.YtdkpnbjkehakjaaGreatDoor
open Go.RowKit

def blank8 (c : UInt8) : Bool := c == 32 || c == 9
abbrev FSt := List (List UInt8) × List UInt8
/-- one byte more of a line -/
def stepF (a : FSt) (c : UInt8) : FSt := if blank8 c then (if a.2 = [] then a else (a.1 ++ [a.2], [])) else (a.1, a.2 ++ [c])
def finF (a : FSt) : List (List UInt8) := if a.2 = [] then a.1 else a.1 ++ [a.2]
def init0 : FSt := ([], [])

theorem step_word (l : List UInt8) : ∀ a : FSt, (∀ c ∈ l, blank8 c = false) → l.foldl stepF a = (a.1, a.2 ++ l) := by
  induction l with
  | nil => intro a _; simp
  | cons c r ih =>
    intro a h
    have hc := h c (List.mem_cons_self ..)
    rw [List.foldl_cons, ih _ (fun d hd => h d (List.mem_cons_of_mem _ hd))]
    simp [stepF, hc]
/-- what a decoded form is: one blank byte, or bytes none of which is blank -/
theorem form_blank (s : ByteArray) (pos : Nat) (h : pos < s.size) :
    (blankP (rn s pos) = true → wd s pos = 1 ∧ blank8 (s.get! pos) = true) ∧
    (blankP (rn s pos) = false → ∀ j, j < wd s pos → blank8 (s.get! (pos + j)) = false) := by
  have key : ∀ c : UInt8, blank8 c = true ↔ c.toNat = 32 ∨ c.toNat = 9 := by
    intro c
    unfold blank8
    rw [Bool.or_eq_true, beq_iff_eq, beq_iff_eq, ← UInt8.toNat_inj, ← UInt8.toNat_inj]
    rfl
  have keyf : ∀ c : UInt8, blank8 c = false ↔ ¬ (c.toNat = 32 ∨ c.toNat = 9) := by
    intro c; rw [← key c]; cases blank8 c <;> simp
  have kb : ∀ n, blankP n = true ↔ n = 32 ∨ n = 9 := by intro n; unfold blankP; rw [Bool.or_eq_true, beq_iff_eq, beq_iff_eq]
  have kbf : ∀ n, blankP n = false ↔ ¬ (n = 32 ∨ n = 9) := by intro n; rw [← kb n]; cases blankP n <;> simp
  rw [kb, kbf, key]
  unfold rn wd
  rw [Lib.decode_at]
  have e0 : ∀ j, j = 0 ∨ j = 1 ∨ j = 2 ∨ j = 3 ∨ 4 ≤ j := by intro j; omega
  unfold Lib.decodeN
  by_cases h0 : (s.get! pos).toNat < 128
  · rw [if_pos h0]
    refine ⟨fun h => ⟨rfl, h⟩, fun h j hj => ?_⟩
    obtain rfl : j = 0 := by simp at hj; omega
    rw [keyf]; exact h
  rw [if_neg h0]
  split
  · rename_i h1
    split
    · refine ⟨fun h => by simp at h; omega, fun _ j hj => ?_⟩
      rw [keyf]
      simp at hj
      rcases (show j = 0 ∨ j = 1 by omega) with rfl | rfl
      · rw [Nat.add_zero]; omega
      · omega
    · refine ⟨fun h => by simp at h, fun _ j hj => ?_⟩
      obtain rfl : j = 0 := by simp at hj; omega
      rw [keyf, Nat.add_zero]; omega
  · split
    · rename_i h1
      split
      · refine ⟨fun h => by simp at h; omega, fun _ j hj => ?_⟩
        rw [keyf]
        simp at hj
        rcases (show j = 0 ∨ j = 1 ∨ j = 2 by omega) with rfl | rfl | rfl
        · rw [Nat.add_zero]; omega
        · omega
        · omega
      · refine ⟨fun h => by simp at h, fun _ j hj => ?_⟩
        obtain rfl : j = 0 := by simp at hj; omega
        rw [keyf, Nat.add_zero]; omega
    · split
      · rename_i h1
        split
        · refine ⟨fun h => by simp at h; omega, fun _ j hj => ?_⟩
          rw [keyf]
          simp at hj
          rcases (show j = 0 ∨ j = 1 ∨ j = 2 ∨ j = 3 by omega) with rfl | rfl | rfl | rfl
          · rw [Nat.add_zero]; omega
          · omega
          · omega
          · omega
        · refine ⟨fun h => by simp at h, fun _ j hj => ?_⟩
          obtain rfl : j = 0 := by simp at hj; omega
          rw [keyf, Nat.add_zero]; omega
      · refine ⟨fun h => by simp at h, fun _ j hj => ?_⟩
        obtain rfl : j = 0 := by simp at hj; omega
        rw [keyf, Nat.add_zero]; omega
theorem get_list (s : ByteArray) (i : Nat) (h : i < s.size) : s.data.toList[i]? = some (s.get! i) := by
  have h' : i < s.data.size := h
  rw [Array.getElem?_toList, Array.getElem?_eq_getElem h']
  simp only [ByteArray.get!, getElem!_def, Array.getElem?_eq_getElem h']
theorem take_form {s : ByteArray} {pos w : Nat} {c : UInt8} (h : c ∈ (s.data.toList.drop pos).take w) : ∃ j, j < w ∧ c = s.get! (pos + j) := by
  obtain ⟨j, hj, e⟩ := List.getElem_of_mem h
  rw [List.length_take, List.length_drop] at hj
  have hs : s.data.toList.length = s.size := by simp
  refine ⟨j, by omega, ?_⟩
  have h2 := get_list s (pos + j) (by omega)
  rw [List.getElem_take, List.getElem_drop] at e
  rw [List.getElem?_eq_getElem (by omega)] at h2
  rw [← e]
  exact Option.some.inj h2
theorem wd_le (s : ByteArray) (pos : Nat) (h : pos < s.size) : pos + wd s pos ≤ s.size := wd_in s pos h
def pieceP (s : ByteArray) (x : Nat × Nat) : List UInt8 := Lib.pieceU s.data.toList x.1 x.2
theorem spans_list (s : ByteArray) : ∀ (f pos : Nat) (st : Option Nat) (acc : List (Nat × Nat)), s.size ≤ pos + f → pos ≤ s.size → (∀ a, st = some a → a < pos) →
    (Lib.closeSpans s (Lib.spansFromP blankP s f pos st acc)).map (pieceP s) = finF ((s.data.toList.drop pos).foldl stepF (acc.map (pieceP s), Lib.openPiece s.data.toList st pos))
  | 0, pos, st, acc, h, hp, hst => by
    obtain rfl : pos = s.size := by omega
    have hd : s.data.toList.drop s.size = [] := List.drop_eq_nil_of_le (by simp)
    rw [hd]
    cases st with
    | none => simp [Lib.spansFromP, Lib.closeSpans, Lib.openPiece, finF]
    | some a =>
      have := Lib.pieceU_ne s.data.toList a s.size (hst a rfl) (by simp)
      simp [Lib.spansFromP, Lib.closeSpans, Lib.openPiece, finF, this, pieceP]
  | f + 1, pos, st, acc, h, hp, hst => by
    by_cases hlt : pos < s.size
    · have hw := wd_pos s pos
      have hwn := wd_le s pos hlt
      obtain ⟨hb1, hb2⟩ := form_blank s pos hlt
      have hcut : s.data.toList.drop pos = (s.data.toList.drop pos).take (wd s pos) ++ s.data.toList.drop (pos + wd s pos) := by
        rw [← List.drop_drop, List.take_append_drop]
      rw [hcut, List.foldl_append]
      unfold Lib.spansFromP
      rw [if_pos hlt]
      show (Lib.closeSpans s (if blankP (rn s pos) = true then _ else _)).map (pieceP s) = _
      cases hbl : blankP (rn s pos) with
      | true =>
        obtain ⟨hw1, hc⟩ := hb1 hbl
        have ht : (s.data.toList.drop pos).take (wd s pos) = [s.get! pos] := by
          rw [hw1]
          have h2 := get_list s pos hlt
          have hl : pos < s.data.toList.length := by simpa using hlt
          rw [List.getElem?_eq_getElem hl] at h2
          rw [List.drop_eq_getElem_cons hl, List.take_succ_cons, List.take_zero, Option.some.inj h2]
        rw [ht]
        simp only [if_true, List.foldl_cons, List.foldl_nil]
        cases st with
        | none =>
          have ih := spans_list s f (pos + wd s pos) none acc (by omega) hwn (fun a h => by cases h)
          rw [show (pos + (Utf8.decode s pos).2) = pos + wd s pos from rfl]
          simp only [Lib.openPiece] at ih ⊢
          rw [ih]
          simp [stepF, hc]
        | some a =>
          have hpn := Lib.pieceU_ne s.data.toList a pos (hst a rfl) (by simp; omega)
          have ih := spans_list s f (pos + wd s pos) none (acc ++ [(a, pos)]) (by omega) hwn (fun a h => by cases h)
          rw [show (pos + (Utf8.decode s pos).2) = pos + wd s pos from rfl]
          simp only [Lib.openPiece] at ih ⊢
          rw [ih]
          simp [stepF, hc, hpn, pieceP]
      | false =>
        have hall : ∀ c ∈ (s.data.toList.drop pos).take (wd s pos), blank8 c = false := by
          intro c hc
          obtain ⟨j, hj, rfl⟩ := take_form hc
          exact hb2 hbl j hj
        rw [step_word _ _ hall]
        simp only [Bool.false_eq_true, if_false]
        cases st with
        | none =>
          have ih := spans_list s f (pos + wd s pos) (some pos) acc (by omega) hwn (fun a h => by cases h; omega)
          rw [show (pos + (Utf8.decode s pos).2) = pos + wd s pos from rfl]
          have e : ([] : List UInt8) ++ (s.data.toList.drop pos).take (wd s pos) = Lib.pieceU s.data.toList pos (pos + wd s pos) := by
            unfold Lib.pieceU
            rw [List.nil_append, Nat.add_sub_cancel_left]
          simp only [Lib.openPiece] at ih ⊢
          rw [e]
          exact ih
        | some a =>
          have ih := spans_list s f (pos + wd s pos) (some a) acc (by omega) hwn (fun b h => by cases h; have := hst a rfl; omega)
          rw [show (pos + (Utf8.decode s pos).2) = pos + wd s pos from rfl]
          simp only [Lib.openPiece] at ih ⊢
          rw [Lib.pieceU_grow _ _ _ _ (Nat.le_of_lt (hst a rfl))]
          exact ih
    · obtain rfl : pos = s.size := by omega
      have hd : s.data.toList.drop s.size = [] := List.drop_eq_nil_of_le (by simp)
      rw [Lib.spansFromP_end _ _ _ _ _ _ hlt, hd]
      cases st with
      | none => simp [Lib.closeSpans, Lib.openPiece, finF]
      | some a =>
        have := Lib.pieceU_ne s.data.toList a s.size (hst a rfl) (by simp)
        simp [Lib.closeSpans, Lib.openPiece, finF, this, pieceP]
theorem extract_list (s : ByteArray) (a b : Nat) : (s.extract a b).data.toList = Lib.pieceU s.data.toList a b := by
  unfold Lib.pieceU
  rw [ByteArray.data_extract, Array.toList_extract, List.extract_eq_take_drop]
/-- a line's words, byte by byte -/
theorem words_list (l : ByteArray) : (wordsB l).map (fun w => w.data.toList) = finF (l.data.toList.foldl stepF init0) := by
  have h := spans_list l l.size 0 none [] (by omega) (Nat.zero_le _) (fun a h => by cases h)
  rw [List.drop_zero] at h
  unfold wordsB Lib.goFieldsP Lib.spansOfP
  rw [List.map_map]
  refine Eq.trans ?_ h
  refine List.map_congr_left fun x _ => ?_
  exact extract_list l x.1 x.2

/-- lines of bytes -/
def linesL : List UInt8 → List UInt8 → List (List UInt8)
  | cur, [] => [cur]
  | cur, c :: r => if c = 10 then cur :: linesL [] r else linesL (cur ++ [c]) r
theorem linesL_one (x : List UInt8) : ∀ cur, (∀ c ∈ x, c ≠ 10) → linesL cur x = [cur ++ x] := by
  induction x with
  | nil => intro cur _; simp [linesL]
  | cons c r ih =>
    intro cur h
    rw [linesL, if_neg (h c (List.mem_cons_self ..)), ih _ (fun d hd => h d (List.mem_cons_of_mem _ hd))]
    simp
theorem linesL_cut (x y : List UInt8) : ∀ cur, (∀ c ∈ x, c ≠ 10) → linesL cur (x ++ 10 :: y) = (cur ++ x) :: linesL [] y := by
  induction x with
  | nil => intro cur _; simp [linesL]
  | cons c r ih =>
    intro cur h
    rw [List.cons_append, linesL, if_neg (h c (List.mem_cons_self ..)), ih _ (fun d hd => h d (List.mem_cons_of_mem _ hd))]
    simp
theorem pre10 (b : UInt8) (l : List UInt8) : ([10] : List UInt8).isPrefixOf (b :: l) = (10 == b) := by simp [List.isPrefixOf]
theorem index_no (l : List UInt8) (h : ∀ c ∈ l, c ≠ 10) : Lib.index l [10] = -1 := by
  induction l with
  | nil => rfl
  | cons b l ih =>
    have hb : ((10 : UInt8) == b) = false := by rw [beq_eq_false_iff_ne]; exact fun e => h b (List.mem_cons_self ..) e.symm
    unfold Lib.index
    rw [pre10, hb, ih (fun d hd => h d (List.mem_cons_of_mem _ hd))]
    rfl
theorem index_cut (x y : List UInt8) (h : ∀ c ∈ x, c ≠ 10) : Lib.index (x ++ 10 :: y) [10] = (x.length : Int) := by
  induction x with
  | nil => rw [List.nil_append]; unfold Lib.index; rw [pre10]; rfl
  | cons b l ih =>
    have hb : ((10 : UInt8) == b) = false := by rw [beq_eq_false_iff_ne]; exact fun e => h b (List.mem_cons_self ..) e.symm
    rw [List.cons_append]
    unfold Lib.index
    rw [pre10, hb, ih (fun d hd => h d (List.mem_cons_of_mem _ hd))]
    have e : ((l.length : Int) == -1) = false := by rw [beq_eq_false_iff_ne]; omega
    rw [e]
    simp
theorem cut10 (l : List UInt8) : (∀ c ∈ l, c ≠ 10) ∨ ∃ x y, l = x ++ 10 :: y ∧ ∀ c ∈ x, c ≠ 10 := by
  induction l with
  | nil => exact .inl (fun c h => by simp at h)
  | cons b l ih =>
    by_cases hb : b = 10
    · exact .inr ⟨[], l, by rw [hb]; rfl, fun c h => by simp at h⟩
    · rcases ih with h | ⟨x, y, rfl, h⟩
      · exact .inl (fun c hc => by
          rcases List.mem_cons.1 hc with rfl | hc
          · exact hb
          · exact h c hc)
      · exact .inr ⟨b :: x, y, rfl, fun c hc => by
          rcases List.mem_cons.1 hc with rfl | hc
          · exact hb
          · exact h c hc⟩
theorem splitK_lines : ∀ (k : Nat) (l : List UInt8), l.count 10 = k → Lib.splitK [10] 0 k l = linesL [] l
  | 0, l, h => by
    have hn : ∀ c ∈ l, c ≠ 10 := by
      intro c hc e; subst e
      exact absurd (List.count_pos_iff.2 hc) (by omega)
    rw [linesL_one l [] hn]; rfl
  | k + 1, l, h => by
    rcases cut10 l with hn | ⟨x, y, rfl, hx⟩
    · have : l.count 10 = 0 := List.count_eq_zero.2 (fun hc => hn 10 hc rfl)
      omega
    · have hi := index_cut x y hx
      have hcx : x.count 10 = 0 := List.count_eq_zero.2 (fun hc => hx 10 hc rfl)
      rw [List.count_append, hcx, List.count_cons_self] at h
      have e : ((x.length : Int) == -1) = false := by rw [beq_eq_false_iff_ne]; omega
      unfold Lib.splitK
      rw [hi, e, linesL_cut x y [] hx]
      have e2 : (x ++ 10 :: y).drop (x.length + 1) = y := by
        rw [← List.drop_drop]; simp
      simp only [Bool.false_eq_true, if_false, Int.toNat_natCast, Nat.add_zero, List.nil_append, List.length_singleton]
      rw [show (x ++ 10 :: y).take x.length = x by simp, e2, splitK_lines k y (by omega)]
theorem linesB_list (s : ByteArray) : (linesB s).map (fun l => l.data.toList) = linesL [] s.data.toList := by
  unfold linesB
  rw [Lib.splitB_data]
  refine splitK_lines _ _ ?_
  rw [← Lib.count_one]
/-- the words of all lines -/
def flds : FSt → List UInt8 → List (List (List UInt8))
  | a, [] => [finF a]
  | a, c :: r => if c = 10 then finF a :: flds init0 r else flds (stepF a c) r
theorem flds_lines (l : List UInt8) : ∀ cur, flds (cur.foldl stepF init0) l = (linesL cur l).map fun x => finF (x.foldl stepF init0) := by
  induction l with
  | nil => intro cur; rfl
  | cons c r ih =>
    intro cur
    unfold flds linesL
    by_cases h : c = 10
    · rw [if_pos h, if_pos h, List.map_cons, ← ih []]; rfl
    · rw [if_neg h, if_neg h, ← ih (cur ++ [c]), List.foldl_append]; rfl
theorem text_words (s : ByteArray) : (linesB s).map (fun l => (wordsB l).map fun w => w.data.toList) = flds init0 s.data.toList := by
  have h := flds_lines s.data.toList []
  rw [List.foldl_nil, ← linesB_list, List.map_map] at h
  rw [h]
  exact List.map_congr_left fun l _ => words_list l

/-- a text with blanks more: behind each byte 10 two of them, behind each blank one -/
def wide1 (c : UInt8) : List UInt8 := if c = 10 then [10, 32, 32] else if c = 32 then [32, 9] else [c]
def wideL (l : List UInt8) : List UInt8 := l.flatMap wide1
theorem blank32 : blank8 32 = true := by decide
theorem blank9 : blank8 9 = true := by decide
theorem step_b (a : FSt) (c : UInt8) (hc : blank8 c = true) : stepF a c = if a.2 = [] then a else (a.1 ++ [a.2], []) := by
  unfold stepF; rw [if_pos hc]
theorem step_blank (a : FSt) (c d : UInt8) (hc : blank8 c = true) (hd : blank8 d = true) : stepF (stepF a c) d = stepF a c := by
  rw [step_b _ d hd, step_b _ c hc]
  by_cases h : a.2 = []
  · rw [if_pos h, if_pos h]
  · rw [if_neg h, if_pos rfl]
theorem step_init (c : UInt8) (hc : blank8 c = true) : stepF init0 c = init0 := by
  rw [step_b _ c hc]; rfl
theorem flds_wide (l : List UInt8) : ∀ a, flds a (wideL l) = flds a l := by
  induction l with
  | nil => intro a; rfl
  | cons c r ih =>
    intro a
    have e : wideL (c :: r) = wide1 c ++ wideL r := by simp [wideL]
    rw [e]
    unfold wide1
    by_cases h : c = 10
    · subst h
      rw [if_pos rfl]
      show flds a (10 :: 32 :: 32 :: wideL r) = _
      have e2 : flds init0 (32 :: 32 :: wideL r) = flds init0 (wideL r) := by
        rw [flds, if_neg (by decide), step_init _ blank32, flds, if_neg (by decide), step_init _ blank32]
      rw [flds, if_pos rfl, e2, ih, flds, if_pos rfl]
    · rw [if_neg h]
      by_cases h2 : c = 32
      · subst h2
        rw [if_pos rfl]
        show flds a (32 :: 9 :: wideL r) = _
        rw [flds, if_neg (by decide), flds, if_neg (by decide), step_blank _ _ _ blank32 blank9, ih]
        conv => rhs; rw [flds, if_neg (by decide)]
      · rw [if_neg h2]
        show flds a (c :: wideL r) = _
        rw [flds, if_neg h, ih]
        conv => rhs; rw [flds, if_neg h]
/-- the whole text: a line that says nothing, a blank line, and the text with blanks more -/
def noteL (note s : List UInt8) : List UInt8 := 35 :: 32 :: note ++ 10 :: 9 :: 10 :: wideL s
theorem flds_cut (x y : List UInt8) : ∀ a, (∀ c ∈ x, c ≠ 10) → flds a (x ++ 10 :: y) = finF (x.foldl stepF a) :: flds init0 y := by
  induction x with
  | nil => intro a _; rw [List.nil_append, flds, if_pos rfl]; rfl
  | cons c r ih =>
    intro a h
    rw [List.cons_append, flds, if_neg (h c (List.mem_cons_self ..)), ih _ (fun d hd => h d (List.mem_cons_of_mem _ hd))]
    rfl
/-- words ahead stay -/
theorem fold_ahead (l : List UInt8) : ∀ a : FSt, ∃ t b, l.foldl stepF a = (a.1 ++ t, b) ∨ (a.2 ≠ [] ∧ l.foldl stepF a = (a.1 ++ t, b)) := by
  induction l with
  | nil => intro a; exact ⟨[], a.2, .inl (by simp)⟩
  | cons c r ih =>
    intro a
    obtain ⟨t, b, h⟩ := ih (stepF a c)
    have h' : r.foldl stepF (stepF a c) = ((stepF a c).1 ++ t, b) := by
      rcases h with h | h
      · exact h
      · exact h.2
    refine ⟨?_, b, .inl ?_⟩
    · exact (if blank8 c then (if a.2 = [] then t else a.2 :: t) else t)
    · rw [List.foldl_cons, h']
      unfold stepF
      split
      · split <;> simp
      · simp
theorem note_words (note : List UInt8) : ∃ t, finF ((35 :: 32 :: note).foldl stepF init0) = [35] :: t := by
  have e : (35 :: 32 :: note).foldl stepF init0 = note.foldl stepF ([[35]], []) := by
    rw [List.foldl_cons, List.foldl_cons]; rfl
  rw [e]
  obtain ⟨t, b, h | h⟩ := fold_ahead note ([[35]], [])
  · rw [h]
    unfold finF
    split
    · exact ⟨t, by simp⟩
    · exact ⟨t ++ [b], by simp⟩
  · exact absurd rfl h.1
theorem flds_note (note s : List UInt8) (hn : ∀ c ∈ note, c ≠ 10) : ∃ t, flds init0 (noteL note s) = ([35] :: t) :: [] :: flds init0 s := by
  obtain ⟨t, ht⟩ := note_words note
  refine ⟨t, ?_⟩
  unfold noteL
  rw [flds_cut (35 :: 32 :: note) (9 :: 10 :: wideL s) init0 (fun c hc => by
    rcases List.mem_cons.1 hc with rfl | hc
    · decide
    · rcases List.mem_cons.1 hc with rfl | hc
      · decide
      · exact hn c hc), ht]
  congr 1
  rw [flds, if_neg (by decide), step_init _ blank9, flds, if_pos rfl, flds_wide]
  rfl
/-- lines by their words alone -/
def readW : List (List ByteArray) → PSt → PSt × Int
  | [], st => (st, 0)
  | w :: ws, st => if (doP st w).2 ≠ 0 then ((doP st w).1, (doP st w).2) else readW ws (doP st w).1
theorem readP_W : ∀ (ls : List ByteArray) (a : Int) (st : PSt), (readP ls a st).1 = (readW (ls.map wordsB) st).1 ∧ (readP ls a st).2.2 = (readW (ls.map wordsB) st).2
  | [], a, st => ⟨rfl, rfl⟩
  | l :: ls, a, st => by
    have ih := readP_W ls (a + (l.size + 1)) (doP st (wordsB l)).1
    unfold readP
    rw [List.map_cons, readW]
    split
    · exact ⟨rfl, rfl⟩
    · exact ih
theorem words_inj {a b : List (List ByteArray)} (h : a.map (fun w => w.map fun x => x.data.toList) = b.map (fun w => w.map fun x => x.data.toList)) : a = b := by
  have inj : ∀ x y : ByteArray, x.data.toList = y.data.toList → x = y := fun x y e => ByteArray.ext (Array.toList_inj.1 e)
  have inj1 : ∀ (x y : List ByteArray), (x.map fun z => z.data.toList) = (y.map fun z => z.data.toList) → x = y := by
    intro x
    induction x with
    | nil => intro y e; cases y with
      | nil => rfl
      | cons => simp at e
    | cons u x ih => intro y e; cases y with
      | nil => simp at e
      | cons v y =>
        simp only [List.map_cons, List.cons.injEq] at e
        rw [inj _ _ e.1, ih _ e.2]
  induction a generalizing b with
  | nil => cases b with
    | nil => rfl
    | cons => simp at h
  | cons u a ih => cases b with
    | nil => simp at h
    | cons v b =>
      simp only [List.map_cons, List.cons.injEq] at h
      rw [inj1 _ _ h.1, ih h.2]
theorem text_words' (s : ByteArray) : ((linesB s).map wordsB).map (fun w => w.map fun x => x.data.toList) = flds init0 s.data.toList := by
  rw [← text_words, List.map_map]; rfl
/-- what lines that say nothing, and blanks, change: nothing -/
theorem note_read (note s W : ByteArray) (hn : ∀ c ∈ note.data.toList, c ≠ 10) (hW : W.data.toList = noteL note.data.toList s.data.toList) (st : PSt) :
    (readP (linesB W) 0 st).1 = (readP (linesB s) 0 st).1 ∧ (readP (linesB W) 0 st).2.2 = (readP (linesB s) 0 st).2.2 := by
  obtain ⟨t, ht⟩ := flds_note note.data.toList s.data.toList hn
  have h1 := text_words' W
  have h2 := text_words' s
  rw [hW, ht, ← h2] at h1
  obtain ⟨w1, r1, e1⟩ : ∃ w1 r1, (linesB W).map wordsB = w1 :: r1 := by
    cases hh : (linesB W).map wordsB with
    | nil => rw [hh] at h1; simp at h1
    | cons u r => exact ⟨u, r, rfl⟩
  rw [e1, List.map_cons, List.cons.injEq] at h1
  obtain ⟨w2, r2, e2⟩ : ∃ w2 r2, r1 = w2 :: r2 := by
    cases hh : r1 with
    | nil => rw [hh] at h1; simp at h1
    | cons u r => exact ⟨u, r, rfl⟩
  rw [e2, List.map_cons, List.cons.injEq] at h1
  obtain ⟨p1, p2, p3⟩ := h1
  have hr : r2 = (linesB s).map wordsB := words_inj p3
  have hw2 : w2 = [] := by simpa using p2
  have d1 : doP st w1 = (st, 0) := by
    cases w1 with
    | nil => simp at p1
    | cons x xs =>
      simp only [List.map_cons, List.cons.injEq] at p1
      unfold doP
      rw [if_neg (by simp), if_pos (by show x.data.toList[0]? = some 35; rw [p1.1]; rfl)]
  have d2 : doP st w2 = (st, 0) := by rw [hw2]; rfl
  have a := readP_W (linesB W) 0 st
  have b := readP_W (linesB s) 0 st
  have c : readW ((linesB W).map wordsB) st = readW ((linesB s).map wordsB) st := by
    rw [e1, e2, readW, d1, if_neg (by simp), readW, d2, if_neg (by simp), hr]
  rw [a.1, a.2, b.1, b.2, c]
  exact ⟨rfl, rfl⟩

theorem badI_yes {s : ByteArray} (h : 0 ≤ badI s) : ∃ pre p t, allP s = pre ++ p :: t ∧ (∀ q ∈ pre, badB s q = false) ∧ badB s p = true := by
  unfold badI at h
  cases hf : (allP s).find? (badB s) with
  | none => rw [hf] at h; simp at h
  | some p =>
    obtain ⟨hp, pre, t, e, hpre⟩ := List.find?_eq_some_iff_append.1 hf
    exact ⟨pre, p, t, e, fun q hq => by simpa using hpre q hq, hp⟩
theorem badI_of {s : ByteArray} {p : Nat} (hm : p ∈ allP s) (hb : badB s p = true) : 0 ≤ badI s := by
  apply Classical.byContradiction
  intro h
  rw [badI_no s (by omega) p hm] at hb
  cases hb
theorem decode_bad (n m c b1 b2 b3 d1 d2 d3 : Nat) (h1 : 1 ≤ n) (h : n ≤ m) (e1 : 1 < n → d1 = b1) (e2 : 2 < n → d2 = b2) (e3 : 3 < n → d3 = b3)
    (x1 : n = 1 → n < m → d1 < 128) (x2 : n = 2 → n < m → d2 < 128) (x3 : n = 3 → n < m → d3 < 128) (hb : Lib.decodeN n c b1 b2 b3 = (65533, 1)) : Lib.decodeN m c d1 d2 d3 = (65533, 1) := by
  unfold Lib.decodeN at hb ⊢
  by_cases h0 : c < 128
  · rw [if_pos h0] at hb
    simp at hb; omega
  rw [if_neg h0] at hb ⊢
  by_cases g1 : c / 32 = 6 ∧ (1 < n ∧ b1 / 64 = 2)
  · obtain rfl := e1 g1.2.1
    rw [if_pos g1] at hb
    rw [if_pos ⟨g1.1, by omega, g1.2.2⟩]
    exact hb
  have g1' : ¬ (c / 32 = 6 ∧ (1 < m ∧ d1 / 64 = 2)) := by omega
  rw [if_neg g1] at hb
  rw [if_neg g1']
  by_cases g2 : c / 16 = 14 ∧ (1 < n ∧ b1 / 64 = 2) ∧ (2 < n ∧ b2 / 64 = 2)
  · obtain rfl := e1 g2.2.1.1
    obtain rfl := e2 g2.2.2.1
    rw [if_pos g2] at hb
    rw [if_pos ⟨g2.1, ⟨by omega, g2.2.1.2⟩, by omega, g2.2.2.2⟩]
    exact hb
  have g2' : ¬ (c / 16 = 14 ∧ (1 < m ∧ d1 / 64 = 2) ∧ (2 < m ∧ d2 / 64 = 2)) := by omega
  rw [if_neg g2] at hb
  rw [if_neg g2']
  by_cases g3 : c / 8 = 30 ∧ (1 < n ∧ b1 / 64 = 2) ∧ (2 < n ∧ b2 / 64 = 2) ∧ (3 < n ∧ b3 / 64 = 2)
  · obtain rfl := e1 g3.2.1.1
    obtain rfl := e2 g3.2.2.1.1
    obtain rfl := e3 g3.2.2.2.1
    rw [if_pos g3] at hb
    rw [if_pos ⟨g3.1, ⟨by omega, g3.2.1.2⟩, ⟨by omega, g3.2.2.1.2⟩, by omega, g3.2.2.2.2⟩]
    exact hb
  have g3' : ¬ (c / 8 = 30 ∧ (1 < m ∧ d1 / 64 = 2) ∧ (2 < m ∧ d2 / 64 = 2) ∧ (3 < m ∧ d3 / 64 = 2)) := by omega
  rw [if_neg g3']
theorem poss_pre (a b : ByteArray) : ∀ (pre : List Nat) (f g pos : Nat) (p : Nat) (t : List Nat), poss a f pos = pre ++ p :: t → (∀ q ∈ pre, badB a q = false) → (a ++ b).size ≤ pos + g → ∃ t', poss (a ++ b) g pos = pre ++ p :: t'
  | pre, 0, g, pos, p, t, e, _, _ => by simp [poss] at e
  | pre, f + 1, g, pos, p, t, e, hb, hg => by
    by_cases hlt : pos < a.size
    · have hlt' : pos < (a ++ b).size := by rw [ByteArray.size_append]; omega
      obtain ⟨g', rfl⟩ : ∃ g', g = g' + 1 := ⟨g - 1, by omega⟩
      simp only [poss, hlt, if_true] at e
      simp only [poss, hlt', if_true]
      cases pre with
      | nil =>
        simp only [List.nil_append, List.cons.injEq] at e ⊢
        exact ⟨_, e.1, rfl⟩
      | cons q pre =>
        simp only [List.cons_append, List.cons.injEq] at e ⊢
        have hq := hb q (List.mem_cons_self ..)
        rw [← e.1] at hq
        have hw : wd (a ++ b) pos = wd a pos := by unfold wd; rw [decode_l a b pos hlt hq]
        have hp := wd_pos a pos
        obtain ⟨t', ht⟩ := poss_pre a b pre f g' (pos + wd a pos) p t e.2 (fun x hx => hb x (List.mem_cons_of_mem _ hx)) (by omega)
        exact ⟨t', e.1, by rw [hw]; exact ht⟩
    · rw [poss_end a _ _ hlt] at e; simp at e
/-- bytes that are no text stay none, where what follows begins with a rune of one byte -/
theorem bad_more (a b : ByteArray) (h : 0 ≤ badI a) (hb : b.size = 0 ∨ (b.get! 0).toNat < 128) : 0 ≤ badI (a ++ b) := by
  obtain ⟨pre, p, t, e, hpre, hp⟩ := badI_yes h
  obtain ⟨t', ht⟩ := poss_pre a b pre a.size (a ++ b).size 0 p t e hpre (by omega)
  have hpa : p < a.size := poss_lt a _ _ p (by rw [show poss a a.size 0 = allP a from rfl, e]; simp)
  refine badI_of (p := p) (by unfold allP; rw [ht]; simp) ?_
  have hd : Utf8.decode a p = (65533, 1) := by
    unfold badB rn wd at hp
    simp at hp
    exact Prod.ext hp.1 hp.2
  have hd2 : Utf8.decode (a ++ b) p = (65533, 1) := by
    rw [Lib.decode_at] at hd ⊢
    rw [get_l a b p hpa, ByteArray.size_append]
    have hz : ∀ j, a.size - p = j → (a.size - p < a.size + b.size - p) → ((a ++ b).get! (p + j)).toNat < 128 := by
      intro j hj hlt
      rw [show p + j = a.size + 0 by omega, get_r]
      rcases hb with hb | hb
      · omega
      · exact hb
    exact decode_bad (a.size - p) (a.size + b.size - p) _ _ _ _ _ _ _ (by omega) (by omega) (fun h => by rw [get_l a b _ (by omega)]) (fun h => by rw [get_l a b _ (by omega)]) (fun h => by rw [get_l a b _ (by omega)])
      (fun e h => hz 1 e h) (fun e h => hz 2 e h) (fun e h => hz 3 e h) hd
  unfold badB rn wd
  rw [hd2]; rfl
theorem bad_behind (a b : ByteArray) (ha : badI a < 0) (hb : 0 ≤ badI b) : 0 ≤ badI (a ++ b) := by
  obtain ⟨pre, p, t, e, hpre, hp⟩ := badI_yes hb
  refine badI_of (p := a.size + p) ?_ (by rw [badB_r]; exact hp)
  rw [allP_join a b (badI_no a ha)]
  refine List.mem_append_right _ (List.mem_map.2 ⟨p, by rw [e]; simp, rfl⟩)

/-- bytes that are a text -/
def okL (l : List UInt8) : Prop := badI ⟨l.toArray⟩ < 0
theorem app_bytes (x y : List UInt8) : (⟨(x ++ y).toArray⟩ : ByteArray) = ⟨x.toArray⟩ ++ ⟨y.toArray⟩ := by
  apply ByteArray.ext
  rw [ByteArray.data_append]
  simp
theorem okL_ahead (x y : List UInt8) (hx : okL x) : okL (x ++ y) ↔ okL y := by
  unfold okL at hx ⊢
  rw [app_bytes]
  constructor
  · intro h
    apply Classical.byContradiction
    intro hn
    have := bad_behind _ _ hx (by omega : 0 ≤ badI ⟨y.toArray⟩)
    omega
  · intro h
    rw [join_bad _ _ hx h]; decide
theorem okL_app (x : List UInt8) (c : UInt8) (r : List UInt8) (hc : c.toNat < 128) : okL (x ++ c :: r) ↔ okL x ∧ okL (c :: r) := by
  constructor
  · intro h
    have hx : okL x := by
      apply Classical.byContradiction
      intro hn
      unfold okL at h hn
      rw [app_bytes] at h
      have := bad_more ⟨x.toArray⟩ ⟨(c :: r).toArray⟩ (by omega) (.inr (by simpa [ByteArray.get!] using hc))
      omega
    exact ⟨hx, (okL_ahead x _ hx).1 h⟩
  · intro h
    exact (okL_ahead x _ h.1).2 h.2
theorem okL_wide (l : List UInt8) : ∀ x, okL (x ++ wideL l) ↔ okL (x ++ l) := by
  induction l with
  | nil => intro x; exact Iff.rfl
  | cons c r ih =>
    intro x
    have e : wideL (c :: r) = wide1 c ++ wideL r := by simp [wideL]
    rw [e]
    unfold wide1
    have ih0 := ih []
    rw [List.nil_append, List.nil_append] at ih0
    by_cases h : c = 10
    · subst h
      rw [if_pos rfl]
      show okL (x ++ 10 :: 32 :: 32 :: wideL r) ↔ _
      rw [okL_app x 10 _ (by decide), okL_app x 10 _ (by decide)]
      rw [show (10 :: 32 :: 32 :: wideL r : List UInt8) = [10, 32, 32] ++ wideL r from rfl, show (10 :: r : List UInt8) = [10] ++ r from rfl,
        okL_ahead [10, 32, 32] _ (by unfold okL; decide +kernel), okL_ahead [10] _ (by unfold okL; decide +kernel), ih0]
    · rw [if_neg h]
      by_cases h2 : c = 32
      · subst h2
        rw [if_pos rfl]
        show okL (x ++ 32 :: 9 :: wideL r) ↔ _
        rw [okL_app x 32 _ (by decide), okL_app x 32 _ (by decide)]
        rw [show (32 :: 9 :: wideL r : List UInt8) = [32, 9] ++ wideL r from rfl, show (32 :: r : List UInt8) = [32] ++ r from rfl,
          okL_ahead [32, 9] _ (by unfold okL; decide +kernel), okL_ahead [32] _ (by unfold okL; decide +kernel), ih0]
      · rw [if_neg h2]
        have := ih (x ++ [c])
        simpa using this
theorem okL_note (note s : List UInt8) : okL (noteL note s) ↔ okL (35 :: 32 :: note) ∧ okL s := by
  unfold noteL
  have e := okL_wide s []
  rw [List.nil_append, List.nil_append] at e
  rw [show (35 :: 32 :: note ++ 10 :: 9 :: 10 :: wideL s : List UInt8) = (35 :: 32 :: note) ++ 10 :: 9 :: 10 :: wideL s from rfl, okL_app _ 10 _ (by decide),
    show (10 :: 9 :: 10 :: wideL s : List UInt8) = [10, 9, 10] ++ wideL s from rfl, okL_ahead [10, 9, 10] _ (by unfold okL; decide +kernel), e]
theorem okL_bytes (s : ByteArray) : okL s.data.toList ↔ badI s < 0 := by
  unfold okL
  rw [show (⟨s.data.toList.toArray⟩ : ByteArray) = s from ByteArray.ext (by simp)]
end Go.Proofs.YtdkpnbjkehakjaaGreatDoor
