import Derived.Test.YtdkpnbjkehakjaaGreatDoorPrnP
import Derived.Test.YtdkpnbjkehakjaaGreatDoorNoteQ
import Derived.Test.YtdkpnbjkehakjaaGreatDoorLatAll
set_option linter.unusedSimpArgs false
set_option linter.unusedVariables false
/-! plain: a policy's lines written, and their words read -/
namespace Go.Proofs.YtdkpnbjkehakjaaGreatDoor
open Go.RowKit

/-- a byte of a word: neither between words nor a line's end -/
def inner8 (c : UInt8) : Bool := !(c == 32 || c == 9 || c == 10)
theorem inner_blank {c : UInt8} (h : inner8 c = true) : blank8 c = false ∧ c ≠ 10 := by
  unfold inner8 at h
  unfold blank8
  simp at h ⊢
  exact ⟨⟨h.1.1, h.1.2⟩, h.2⟩
/-- words, a blank between each two, and a line's end -/
def lineL : List (List UInt8) → List UInt8
  | [] => [10]
  | [w] => w ++ [10]
  | w :: ws => w ++ 32 :: lineL ws
theorem flds_word (w : List UInt8) (hw : ∀ c ∈ w, inner8 c = true) : ∀ (a : FSt) (r : List UInt8), flds a (w ++ r) = flds (a.1, a.2 ++ w) r := by
  induction w with
  | nil => intro a r; simp
  | cons c w ih =>
    intro a r
    obtain ⟨h1, h2⟩ := inner_blank (hw c (List.mem_cons_self ..))
    rw [List.cons_append, flds, if_neg h2, ih (fun d hd => hw d (List.mem_cons_of_mem _ hd))]
    have e : stepF a c = (a.1, a.2 ++ [c]) := by unfold stepF; rw [h1]; rfl
    rw [e]
    simp
theorem flds_line (ws : List (List UInt8)) : ∀ (acc : List (List UInt8)) (r : List UInt8), ws ≠ [] → (∀ w ∈ ws, w ≠ [] ∧ ∀ c ∈ w, inner8 c = true) → flds (acc, []) (lineL ws ++ r) = (acc ++ ws) :: flds init0 r := by
  induction ws with
  | nil => intro acc r h; exact absurd rfl h
  | cons w ws ih =>
    intro acc r _ hw
    obtain ⟨hne, hc⟩ := hw w (List.mem_cons_self ..)
    cases ws with
    | nil =>
      show flds (acc, []) (w ++ [10] ++ r) = _
      rw [List.append_assoc, flds_word w hc]
      show flds (acc, [] ++ w) (10 :: r) = _
      rw [flds, if_pos rfl]
      simp [finF, hne]
    | cons v vs =>
      show flds (acc, []) (w ++ 32 :: lineL (v :: vs) ++ r) = _
      rw [List.append_assoc, flds_word w hc]
      show flds (acc, [] ++ w) (32 :: (lineL (v :: vs) ++ r)) = _
      rw [flds, if_neg (by decide), step_b _ 32 blank32]
      simp only [List.nil_append]
      rw [if_neg hne, ih (acc ++ [w]) r (by simp) (fun x hx => hw x (List.mem_cons_of_mem _ hx))]
      simp
/-- lines that are written are read as their words; an empty line stands behind the last one -/
theorem flds_lines_of (ls : List (List (List UInt8))) (h : ∀ ws ∈ ls, ws ≠ [] ∧ ∀ w ∈ ws, w ≠ [] ∧ ∀ c ∈ w, inner8 c = true) : flds init0 (ls.flatMap lineL) = ls ++ [[]] := by
  induction ls with
  | nil => rfl
  | cons ws ls ih =>
    obtain ⟨h1, h2⟩ := h ws (List.mem_cons_self ..)
    rw [List.flatMap_cons]
    have := flds_line ws [] (ls.flatMap lineL) h1 h2
    show flds ([], []) _ = _
    rw [this, ih (fun x hx => h x (List.mem_cons_of_mem _ hx))]
    rfl

theorem form_inner (s : ByteArray) (pos : Nat) (h : rn s pos ≠ 9 ∧ rn s pos ≠ 10 ∧ rn s pos ≠ 32) : ∀ j, j < wd s pos → inner8 (s.get! (pos + j)) = true := by
  have key : ∀ c : UInt8, c.toNat ≠ 9 → c.toNat ≠ 10 → c.toNat ≠ 32 → inner8 c = true := by
    intro c h1 h2 h3
    unfold inner8
    have e1 : (c == 32) = false := beq_eq_false_iff_ne.2 (fun e => h3 (by rw [e]; rfl))
    have e2 : (c == 9) = false := beq_eq_false_iff_ne.2 (fun e => h1 (by rw [e]; rfl))
    have e3 : (c == 10) = false := beq_eq_false_iff_ne.2 (fun e => h2 (by rw [e]; rfl))
    rw [e1, e2, e3]; rfl
  revert h
  unfold rn wd
  rw [Lib.decode_at]
  unfold Lib.decodeN
  intro h j hj
  by_cases h0 : (s.get! pos).toNat < 128
  · rw [if_pos h0] at h hj
    obtain rfl : j = 0 := by simp at hj; omega
    rw [Nat.add_zero]
    exact key _ h.1 h.2.1 h.2.2
  rw [if_neg h0] at h hj
  have hb0 : j = 0 → inner8 (s.get! (pos + j)) = true := by
    intro e; subst e
    rw [Nat.add_zero]
    exact key _ (by omega) (by omega) (by omega)
  split at hj
  · rename_i h1
    split at hj
    · simp at hj
      rcases (show j = 0 ∨ j = 1 by omega) with e | rfl
      · exact hb0 e
      · exact key _ (by omega) (by omega) (by omega)
    · exact hb0 (by simp at hj; omega)
  · split at hj
    · rename_i h1
      split at hj
      · simp at hj
        rcases (show j = 0 ∨ j = 1 ∨ j = 2 by omega) with e | rfl | rfl
        · exact hb0 e
        · exact key _ (by omega) (by omega) (by omega)
        · exact key _ (by omega) (by omega) (by omega)
      · exact hb0 (by simp at hj; omega)
    · split at hj
      · rename_i h1
        split at hj
        · simp at hj
          rcases (show j = 0 ∨ j = 1 ∨ j = 2 ∨ j = 3 by omega) with e | rfl | rfl | rfl
          · exact hb0 e
          · exact key _ (by omega) (by omega) (by omega)
          · exact key _ (by omega) (by omega) (by omega)
          · exact key _ (by omega) (by omega) (by omega)
        · exact hb0 (by simp at hj; omega)
      · exact hb0 (by simp at hj; omega)
theorem poss_cover (s : ByteArray) : ∀ f pos i, s.size ≤ pos + f → pos ≤ i → i < s.size → ∃ p, p ∈ poss s f pos ∧ p ≤ i ∧ i < p + wd s p
  | 0, pos, i, h1, h2, h3 => by omega
  | f + 1, pos, i, h1, h2, h3 => by
    have hw := wd_pos s pos
    have hlt : pos < s.size := by omega
    simp only [poss, hlt, if_true]
    by_cases hi : i < pos + wd s pos
    · exact ⟨pos, List.mem_cons_self .., h2, hi⟩
    · obtain ⟨p, hm, h4, h5⟩ := poss_cover s f (pos + wd s pos) i (by omega) (by omega) h3
      exact ⟨p, List.mem_cons_of_mem _ hm, h4, h5⟩
theorem ok_rune {s : ByteArray} {p : Nat} (h : okB s p = true) : rn s p ≠ 9 ∧ rn s p ≠ 10 ∧ rn s p ≠ 32 := by
  unfold okB at h
  refine ⟨fun e => ?_, fun e => ?_, fun e => ?_⟩ <;> rw [e] at h <;> revert h <;> cases (p != 0) <;> decide
/-- a name is a word, and a text -/
theorem name_inner {s : ByteArray} (h : nameB s = true) : s.data.toList ≠ [] ∧ (∀ c ∈ s.data.toList, inner8 c = true) ∧ badI s < 0 := by
  have hbad : badI s < 0 := by
    apply Classical.byContradiction
    intro hn
    rw [badI_some s (by omega)] at h
    cases h
  unfold nameB at h
  rw [Bool.and_eq_true, Bool.and_eq_true, decide_eq_true_eq, decide_eq_true_eq] at h
  obtain ⟨⟨h1, _⟩, h2⟩ := h
  refine ⟨fun e => ?_, fun c hc => ?_, hbad⟩
  · have hz : s.size = 0 := by
      have : s.data.toList.length = s.size := by simp
      rw [e] at this; simpa using this.symm
    have := allP_len s
    omega
  · obtain ⟨i, hi, e⟩ := List.getElem_of_mem hc
    have hi' : i < s.size := by simpa using hi
    obtain ⟨p, hm, h3, h4⟩ := poss_cover s s.size 0 i (by omega) (Nat.zero_le _) hi'
    have hok := List.all_eq_true.1 h2 p hm
    have := form_inner s p (ok_rune hok) (i - p) (by omega)
    rw [show p + (i - p) = i by omega] at this
    have hg := get_list s i hi'
    rw [List.getElem?_eq_getElem hi] at hg
    rw [← e, Option.some.inj hg]
    exact this
end Go.Proofs.YtdkpnbjkehakjaaGreatDoor

/-! plain: a policy's lines, read: that policy -/
namespace Go.Proofs.YtdkpnbjkehakjaaGreatDoor
open Go.RowKit

theorem idx_some (p : Nat → Bool) : ∀ f k j, k ≤ j → j < k + f → p j = true → 0 ≤ idxFrom p f k
  | 0, k, j, h1, h2, _ => by omega
  | f + 1, k, j, h1, h2, h3 => by
    unfold idxFrom
    by_cases hk : p k = true
    · rw [if_pos hk]; omega
    · rw [if_neg hk]
      have : k ≠ j := by intro e; subst e; exact hk h3
      exact idx_some p f (k + 1) j (by omega) (by omega) h3
theorem level_some {ss : List ByteArray} {s : ByteArray} {j : Nat} (hj : j < ss.length) (h : (wd6 ss j).toList = s.toList) : 0 ≤ levelI ss s := by
  unfold levelI
  refine idx_some _ _ _ j (Nat.zero_le _) (by omega) ?_
  unfold sameAt
  rw [beq_iff_eq]
  exact h
theorem names_at {ss : List ByteArray} : ∀ f k, namesFrom ss f k = true → ∀ j, k ≤ j → j < k + f → pnameB (wd6 ss j) = true ∧ levelI (ss.take j) (wd6 ss j) < 0
  | 0, k, _, j, h1, h2 => by omega
  | f + 1, k, h, j, h1, h2 => by
    unfold namesFrom at h
    by_cases hp : pnameB (wd6 ss k) = false
    · rw [if_pos hp] at h; cases h
    rw [if_neg hp] at h
    by_cases hl : 0 ≤ levelI (ss.take k) (wd6 ss k)
    · rw [if_pos hl] at h; cases h
    rw [if_neg hl] at h
    by_cases e : k = j
    · subst e; exact ⟨by simpa using hp, by omega⟩
    · exact names_at f (k + 1) h j (by omega) (by omega)
theorem names_all {ss : List ByteArray} (h : namesP ss = true) : ∀ j, j < ss.length → pnameB (wd6 ss j) = true ∧ levelI (ss.take j) (wd6 ss j) < 0 :=
  fun j hj => names_at _ _ h j (Nat.zero_le _) (by omega)
/-- each name is found where it stands -/
theorem level_self {ss : List ByteArray} (h : namesP ss = true) {a : Nat} (ha : a < ss.length) : levelI ss (wd6 ss a) = (a : Int) := by
  have h0 := level_some ha (s := wd6 ss a) rfl
  obtain ⟨k, hk⟩ : ∃ k : Nat, levelI ss (wd6 ss a) = (k : Int) := ⟨(levelI ss (wd6 ss a)).toNat, by omega⟩
  obtain ⟨hkl, he⟩ := level_hit hk
  rw [hk]
  have lt : ∀ x y, x < y → y < ss.length → (wd6 ss x).toList = (wd6 ss y).toList → False := by
    intro x y hxy hy e
    have hn := (names_all h y hy).2
    have := level_some (ss := ss.take y) (s := wd6 ss y) (j := x) (by rw [List.length_take]; omega) (by rw [take_wd hxy]; exact e)
    omega
  rcases Nat.lt_trichotomy k a with hlt | rfl | hgt
  · exact (lt k a hlt ha he).elim
  · rfl
  · exact (lt a k hgt hkl he.symm).elim
theorem chan_level (cs : List (ByteArray × Int)) (s : ByteArray) : chanI cs s = levelI (cs.map (·.1)) s := by
  unfold chanI levelI
  rw [List.length_map]
  congr 1
  funext k
  unfold namedAt sameAt
  rw [List.getElem?_map]
  cases cs[k]? <;> rfl
theorem readW_cons (w : List ByteArray) (ws : List (List ByteArray)) (st : PSt) : readW (w :: ws) st = if (doP st w).2 ≠ 0 then ((doP st w).1, (doP st w).2) else readW ws (doP st w).1 := rfl
theorem readW_app : ∀ (a b : List (List ByteArray)) (st : PSt), (readW a st).2 = 0 → readW (a ++ b) st = readW b (readW a st).1
  | [], b, st, _ => rfl
  | w :: a, b, st, h => by
    rw [readW_cons] at h
    rw [List.cons_append, readW_cons, readW_cons]
    by_cases hc : (doP st w).2 ≠ 0
    · rw [if_pos hc] at h; exact absurd h hc
    · rw [if_neg hc] at h
      rw [if_neg hc, if_neg hc]
      exact readW_app a b _ h
theorem readW_step {st st' : PSt} {w : List ByteArray} {ws : List (List ByteArray)} (h : doP st w = (st', 0)) : readW (w :: ws) st = readW ws st' := by
  rw [readW_cons, h, if_neg (by simp)]

theorem do_level (st : PSt) (x : ByteArray) : doP st [wLevel, x] = levelP st [wLevel, x] := by
  have e : wd6 [wLevel, x] 0 = wLevel := rfl
  unfold doP
  rw [e, if_neg (by simp), if_neg (by decide), if_pos rfl]
theorem do_flow (st : PSt) (x y : ByteArray) : doP st [wFlow, x, y] = flowP st [wFlow, x, y] := by
  have e : wd6 [wFlow, x, y] 0 = wFlow := rfl
  unfold doP
  rw [e, if_neg (by simp), if_neg (by decide), if_neg (show ¬ wFlow = wLevel by decide +kernel), if_pos rfl]
theorem do_input (st : PSt) (x y : ByteArray) : doP st [wInput, x, y] = chanIP st [wInput, x, y] := by
  have e : wd6 [wInput, x, y] 0 = wInput := rfl
  unfold doP
  rw [e, if_neg (by simp), if_neg (by decide), if_neg (show ¬ wInput = wLevel by decide +kernel), if_neg (show ¬ wInput = wFlow by decide +kernel), if_pos rfl]
theorem do_output (st : PSt) (x y : ByteArray) : doP st [wOutput, x, y] = chanOP st [wOutput, x, y] := by
  have e : wd6 [wOutput, x, y] 0 = wOutput := rfl
  unfold doP
  rw [e, if_neg (by simp), if_neg (by decide), if_neg (show ¬ wOutput = wLevel by decide +kernel), if_neg (show ¬ wOutput = wFlow by decide +kernel), if_neg (show ¬ wOutput = wInput by decide +kernel), if_pos rfl]
theorem do_depth (st : PSt) (x : ByteArray) : doP st [wDepth, x] = depthP st [wDepth, x] := by
  have e : wd6 [wDepth, x] 0 = wDepth := rfl
  unfold doP
  rw [e, if_neg (by simp), if_neg (by decide), if_neg (show ¬ wDepth = wLevel by decide +kernel), if_neg (show ¬ wDepth = wFlow by decide +kernel), if_neg (show ¬ wDepth = wInput by decide +kernel), if_neg (show ¬ wDepth = wOutput by decide +kernel), if_pos rfl]

/-- levels read, one by one -/
theorem read_levels (L : List ByteArray) (hn : namesP L = true) (h64 : L.length ≤ 64) (st : PSt) : ∀ n k, k + n = L.length → st.L = L.take k → readW ((L.drop k).map fun x => [wLevel, x]) st = ({ st with L := L }, 0)
  | 0, k, h, hs => by
    rw [List.drop_eq_nil_of_le (by omega)]
    have : st.L = L := by rw [hs, List.take_of_length_le (by omega)]
    show (st, (0 : Int)) = _
    rw [← this]
  | n + 1, k, h, hs => by
    have hk : k < L.length := by omega
    obtain ⟨hp, hl⟩ := names_all hn k hk
    rw [drop_wd hk, List.map_cons]
    have hd : doP st [wLevel, wd6 L k] = ({ st with L := L.take (k + 1) }, 0) := by
      rw [do_level]
      unfold levelP
      rw [if_neg (by simp), show wd6 [wLevel, wd6 L k] 1 = wd6 L k from rfl, if_neg (by rw [hp]; simp), hs, if_neg (by omega), if_neg (by rw [List.length_take]; omega)]
      have e : L.take (k + 1) = L.take k ++ [wd6 L k] := by
        rw [List.take_succ_eq_append_getElem hk]
        unfold wd6
        rw [List.getElem?_eq_getElem hk]; rfl
      rw [e]
    rw [readW_step hd, read_levels L hn h64 { st with L := L.take (k + 1) } n (k + 1) (by omega) rfl]
/-- flows -/
theorem read_flows (L : List ByteArray) (hn : namesP L = true) : ∀ (ps : List (Nat × Nat)) (st : PSt), st.L = L → (∀ p ∈ ps, p.1 < L.length ∧ p.2 < L.length) →
    readW (ps.map fun p => [wFlow, wd6 L p.1, wd6 L p.2]) st = ({ st with F := st.F ++ ps.map fun p => ((p.1 : Int), (p.2 : Int)) }, 0)
  | [], st, _, _ => by
    show (st, (0 : Int)) = _
    simp
  | p :: ps, st, hL, hp => by
    obtain ⟨h1, h2⟩ := hp p (List.mem_cons_self ..)
    have hd : doP st [wFlow, wd6 L p.1, wd6 L p.2] = ({ st with F := st.F ++ [((p.1 : Int), (p.2 : Int))] }, 0) := by
      rw [do_flow]
      unfold flowP
      rw [if_neg (by simp), show wd6 [wFlow, wd6 L p.1, wd6 L p.2] 1 = wd6 L p.1 from rfl, show wd6 [wFlow, wd6 L p.1, wd6 L p.2] 2 = wd6 L p.2 from rfl, hL, level_self hn h1, level_self hn h2, if_neg (by omega), if_neg (by omega)]
    rw [List.map_cons, readW_step hd, read_flows L hn ps { st with F := st.F ++ [((p.1 : Int), (p.2 : Int))] } hL (fun q hq => hp q (List.mem_cons_of_mem _ hq))]
    simp

def chAt (cs : List (ByteArray × Int)) (k : Nat) : ByteArray × Int := cs[k]?.getD (⟨#[]⟩, 0)
theorem drop_ch {cs : List (ByteArray × Int)} {k : Nat} (h : k < cs.length) : cs.drop k = chAt cs k :: cs.drop (k + 1) := by
  unfold chAt
  rw [List.drop_eq_getElem_cons h, List.getElem?_eq_getElem h]; rfl
theorem take_ch {cs : List (ByteArray × Int)} {k : Nat} (h : k < cs.length) : cs.take (k + 1) = cs.take k ++ [((chAt cs k).1, (chAt cs k).2)] := by
  rw [List.take_succ_eq_append_getElem h]
  unfold chAt
  rw [List.getElem?_eq_getElem h]; rfl
theorem ch_name {cs : List (ByteArray × Int)} {k : Nat} (h : k < cs.length) : wd6 (cs.map (·.1)) k = (chAt cs k).1 := by
  unfold wd6 chAt
  rw [List.getElem?_map, List.getElem?_eq_getElem h]; rfl
theorem ch_lev {n : Int} {cs : List (ByteArray × Int)} (h : levsP n cs = true) {k : Nat} (hk : k < cs.length) : 0 ≤ (chAt cs k).2 ∧ (chAt cs k).2 < n := by
  unfold levsP at h
  have := List.all_eq_true.1 h (chAt cs k) (by unfold chAt; rw [List.getElem?_eq_getElem hk]; exact List.getElem_mem hk)
  simpa using this
theorem chans_split {n : Int} {cs : List (ByteArray × Int)} (h : chansP n cs = true) : cs.length ≤ 32 ∧ levsP n cs = true ∧ namesP (cs.map (·.1)) = true := by
  unfold chansP at h
  rw [Bool.and_eq_true, Bool.and_eq_true, decide_eq_true_eq] at h
  exact ⟨h.1.1, h.1.2, h.2⟩
theorem read_I (L : List ByteArray) (hn : namesP L = true) (cs : List (ByteArray × Int)) (hc : chansP L.length cs = true) (st : PSt) (hL : st.L = L) : ∀ n k, k + n = cs.length → ∀ st' : PSt, st' = { st with I := cs.take k } →
    readW ((cs.drop k).map fun c => [wInput, c.1, wd6 L c.2.toNat]) st' = ({ st with I := cs }, 0)
  | 0, k, h, st', hs => by
    rw [List.drop_eq_nil_of_le (by omega)]
    show (st', (0 : Int)) = _
    rw [hs, List.take_of_length_le (by omega)]
  | n + 1, k, h, st', hs => by
    have hk : k < cs.length := by omega
    obtain ⟨h32, hl, hnn⟩ := chans_split hc
    obtain ⟨hp, hf⟩ := names_all hnn k (by rw [List.length_map]; exact hk)
    rw [ch_name hk] at hp hf
    obtain ⟨l0, l1⟩ := ch_lev hl hk
    have hself := level_self hn (a := (chAt cs k).2.toNat) (by omega)
    rw [Int.toNat_of_nonneg l0] at hself
    rw [drop_ch hk, List.map_cons]
    have hd : doP st' [wInput, (chAt cs k).1, wd6 L (chAt cs k).2.toNat] = ({ st with I := cs.take (k + 1) }, 0) := by
      rw [do_input, hs]
      unfold chanIP
      rw [if_neg (by simp), show wd6 [wInput, (chAt cs k).1, wd6 L (chAt cs k).2.toNat] 1 = (chAt cs k).1 from rfl, show wd6 [wInput, (chAt cs k).1, wd6 L (chAt cs k).2.toNat] 2 = wd6 L (chAt cs k).2.toNat from rfl,
        if_neg (by rw [hp]; simp)]
      show (if 0 ≤ chanI (cs.take k) (chAt cs k).1 then _ else if levelI st.L (wd6 L (chAt cs k).2.toNat) < 0 then _ else if (cs.take k).length = 32 then _ else _) = _
      rw [chan_level, List.map_take, if_neg (by omega), hL, hself, if_neg (by omega), if_neg (by rw [List.length_take]; omega), take_ch hk]
    rw [readW_step hd, read_I L hn cs hc st hL n (k + 1) (by omega) _ rfl]
theorem read_O (L : List ByteArray) (hn : namesP L = true) (cs : List (ByteArray × Int)) (hc : chansP L.length cs = true) (st : PSt) (hL : st.L = L) : ∀ n k, k + n = cs.length → ∀ st' : PSt, st' = { st with O := cs.take k } →
    readW ((cs.drop k).map fun c => [wOutput, c.1, wd6 L c.2.toNat]) st' = ({ st with O := cs }, 0)
  | 0, k, h, st', hs => by
    rw [List.drop_eq_nil_of_le (by omega)]
    show (st', (0 : Int)) = _
    rw [hs, List.take_of_length_le (by omega)]
  | n + 1, k, h, st', hs => by
    have hk : k < cs.length := by omega
    obtain ⟨h32, hl, hnn⟩ := chans_split hc
    obtain ⟨hp, hf⟩ := names_all hnn k (by rw [List.length_map]; exact hk)
    rw [ch_name hk] at hp hf
    obtain ⟨l0, l1⟩ := ch_lev hl hk
    have hself := level_self hn (a := (chAt cs k).2.toNat) (by omega)
    rw [Int.toNat_of_nonneg l0] at hself
    rw [drop_ch hk, List.map_cons]
    have hd : doP st' [wOutput, (chAt cs k).1, wd6 L (chAt cs k).2.toNat] = ({ st with O := cs.take (k + 1) }, 0) := by
      rw [do_output, hs]
      unfold chanOP
      rw [if_neg (by simp), show wd6 [wOutput, (chAt cs k).1, wd6 L (chAt cs k).2.toNat] 1 = (chAt cs k).1 from rfl, show wd6 [wOutput, (chAt cs k).1, wd6 L (chAt cs k).2.toNat] 2 = wd6 L (chAt cs k).2.toNat from rfl,
        if_neg (by rw [hp]; simp)]
      show (if 0 ≤ chanI (cs.take k) (chAt cs k).1 then _ else if levelI st.L (wd6 L (chAt cs k).2.toNat) < 0 then _ else if (cs.take k).length = 32 then _ else _) = _
      rw [chan_level, List.map_take, if_neg (by omega), hL, hself, if_neg (by omega), if_neg (by rw [List.length_take]; omega), take_ch hk]
    rw [readW_step hd, read_O L hn cs hc st hL n (k + 1) (by omega) _ rfl]

/-- a policy's lines: their words -/
def plinesP (st : PSt) (S : List Int) : List (List ByteArray) :=
  (st.L.map fun x => [wLevel, x]) ++ ((LL.coversL S).map fun p => [wFlow, wd6 st.L p.1, wd6 st.L p.2]) ++ (st.I.map fun c => [wInput, c.1, wd6 st.L c.2.toNat]) ++ (st.O.map fun c => [wOutput, c.1, wd6 st.L c.2.toNat]) ++ [[wDepth, num st.D]]
def castF (l : List (Nat × Nat)) : List (Int × Int) := l.map fun p => ((p.1 : Int), (p.2 : Int))
theorem rightP_parts {st : PSt} {S : List Int} (h : rightP st S = true) : (1 ≤ st.D ∧ st.D ≤ 64) ∧ S.length = st.L.length ∧ LL.rightB S = true ∧ namesP st.L = true ∧ chansP st.L.length st.I = true ∧ chansP st.L.length st.O = true := by
  unfold rightP at h
  simp only [Bool.and_eq_true, decide_eq_true_eq] at h
  obtain ⟨⟨⟨⟨⟨a, b⟩, c⟩, d⟩, e⟩, f⟩ := h
  exact ⟨a, b, c, d, e, f⟩
/-- a policy's lines, read: that policy, and its covers as flows -/
theorem read_plines (st : PSt) (S : List Int) (h : rightP st S = true) (h64 : st.L.length ≤ 64) (hcov : ∀ p ∈ LL.coversL S, p.1 < st.L.length ∧ p.2 < st.L.length) (tail : List (List ByteArray)) :
    readW (plinesP st S ++ tail) st06 = readW tail { st with F := castF (LL.coversL S) } := by
  obtain ⟨hD, hS, hr, hn, hI, hO⟩ := rightP_parts h
  unfold plinesP
  rw [List.append_assoc, List.append_assoc, List.append_assoc, List.append_assoc]
  have r1 := read_levels st.L hn h64 st06 st.L.length 0 (by omega) rfl
  rw [List.drop_zero] at r1
  rw [readW_app _ _ _ (by rw [r1]), r1]
  have r2 := read_flows st.L hn (LL.coversL S) { st06 with L := st.L } rfl hcov
  rw [readW_app _ _ _ (by rw [r2]), r2]
  have r3 := read_I st.L hn st.I hI { st06 with L := st.L, F := castF (LL.coversL S) } rfl st.I.length 0 (by omega) _ rfl
  rw [List.drop_zero] at r3
  have e3 : ({ ({ st06 with L := st.L } : PSt) with F := ({ st06 with L := st.L } : PSt).F ++ (LL.coversL S).map fun p => ((p.1 : Int), (p.2 : Int)) } : PSt) = { ({ st06 with L := st.L, F := castF (LL.coversL S) } : PSt) with I := st.I.take 0 } := rfl
  rw [e3, readW_app _ _ _ (by rw [r3]), r3]
  have r4 := read_O st.L hn st.O hO { st06 with L := st.L, F := castF (LL.coversL S), I := st.I } rfl st.O.length 0 (by omega) _ rfl
  rw [List.drop_zero] at r4
  have e4 : ({ ({ st06 with L := st.L, F := castF (LL.coversL S) } : PSt) with I := st.I } : PSt) = { ({ st06 with L := st.L, F := castF (LL.coversL S), I := st.I } : PSt) with O := st.O.take 0 } := rfl
  rw [e4, readW_app _ _ _ (by rw [r4]), r4]
  have hd : doP { ({ st06 with L := st.L, F := castF (LL.coversL S), I := st.I } : PSt) with O := st.O } [wDepth, num st.D] = ({ st with F := castF (LL.coversL S) }, 0) := by
    rw [do_depth]
    unfold depthP
    rw [if_neg (by simp), show wd6 [wDepth, num st.D] 1 = num st.D from rfl, numO_num (by omega) (by omega)]
    show (if st06.D ≠ 0 then _ else if st.D < 1 ∨ 64 < st.D then _ else _) = _
    rw [if_neg (by decide), if_neg (by omega)]
  rw [List.cons_append, List.nil_append, readW_step hd]
end Go.Proofs.YtdkpnbjkehakjaaGreatDoor

/-! plain: what Parse tells of a policy's lines -/
namespace Go.Proofs.YtdkpnbjkehakjaaGreatDoor
open Go.RowKit

theorem okL_one (c : UInt8) (hc : c.toNat < 128) : okL [c] := by
  unfold okL
  have hd : Utf8.decode (⟨#[c]⟩ : ByteArray) 0 = (c.toNat, 1) := by
    rw [Lib.decode_at]
    unfold Lib.decodeN
    rw [show ((⟨#[c]⟩ : ByteArray).get! 0) = c from rfl, if_pos hc]
  have : badI (⟨#[c]⟩ : ByteArray) = -1 := by
    refine badI_none _ [0] rfl ?_
    intro p hp
    simp at hp
    subst hp
    unfold badB rn wd
    rw [hd]
    simp
    omega
  show badI (⟨#[c]⟩ : ByteArray) < 0
  omega
theorem okL_nil : okL [] := by unfold okL; decide +kernel
theorem okL_ascii (l : List UInt8) (h : ∀ c ∈ l, c.toNat < 128) : okL l := by
  induction l with
  | nil => exact okL_nil
  | cons c r ih => exact (okL_ahead [c] r (okL_one c (h c (List.mem_cons_self ..)))).2 (ih (fun d hd => h d (List.mem_cons_of_mem _ hd)))
theorem okL_line (ws : List (List UInt8)) (r : List UInt8) (h : ∀ w ∈ ws, okL w) (hr : okL r) : okL (lineL ws ++ r) := by
  induction ws with
  | nil => exact (okL_ahead [10] r (okL_one 10 (by decide))).2 hr
  | cons w ws ih =>
    have hw := h w (List.mem_cons_self ..)
    cases ws with
    | nil =>
      show okL (w ++ [10] ++ r)
      rw [List.append_assoc]
      exact (okL_ahead w _ hw).2 ((okL_ahead [10] r (okL_one 10 (by decide))).2 hr)
    | cons v vs =>
      have h1 : okL (lineL (v :: vs) ++ r) := ih (fun x hx => h x (List.mem_cons_of_mem _ hx))
      have h2 := (okL_ahead [32] (lineL (v :: vs) ++ r) (okL_one 32 (by decide))).2 h1
      have h3 := (okL_ahead w ([32] ++ (lineL (v :: vs) ++ r)) hw).2 h2
      have e : lineL (w :: v :: vs) ++ r = w ++ ([32] ++ (lineL (v :: vs) ++ r)) := by
        rw [show lineL (w :: v :: vs) = w ++ 32 :: lineL (v :: vs) from rfl, List.append_assoc]
        rfl
      rw [e]
      exact h3
theorem okL_lines (ls : List (List (List UInt8))) (h : ∀ ws ∈ ls, ∀ w ∈ ws, okL w) : okL (ls.flatMap lineL) := by
  induction ls with
  | nil => exact okL_nil
  | cons ws ls ih =>
    rw [List.flatMap_cons]
    exact okL_line ws _ (h ws (List.mem_cons_self ..)) (ih (fun x hx => h x (List.mem_cons_of_mem _ hx)))
/-- a word that may be written: not empty, of a word's bytes, a text -/
def WordOk (w : ByteArray) : Prop := w.data.toList ≠ [] ∧ (∀ c ∈ w.data.toList, inner8 c = true) ∧ okL w.data.toList
theorem wordOk_name {w : ByteArray} (h : pnameB w = true) : WordOk w := by
  unfold pnameB at h
  rw [Bool.and_eq_true] at h
  obtain ⟨a, b, c⟩ := name_inner h.1
  exact ⟨a, b, (okL_bytes w).2 c⟩
theorem wordOk_ascii {w : ByteArray} (h0 : w.data.toList ≠ []) (h : ∀ c ∈ w.data.toList, 33 ≤ c.toNat ∧ c.toNat < 128) : WordOk w := by
  refine ⟨h0, fun c hc => ?_, okL_ascii _ (fun c hc => (h c hc).2)⟩
  have := h c hc
  unfold inner8
  have e1 : (c == 32) = false := beq_eq_false_iff_ne.2 (fun e => by rw [e] at this; simp at this)
  have e2 : (c == 9) = false := beq_eq_false_iff_ne.2 (fun e => by rw [e] at this; simp at this)
  have e3 : (c == 10) = false := beq_eq_false_iff_ne.2 (fun e => by rw [e] at this; simp at this)
  rw [e1, e2, e3]; rfl
theorem wordOk_num {n : Int} (h : 0 ≤ n) : WordOk (num n) := by
  obtain ⟨u, rfl⟩ : ∃ u : Nat, n = u := ⟨n.toNat, by omega⟩
  refine wordOk_ascii ?_ ?_
  · rw [num_list, Lib.itoa_nonneg]; exact dec_ne u
  · rw [num_list, Lib.itoa_nonneg]
    intro c hc
    have := dec_mem u c hc
    omega
theorem wordOk_level : WordOk wLevel := wordOk_ascii (by decide) (by decide)
theorem wordOk_flow : WordOk wFlow := wordOk_ascii (by decide) (by decide)
theorem wordOk_input : WordOk wInput := wordOk_ascii (by decide) (by decide)
theorem wordOk_output : WordOk wOutput := wordOk_ascii (by decide) (by decide)
theorem wordOk_depth : WordOk wDepth := wordOk_ascii (by decide) (by decide)
theorem plines_ok {st : PSt} {S : List Int} (h : rightP st S = true) (hcov : ∀ p ∈ LL.coversL S, p.1 < st.L.length ∧ p.2 < st.L.length) : ∀ ws ∈ plinesP st S, ws ≠ [] ∧ ∀ w ∈ ws, WordOk w := by
  obtain ⟨hD, hS, hr, hn, hI, hO⟩ := rightP_parts h
  have hL : ∀ a, a < st.L.length → WordOk (wd6 st.L a) := fun a ha => wordOk_name (names_all hn a ha).1
  have hch : ∀ (cs : List (ByteArray × Int)), chansP st.L.length cs = true → ∀ c ∈ cs, WordOk c.1 ∧ WordOk (wd6 st.L c.2.toNat) := by
    intro cs hc c hm
    obtain ⟨_, hl, hnn⟩ := chans_split hc
    obtain ⟨k, hk, e⟩ := List.getElem_of_mem hm
    have e2 : chAt cs k = c := by unfold chAt; rw [List.getElem?_eq_getElem hk]; exact e
    have hp := (names_all hnn k (by rw [List.length_map]; exact hk)).1
    rw [ch_name hk, e2] at hp
    have hlv := ch_lev hl hk
    rw [e2] at hlv
    exact ⟨wordOk_name hp, hL _ (by omega)⟩
  intro ws hws
  unfold plinesP at hws
  simp only [List.mem_append, List.mem_map, List.mem_singleton] at hws
  rcases hws with (((⟨x, hx, rfl⟩ | ⟨p, hp, rfl⟩) | ⟨c, hc, rfl⟩) | ⟨c, hc, rfl⟩) | rfl
  · refine ⟨by simp, fun w hw => ?_⟩
    simp at hw
    rcases hw with rfl | rfl
    · exact wordOk_level
    · obtain ⟨k, hk, e⟩ := List.getElem_of_mem hx
      have := hL k hk
      unfold wd6 at this
      rw [List.getElem?_eq_getElem hk] at this
      rw [← e]; exact this
  · refine ⟨by simp, fun w hw => ?_⟩
    simp at hw
    rcases hw with rfl | rfl | rfl
    · exact wordOk_flow
    · exact hL _ (hcov p hp).1
    · exact hL _ (hcov p hp).2
  · refine ⟨by simp, fun w hw => ?_⟩
    simp at hw
    rcases hw with rfl | rfl | rfl
    · exact wordOk_input
    · exact (hch st.I hI c hc).1
    · exact (hch st.I hI c hc).2
  · refine ⟨by simp, fun w hw => ?_⟩
    simp at hw
    rcases hw with rfl | rfl | rfl
    · exact wordOk_output
    · exact (hch st.O hO c hc).1
    · exact (hch st.O hO c hc).2
  · refine ⟨by simp, fun w hw => ?_⟩
    simp at hw
    rcases hw with rfl | rfl
    · exact wordOk_depth
    · exact wordOk_num (by omega)
/-- a policy's text -/
def printL (st : PSt) (S : List Int) : List UInt8 := ((plinesP st S).map fun ws => ws.map fun w => w.data.toList).flatMap lineL
theorem toPrs_cast (l : List (Nat × Nat)) : toPrs (castF l) = l := by
  unfold toPrs castF
  rw [List.map_map]
  conv => rhs; rw [← List.map_id l]
  exact List.map_congr_left fun p _ => by simp
/-- Parse of a policy's text is the policy -/
theorem parse_print {st : PSt} {S : List Int} {T : ByteArray} (h : rightP st S = true) (hw : Wide S) (h64 : st.L.length ≤ 64) (hcov : ∀ p ∈ LL.coversL S, p.1 < st.L.length ∧ p.2 < st.L.length)
    (hT : T.data.toList = printL st S) (hz : T.size ≤ 65536) {st' : PSt} {S' : List Int} {a e : Int} (p : ParseE T st' S' a e) : e = 0 ∧ st' = { st with F := castF (LL.coversL S) } ∧ S' = S := by
  obtain ⟨hD, hS, hr, hn, hI, hO⟩ := rightP_parts h
  have hok := plines_ok h hcov
  have hl : ∀ ws ∈ (plinesP st S).map (fun ws => ws.map fun w => w.data.toList), ws ≠ [] ∧ ∀ w ∈ ws, w ≠ [] ∧ ∀ c ∈ w, inner8 c = true := by
    intro ws hws
    obtain ⟨us, hu, rfl⟩ := List.mem_map.1 hws
    refine ⟨by intro e0; exact (hok us hu).1 (by simpa using e0), fun w hw' => ?_⟩
    obtain ⟨u, hu2, rfl⟩ := List.mem_map.1 hw'
    have := (hok us hu).2 u hu2
    exact ⟨this.1, this.2.1⟩
  have hwords : (linesB T).map wordsB = plinesP st S ++ [[]] := by
    apply words_inj
    rw [text_words', hT, printL, flds_lines_of _ hl, List.map_append]
    rfl
  have hbad : badI T < 0 := by
    rw [← okL_bytes, hT, printL]
    refine okL_lines _ (fun ws hws w hw' => ?_)
    obtain ⟨us, hu, rfl⟩ := List.mem_map.1 hws
    obtain ⟨u, hu2, rfl⟩ := List.mem_map.1 hw'
    exact ((hok us hu).2 u hu2).2.2
  have hrd := readP_W (linesB T) 0 st06
  rw [hwords, read_plines st S h h64 hcov] at hrd
  have e0 : readW [[]] { st with F := castF (LL.coversL S) } = ({ st with F := castF (LL.coversL S) }, 0) := rfl
  rw [e0] at hrd
  rcases parse_cases hz p with ⟨hb, _⟩ | ⟨_, hb⟩
  · omega
  · rw [hrd.1, hrd.2] at hb
    have hfin : FinE { st with F := castF (LL.coversL S) } S 0 := by
      refine .inr ⟨by
        intro hh
        rcases hh with hh | hh
        · have h1 := (LL.ord_len (LL.right_ord hr)).1
          have e2 : st.L.length = 0 := hh
          omega
        · have e2 : st.D = 0 := hh
          omega, S, ?_, .inl ⟨hr, rfl, rfl⟩⟩
      show LL.IsClose st.L.length (toPrs (castF (LL.coversL S))) S
      rw [toPrs_cast, ← hS]
      exact LL.covers_close (LL.right_ord hr) hw
    have hpb : ParseB { st with F := castF (LL.coversL S) } 0 { st with F := castF (LL.coversL S) } S 0 := .inr ⟨rfl, 0, hfin, .inl ⟨rfl, rfl, rfl⟩⟩
    exact parseB_same hb hpb
end Go.Proofs.YtdkpnbjkehakjaaGreatDoor

/-! plain: a lattice of 64 levels has at most 535 covers -/
namespace Go.Proofs.YtdkpnbjkehakjaaGreatDoor.LL

def sm : Nat → (Nat → Nat) → Nat
  | 0, _ => 0
  | n + 1, f => sm n f + f n
theorem sm_le {n : Nat} {f g : Nat → Nat} (h : ∀ i, i < n → f i ≤ g i) : sm n f ≤ sm n g := by
  induction n with
  | zero => exact Nat.le_refl _
  | succ n ih => exact Nat.add_le_add (ih fun i hi => h i (by omega)) (h n (by omega))
theorem sm_congr {n : Nat} {f g : Nat → Nat} (h : ∀ i, i < n → f i = g i) : sm n f = sm n g := by
  induction n with
  | zero => rfl
  | succ n ih => show sm n f + f n = sm n g + g n; rw [ih fun i hi => h i (by omega), h n (by omega)]
theorem sm_add (n : Nat) (f g : Nat → Nat) : sm n (fun i => f i + g i) = sm n f + sm n g := by
  induction n with
  | zero => rfl
  | succ n ih => show sm n _ + (f n + g n) = (sm n f + f n) + (sm n g + g n); rw [ih]; omega
theorem sm_mul (n k : Nat) (f : Nat → Nat) : sm n (fun i => k * f i) = k * sm n f := by
  induction n with
  | zero => rfl
  | succ n ih => show sm n _ + k * f n = k * (sm n f + f n); rw [ih, Nat.mul_add]
theorem sm_mulr (n k : Nat) (f : Nat → Nat) : sm n (fun i => f i * k) = sm n f * k := by
  rw [Nat.mul_comm, ← sm_mul]; exact sm_congr fun i _ => Nat.mul_comm _ _
theorem sm_zero (n : Nat) : sm n (fun _ => 0) = 0 := by
  induction n with
  | zero => rfl
  | succ n ih => show sm n _ + 0 = 0; rw [ih]
theorem sm_const (n k : Nat) : sm n (fun _ => k) = n * k := by
  induction n with
  | zero => simp [sm]
  | succ n ih => show sm n _ + k = (n + 1) * k; rw [ih, Nat.add_mul, Nat.one_mul]
theorem sm_swap (n m : Nat) (f : Nat → Nat → Nat) : sm n (fun i => sm m (fun j => f i j)) = sm m (fun j => sm n (fun i => f i j)) := by
  induction n with
  | zero => exact (sm_zero m).symm
  | succ n ih =>
    show sm n (fun i => sm m (fun j => f i j)) + sm m (fun j => f n j) = sm m (fun j => sm n (fun i => f i j) + f n j)
    rw [ih, sm_add]
theorem sm_one {n k v : Nat} (hk : k < n) : sm n (fun i => if i = k then v else 0) = v := by
  induction n with
  | zero => omega
  | succ n ih =>
    show sm n (fun i => if i = k then v else 0) + (if n = k then v else 0) = v
    by_cases e : n = k
    · subst e
      rw [if_pos rfl, sm_congr (g := fun _ => 0) (fun i hi => if_neg (by omega)), sm_zero, Nat.zero_add]
    · rw [if_neg e, ih (by omega), Nat.add_zero]
/-- at most one -/
theorem sm_le_one {n : Nat} {f : Nat → Nat} (h1 : ∀ i, i < n → f i ≤ 1) (h : ∀ i j, i < n → j < n → f i ≠ 0 → f j ≠ 0 → i = j) : sm n f ≤ 1 := by
  induction n with
  | zero => exact Nat.zero_le _
  | succ n ih =>
    show sm n f + f n ≤ 1
    by_cases e : f n = 0
    · rw [e]; exact ih (fun i hi => h1 i (by omega)) (fun i j hi hj => h i j (by omega) (by omega))
    · have : sm n f = 0 := by
        rw [sm_congr (g := fun _ => 0) (fun i hi => ?_), sm_zero]
        apply Classical.byContradiction
        intro hn
        have := h i n (by omega) (by omega) hn e
        omega
      have := h1 n (by omega)
      omega
/-- one, if it is a cover -/
def kv (xs : List Int) (a c : Nat) : Nat := if isCover xs a c = true then 1 else 0
theorem kv_le (xs : List Int) (a c : Nat) : kv xs a c ≤ 1 := by unfold kv; split <;> omega
theorem kv_sq (xs : List Int) (a c : Nat) : kv xs a c * kv xs a c = kv xs a c := by unfold kv; split <;> rfl
theorem kv_pos {xs : List Int} {a c : Nat} (h : kv xs a c ≠ 0) : isCover xs a c = true := by
  unfold kv at h; split at h
  · assumption
  · exact absurd rfl h
theorem rowUp_sm (xs : List Int) (a k : Nat) : (rowUp xs a k).length = sm k (kv xs a) := by
  induction k with
  | zero => rfl
  | succ k ih =>
    cases h : isCover xs a k
    · rw [rowUp_no xs a k h, ih]; show _ = sm k (kv xs a) + kv xs a k
      unfold kv; rw [h]; simp
    · rw [rowUp_yes xs a k h, List.length_append, ih]; show _ = sm k (kv xs a) + kv xs a k
      conv => rhs; rw [show kv xs a k = 1 by unfold kv; rw [h]; rfl]
      rfl
theorem coversUp_sm (xs : List Int) (a : Nat) : (coversUp xs a).length = sm a (fun i => sm xs.length (kv xs i)) := by
  induction a with
  | zero => rfl
  | succ a ih => rw [coversUp_succ, List.length_append, ih, rowUp_sm]; rfl
/-- two levels have at most one cover in common -/
theorem cover_same {xs : List Int} (h : rightB xs = true) (hw : Wide xs) {a b c d : Nat} (hne : a ≠ b) (ha : a < xs.length) (hb : b < xs.length) (hc : c < xs.length) (hd : d < xs.length)
    (h1 : isCover xs a c = true) (h2 : isCover xs b c = true) (h3 : isCover xs a d = true) (h4 : isCover xs b d = true) : c = d := by
  have ho := right_ord h
  obtain ⟨j, hj⟩ := ex_join h ha hb
  have key : ∀ e, e < xs.length → isCover xs a e = true → isCover xs b e = true → e = j := by
    intro e he c1 c2
    have s1 := cover_st c1
    have s2 := cover_st c2
    have ae := st_ab s1.1
    have be := st_ab s2.1
    have hje : ab xs j e = true := hj.2.2.2 e he ae.2 be.2
    have hjl : j < xs.length := hj.1
    apply Classical.byContradiction
    intro hne2
    by_cases ja : j = a
    · subst ja
      exact s2.2 j ha hne (fun e' => hne2 e'.symm) hj.2.2.1 hje
    · exact s1.2 j hjl ja (fun e' => hne2 e'.symm) hj.2.1 hje
  rw [key c hc h1 h2, key d hd h3 h4]
/-- some level covers none -/
theorem low_ex {xs : List Int} (ho : ordB xs = true) (hw : Wide xs) : ∃ c, c < xs.length ∧ ∀ a, a < xs.length → isCover xs a c = false := by
  have key : ∀ k c, xs.length - cnt xs c ≤ k → c < xs.length → ∃ c, c < xs.length ∧ ∀ a, a < xs.length → isCover xs a c = false := by
    intro k
    induction k with
    | zero =>
      intro c hk hc
      refine ⟨c, hc, fun a ha => ?_⟩
      cases e : isCover xs a c
      · rfl
      · have h1 := (cnt_lt ho hw ha (cover_st e).1).2
        have h2 := cnt_le xs a
        omega
    | succ k ih =>
      intro c hk hc
      by_cases hx : ∃ a, a < xs.length ∧ isCover xs a c = true
      · obtain ⟨a, ha, e⟩ := hx
        have h1 := (cnt_lt ho hw ha (cover_st e).1).2
        have h2 := cnt_le xs a
        exact ih a (by omega) ha
      · refine ⟨c, hc, fun a ha => ?_⟩
        cases e : isCover xs a c
        · rfl
        · exact absurd ⟨a, ha, e⟩ hx
  exact key _ 0 (Nat.le_refl _) (by have := (ord_len ho).1; omega)
theorem sq_ge (d : Nat) : 17 * d ≤ d * d + 72 := by
  by_cases h : d ≤ 8
  · have : d = 0 ∨ d = 1 ∨ d = 2 ∨ d = 3 ∨ d = 4 ∨ d = 5 ∨ d = 6 ∨ d = 7 ∨ d = 8 := by omega
    rcases this with rfl | rfl | rfl | rfl | rfl | rfl | rfl | rfl | rfl <;> decide
  · obtain ⟨e, rfl⟩ : ∃ e, d = 9 + e := ⟨d - 9, by omega⟩
    have : (9 + e) * (9 + e) = 81 + 18 * e + e * e := by
      rw [Nat.add_mul, Nat.mul_add, Nat.mul_add]; omega
    rw [this]; omega
theorem covers_few {xs : List Int} (h : rightB xs = true) (hw : Wide xs) : (coversL xs).length ≤ 535 := by
  have ho := right_ord h
  have hl := ord_len ho
  obtain ⟨bot, hbot, hlow⟩ := low_ex ho hw
  obtain ⟨n, hn⟩ : ∃ n, n = xs.length := ⟨_, rfl⟩
  obtain ⟨E, hE⟩ : ∃ E, E = sm n (fun a => sm n (kv xs a)) := ⟨_, rfl⟩
  have hlen : (coversL xs).length = E := by
    rw [hE, hn]; exact coversUp_sm xs xs.length
  -- d c: how many levels c covers
  have hd : sm n (fun c => sm n (fun a => kv xs a c)) = E := by rw [hE]; exact (sm_swap n n (fun a c => kv xs a c)).symm
  have hsq : sm n (fun c => sm n (fun a => kv xs a c) * sm n (fun b => kv xs b c)) = sm n (fun a => sm n (fun b => sm n (fun c => kv xs a c * kv xs b c))) := by
    rw [sm_congr (g := fun c => sm n (fun a => sm n (fun b => kv xs a c * kv xs b c))) (fun c _ => by
      rw [← sm_mulr]
      exact sm_congr fun a _ => (sm_mul n _ _).symm)]
    rw [sm_swap n n (fun c a => sm n (fun b => kv xs a c * kv xs b c))]
    exact sm_congr fun a _ => sm_swap n n (fun c b => kv xs a c * kv xs b c)
  have hpair : ∀ a b, a < n → b < n → sm n (fun c => kv xs a c * kv xs b c) ≤ if b = a then sm n (kv xs a) else 1 := by
    intro a b ha hb
    by_cases e : b = a
    · subst e
      rw [if_pos rfl]
      exact Nat.le_of_eq (sm_congr fun c _ => kv_sq xs b c)
    · rw [if_neg e]
      refine sm_le_one (fun c _ => ?_) (fun c d hc hd' n1 n2 => ?_)
      · have h1 := kv_le xs a c
        have h2 := kv_le xs b c
        exact Nat.le_trans (Nat.mul_le_mul h1 h2) (Nat.le_refl _)
      · have c1 : isCover xs a c = true := kv_pos (fun z => n1 (by rw [z, Nat.zero_mul]))
        have c2 : isCover xs b c = true := kv_pos (fun z => n1 (by rw [z, Nat.mul_zero]))
        have c3 : isCover xs a d = true := kv_pos (fun z => n2 (by rw [z, Nat.zero_mul]))
        have c4 : isCover xs b d = true := kv_pos (fun z => n2 (by rw [z, Nat.mul_zero]))
        exact cover_same h hw (fun e' => e e'.symm) (by omega) (by omega) (by omega) (by omega) c1 c2 c3 c4
  have hrow : ∀ a, a < n → sm n (fun b => if b = a then sm n (kv xs a) else 1) + 1 = sm n (kv xs a) + n := by
    intro a ha
    have e1 : sm n (fun b => (if b = a then sm n (kv xs a) else 1) + (if b = a then 1 else 0)) = sm n (fun b => (if b = a then sm n (kv xs a) else 0) + 1) :=
      sm_congr fun b _ => by by_cases e : b = a <;> simp [e]
    rw [sm_add, sm_one ha] at e1
    rw [sm_add, sm_one ha, sm_const, Nat.mul_one] at e1
    exact e1
  have htot : sm n (fun a => sm n (fun b => sm n (fun c => kv xs a c * kv xs b c))) + n ≤ E + n * n := by
    have h1 : sm n (fun a => sm n (fun b => sm n (fun c => kv xs a c * kv xs b c))) ≤ sm n (fun a => sm n (fun b => if b = a then sm n (kv xs a) else 1)) :=
      sm_le fun a ha => sm_le fun b hb => hpair a b ha hb
    have h2 : sm n (fun a => sm n (fun b => if b = a then sm n (kv xs a) else 1)) + n = E + n * n := by
      have e1 : sm n (fun a => sm n (fun b => if b = a then sm n (kv xs a) else 1) + 1) = sm n (fun a => sm n (kv xs a) + n) := sm_congr hrow
      rw [sm_add, sm_const, Nat.mul_one, sm_add, sm_const, ← hE] at e1
      exact e1
    omega
  have hlow2 : sm n (fun c => 17 * sm n (fun a => kv xs a c)) + 72 ≤ sm n (fun c => sm n (fun a => kv xs a c) * sm n (fun b => kv xs b c)) + n * 72 := by
    have h1 : sm n (fun c => 17 * sm n (fun a => kv xs a c) + (if c = bot then 72 else 0)) ≤ sm n (fun c => sm n (fun a => kv xs a c) * sm n (fun b => kv xs b c) + 72) := by
      refine sm_le fun c hc => ?_
      by_cases e : c = bot
      · subst e
        have : sm n (fun a => kv xs a c) = 0 := by
          rw [sm_congr (g := fun _ => 0) (fun a ha => by unfold kv; rw [hlow a (by omega)]; rfl), sm_zero]
        rw [this, if_pos rfl]; omega
      · rw [if_neg e]; exact sq_ge _
    rw [sm_add, sm_one (by omega), sm_add, sm_const] at h1
    exact h1
  rw [sm_mul, hd, hsq] at hlow2
  rw [hlen]
  obtain ⟨m, rfl⟩ : ∃ m, n = m + 1 := ⟨n - 1, by omega⟩
  have hm : m ≤ 63 := by omega
  have e2 : (m + 1) * (m + 1) = m * m + 2 * m + 1 := by rw [Nat.add_mul, Nat.mul_add]; omega
  have e3 : m * m ≤ 63 * 63 := Nat.mul_le_mul hm hm
  rw [e2] at htot
  omega
end Go.Proofs.YtdkpnbjkehakjaaGreatDoor.LL

/-! plain: a policy's text has at most 65536 bytes -/
namespace Go.Proofs.YtdkpnbjkehakjaaGreatDoor
open Go.RowKit

theorem wd_small {s : ByteArray} {k : Nat} (h : rn s k < 2048) : wd s k ≤ 2 := by
  revert h
  unfold rn wd
  rw [Lib.decode_at]
  unfold Lib.decodeN
  repeat' split
  all_goals (intro h; dsimp only at *; omega)
theorem ok_small {s : ByteArray} {p : Nat} (h : okB s p = true) : rn s p < 2048 := by
  unfold okB letterB digitB inB at h
  simp only [Bool.or_eq_true, Bool.and_eq_true, decide_eq_true_eq, beq_iff_eq] at h
  omega
theorem poss_size (s : ByteArray) : ∀ f pos, s.size ≤ pos + f → (∀ p ∈ poss s f pos, wd s p ≤ 2) → s.size ≤ pos + 2 * (poss s f pos).length
  | 0, pos, h1, _ => by simp [poss]; omega
  | f + 1, pos, h1, h2 => by
    by_cases hlt : pos < s.size
    · have hw := wd_pos s pos
      have e : poss s (f + 1) pos = pos :: poss s f (pos + wd s pos) := by simp only [poss, hlt, if_true]
      rw [e] at h2 ⊢
      have h3 := h2 pos (List.mem_cons_self ..)
      have h4 := poss_size s f (pos + wd s pos) (by omega) (fun p hp => h2 p (List.mem_cons_of_mem _ hp))
      rw [List.length_cons]
      omega
    · omega
theorem name_size {s : ByteArray} (h : pnameB s = true) : s.data.toList.length ≤ 48 := by
  unfold pnameB at h
  rw [Bool.and_eq_true] at h
  have h1 := h.1
  unfold nameB at h1
  rw [Bool.and_eq_true, Bool.and_eq_true, decide_eq_true_eq, decide_eq_true_eq, List.all_eq_true] at h1
  have h2 := poss_size s s.size 0 (by omega) (fun p hp => wd_small (ok_small (h1.2 p hp)))
  have h3 : (poss s s.size 0).length ≤ 24 := h1.1.2
  have h4 : s.data.toList.length = s.size := by simp
  omega
theorem flat_le {α β : Type} {f : α → List β} {k : Nat} : ∀ {l : List α}, (∀ x ∈ l, (f x).length ≤ k) → (l.flatMap f).length ≤ l.length * k
  | [], _ => by simp
  | x :: l, h => by
    rw [List.flatMap_cons, List.length_append, List.length_cons, Nat.add_mul, Nat.one_mul]
    have h1 := h x (List.mem_cons_self ..)
    have h2 := flat_le (l := l) (fun y hy => h y (List.mem_cons_of_mem _ hy))
    omega
theorem line2 (a b : List UInt8) : (lineL [a, b]).length = a.length + b.length + 2 := by simp [lineL]; omega
theorem line3 (a b c : List UInt8) : (lineL [a, b, c]).length = a.length + b.length + c.length + 3 := by simp [lineL]; omega
theorem num_short {n : Int} (h0 : 0 ≤ n) (h1 : n ≤ 64) : (num n).data.toList.length ≤ 20 := by
  obtain ⟨u, rfl⟩ : ∃ u : Nat, n = u := ⟨n.toNat, by omega⟩
  rw [num_list, Lib.itoa_nonneg]
  rw [Lib.decDigits_length]
  exact (Lib.nDigits_le20 u (by omega))
/-- the parts' sizes -/
theorem print_size {st : PSt} {S : List Int} (h : rightP st S = true) (hw : Wide S) (h64 : st.L.length ≤ 64) (hcov : ∀ p ∈ LL.coversL S, p.1 < st.L.length ∧ p.2 < st.L.length) : (printL st S).length ≤ 65536 := by
  obtain ⟨hD, hS, hr, hn, hI, hO⟩ := rightP_parts h
  have hL : ∀ a, a < st.L.length → (wd6 st.L a).data.toList.length ≤ 48 := fun a ha => name_size (names_all hn a ha).1
  have hch : ∀ (cs : List (ByteArray × Int)), chansP st.L.length cs = true → cs.length ≤ 32 ∧ ∀ c ∈ cs, c.1.data.toList.length ≤ 48 ∧ (wd6 st.L c.2.toNat).data.toList.length ≤ 48 := by
    intro cs hc
    obtain ⟨h32, hl, hnn⟩ := chans_split hc
    refine ⟨h32, fun c hm => ?_⟩
    obtain ⟨k, hk, e⟩ := List.getElem_of_mem hm
    have e2 : chAt cs k = c := by unfold chAt; rw [List.getElem?_eq_getElem hk]; exact e
    have hp := (names_all hnn k (by rw [List.length_map]; exact hk)).1
    rw [ch_name hk, e2] at hp
    have hlv := ch_lev hl hk
    rw [e2] at hlv
    exact ⟨name_size hp, hL _ (by omega)⟩
  have hI2 := hch st.I hI
  have hO2 := hch st.O hO
  have hcf := LL.covers_few hr hw
  have p1 : ((((st.L.map fun x => [wLevel, x])).map fun ws => ws.map fun w => w.data.toList).flatMap lineL).length ≤ 64 * 55 := by
    refine Nat.le_trans (flat_le (k := 55) ?_) (Nat.mul_le_mul_right _ (by rw [List.length_map, List.length_map]; exact h64))
    intro ws hws
    obtain ⟨us, hu, rfl⟩ := List.mem_map.1 hws
    obtain ⟨x, hx, rfl⟩ := List.mem_map.1 hu
    obtain ⟨k, hk, e⟩ := List.getElem_of_mem hx
    have := hL k hk
    unfold wd6 at this
    rw [List.getElem?_eq_getElem hk] at this
    rw [show st.L[k] = x from e] at this
    have e5 : wLevel.data.toList.length = 5 := by decide
    simp only [List.map_cons, List.map_nil]
    rw [line2, e5]
    have h9 : x.data.toList.length ≤ 48 := this
    omega
  have p2 : (((((LL.coversL S).map fun p => [wFlow, wd6 st.L p.1, wd6 st.L p.2])).map fun ws => ws.map fun w => w.data.toList).flatMap lineL).length ≤ 535 * 103 := by
    refine Nat.le_trans (flat_le (k := 103) ?_) (Nat.mul_le_mul_right _ (by rw [List.length_map, List.length_map]; exact hcf))
    intro ws hws
    obtain ⟨us, hu, rfl⟩ := List.mem_map.1 hws
    obtain ⟨p, hp, rfl⟩ := List.mem_map.1 hu
    have h1 := hL _ (hcov p hp).1
    have h2 := hL _ (hcov p hp).2
    have e5 : wFlow.data.toList.length = 4 := by decide
    simp only [List.map_cons, List.map_nil]
    rw [line3, e5]
    omega
  have p3 : ((((st.I.map fun c => [wInput, c.1, wd6 st.L c.2.toNat])).map fun ws => ws.map fun w => w.data.toList).flatMap lineL).length ≤ 32 * 105 := by
    refine Nat.le_trans (flat_le (k := 105) ?_) (Nat.mul_le_mul_right _ (by rw [List.length_map, List.length_map]; exact hI2.1))
    intro ws hws
    obtain ⟨us, hu, rfl⟩ := List.mem_map.1 hws
    obtain ⟨c, hc, rfl⟩ := List.mem_map.1 hu
    have h1 := hI2.2 c hc
    have e5 : wInput.data.toList.length = 5 := by decide
    simp only [List.map_cons, List.map_nil]
    rw [line3, e5]
    omega
  have p4 : ((((st.O.map fun c => [wOutput, c.1, wd6 st.L c.2.toNat])).map fun ws => ws.map fun w => w.data.toList).flatMap lineL).length ≤ 32 * 105 := by
    refine Nat.le_trans (flat_le (k := 105) ?_) (Nat.mul_le_mul_right _ (by rw [List.length_map, List.length_map]; exact hO2.1))
    intro ws hws
    obtain ⟨us, hu, rfl⟩ := List.mem_map.1 hws
    obtain ⟨c, hc, rfl⟩ := List.mem_map.1 hu
    have h1 := hO2.2 c hc
    have e5 : wOutput.data.toList.length = 6 := by decide
    simp only [List.map_cons, List.map_nil]
    rw [line3, e5]
    omega
  have p5 : (([[wDepth, num st.D]].map fun ws => ws.map fun w => w.data.toList).flatMap lineL).length ≤ 27 := by
    refine Nat.le_trans (flat_le (k := 27) ?_) (by simp)
    intro ws hws
    obtain ⟨us, hu, rfl⟩ := List.mem_map.1 hws
    rw [List.mem_singleton] at hu
    subst hu
    have h1 := num_short (n := st.D) (by omega) (by omega)
    have e5 : wDepth.data.toList.length = 5 := by decide
    simp only [List.map_cons, List.map_nil]
    rw [line2, e5]
    omega
  unfold printL plinesP
  rw [List.map_append, List.map_append, List.map_append, List.map_append, List.flatMap_append, List.flatMap_append, List.flatMap_append, List.flatMap_append, List.length_append, List.length_append, List.length_append, List.length_append]
  omega
end Go.Proofs.YtdkpnbjkehakjaaGreatDoor
