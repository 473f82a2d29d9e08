import Derived.Test.YthjfgfgkbfhdfaaGreatDoorPrnG
import Derived.Test.YthjfgfgkbfhdfaaGreatDoorPrnL
import Derived.Test.YthjfgfgkbfhdfaaGreatDoorPrnB
set_option linter.unusedSimpArgs false
set_option linter.unusedVariables false
/-! plain: what is read may be -/
namespace Go.Proofs.YthjfgfgkbfhdfaaGreatDoor
open Go.RowKit
/-- what has been read so far may stand in a policy -/
def RInv (st : PSt) : Prop := namesP st.L = true ∧ st.L.length ≤ 64 ∧ chansP st.L.length st.I = true ∧ chansP st.L.length st.O = true ∧ 0 ≤ st.D ∧ st.D ≤ 64
theorem wd_left {ss : List ByteArray} {x : ByteArray} {j : Nat} (h : j < ss.length) : wd6 (ss ++ [x]) j = wd6 ss j := by
  unfold wd6; rw [List.getElem?_append_left h]
theorem wd_last (ss : List ByteArray) (x : ByteArray) : wd6 (ss ++ [x]) ss.length = x := by
  unfold wd6; rw [List.getElem?_append_right (Nat.le_refl _), Nat.sub_self]; rfl
theorem names_snoc {ss : List ByteArray} {x : ByteArray} (h : namesP ss = true) (hp : pnameB x = true) (hl : levelI ss x < 0) : namesP (ss ++ [x]) = true := by
  refine names_of _ _ _ (by omega) (fun j _ hj => ?_)
  rw [List.length_append, List.length_singleton] at hj
  by_cases e : j < ss.length
  · rw [wd_left e, List.take_append_of_le_length (by omega)]
    exact names_all h j e
  · obtain rfl : j = ss.length := by omega
    rw [wd_last, List.take_left]
    exact ⟨hp, hl⟩
theorem chans_more {n m : Int} {cs : List (ByteArray × Int)} (h : chansP n cs = true) (hnm : n ≤ m) : chansP m cs = true := by
  obtain ⟨h1, h2, h3⟩ := chans_split h
  rw [chans_yes h1 (fun k hk => by have := ch_lev h2 hk; omega)]
  exact h3
theorem chans_snoc {n : Int} {cs : List (ByteArray × Int)} {x : ByteArray} {l : Int} (h : chansP n cs = true) (hp : pnameB x = true) (hc : chanI cs x < 0) (h32 : cs.length ≠ 32) (h0 : 0 ≤ l) (h1 : l < n) : chansP n (cs ++ [(x, l)]) = true := by
  obtain ⟨h4, h2, h3⟩ := chans_split h
  rw [chans_yes (by rw [List.length_append, List.length_singleton]; omega) (fun k hk => ?_)]
  · rw [List.map_append]
    exact names_snoc h3 hp (by rw [← chan_level]; exact hc)
  · rw [List.length_append, List.length_singleton] at hk
    by_cases e : k < cs.length
    · have e2 : chAt (cs ++ [(x, l)]) k = chAt cs k := by unfold chAt; rw [List.getElem?_append_left e]
      rw [e2]; exact ch_lev h2 e
    · obtain rfl : k = cs.length := by omega
      have e2 : chAt (cs ++ [(x, l)]) cs.length = (x, l) := by unfold chAt; rw [List.getElem?_append_right (Nat.le_refl _), Nat.sub_self]; rfl
      rw [e2]; exact ⟨h0, h1⟩
theorem ite_R {R : PSt → Prop} {c : Prop} [Decidable c] {a b : PSt × Int} (h1 : R a.1) (h2 : ¬ c → R b.1) : R (if c then a else b).1 := by
  split
  · exact h1
  · exact h2 ‹_›
theorem doP_R (st : PSt) (ws : List ByteArray) (h : RInv st) : RInv (doP st ws).1 := by
  obtain ⟨hn, hL, hI, hO, hD0, hD1⟩ := h
  have h : RInv st := ⟨hn, hL, hI, hO, hD0, hD1⟩
  unfold doP
  refine ite_R h fun _ => ite_R h fun _ => ?_
  split
  · unfold levelP
    refine ite_R h fun _ => ite_R h fun a1 => ite_R h fun a2 => ite_R h fun a3 => ⟨names_snoc hn (by simpa using a1) (by omega), by simp; omega, ?_, ?_, hD0, hD1⟩
    · exact chans_more hI (by simp; omega)
    · exact chans_more hO (by simp; omega)
  · split
    · unfold flowP
      exact ite_R h fun _ => ite_R h fun _ => ite_R h fun _ => ⟨hn, hL, hI, hO, hD0, hD1⟩
    · split
      · unfold chanIP
        refine ite_R h fun _ => ite_R h fun a1 => ite_R h fun a2 => ite_R h fun a3 => ite_R h fun a4 => ⟨hn, hL, ?_, hO, hD0, hD1⟩
        exact chans_snoc hI (by simpa using a1) (by omega) a4 (by omega) (level_range st.L _).2
      · split
        · unfold chanOP
          refine ite_R h fun _ => ite_R h fun a1 => ite_R h fun a2 => ite_R h fun a3 => ite_R h fun a4 => ⟨hn, hL, hI, ?_, hD0, hD1⟩
          exact chans_snoc hO (by simpa using a1) (by omega) a4 (by omega) (level_range st.L _).2
        · split
          · unfold depthP
            refine ite_R h fun _ => ?_
            split
            · exact h
            · rename_i k hk
              exact ite_R h fun _ => ite_R h fun a => ⟨hn, hL, hI, hO, (show 0 ≤ k by omega), (show k ≤ 64 by omega)⟩
          · exact h
theorem readP_R : ∀ (ls : List ByteArray) (a : Int) (st : PSt), RInv st → RInv (readP ls a st).1
  | [], _, st, h => h
  | l :: ls, a, st, h => by
    unfold readP
    split
    · exact doP_R st _ h
    · exact readP_R ls _ _ (doP_R st _ h)
theorem st06_R : RInv st06 := ⟨rfl, by decide, rfl, rfl, by decide, by decide⟩
/-- what is read may be; beside an error nothing is read -/
theorem parse_right {s : ByteArray} {st : PSt} {S : List Int} {a e : Int} (h : ParseE s st S a e) : (e = 0 ∧ rightP st S = true ∧ Wide S) ∨ (e ≠ 0 ∧ st = st06 ∧ S = []) := by
  unfold ParseE at h
  by_cases hs : 65536 < s.size
  · rw [if_pos hs] at h
    exact .inr ⟨by omega, h.1, h.2.1⟩
  rw [if_neg hs] at h
  by_cases hb : 0 ≤ badI s
  · rw [if_pos hb] at h
    exact .inr ⟨by omega, h.1, h.2.1⟩
  rw [if_neg hb] at h
  by_cases hc : (readP (linesB s) 0 st06).2.2 ≠ 0
  · rw [if_pos hc] at h
    exact .inr ⟨by omega, h.1, h.2.1⟩
  rw [if_neg hc] at h
  have hR := readP_R (linesB s) 0 st06 st06_R
  obtain ⟨k, hf, ⟨h1, h2, _, h4⟩ | ⟨h0, h2, h3, _, h4⟩⟩ := h
  · refine .inl ⟨h4, ?_⟩
    rw [← h2] at hf hR
    subst h1
    rcases hf with ⟨_, h5⟩ | ⟨hne, T, hT, ⟨hr, rfl, _⟩ | ⟨_, h5⟩⟩
    · omega
    · obtain ⟨hn, hL, hI, hO, hD0, hD1⟩ := hR
      refine ⟨?_, hT.2.1⟩
      have hD : 1 ≤ st.D ∧ st.D ≤ 64 := by
        have : ¬ st.D = 0 := fun e => hne (.inr e)
        omega
      unfold rightP
      rw [decide_eq_true hD, decide_eq_true hT.1, hr, hn, hI, hO]; rfl
    · omega
  · exact .inr ⟨by omega, h3, h2⟩
/-- the texts of a policy that may be are short -/
theorem right_short {st : PSt} {S : List Int} (h : rightP st S = true) : (∀ j, j < st.L.length → (wd6 st.L j).size ≤ 140737488351232) ∧ (∀ j, j < st.I.length → (chAt st.I j).1.size ≤ 140737488351232) ∧ ∀ j, j < st.O.length → (chAt st.O j).1.size ≤ 140737488351232 := by
  obtain ⟨_, _, _, hn, hI, hO⟩ := rightP_parts h
  have hc : ∀ (cs : List (ByteArray × Int)), chansP st.L.length cs = true → ∀ j, j < cs.length → (chAt cs j).1.size ≤ 140737488351232 := by
    intro cs hc j hj
    obtain ⟨_, _, hnn⟩ := chans_split hc
    have hp := (names_all hnn j (by rw [List.length_map]; exact hj)).1
    rw [ch_name hj] at hp
    have := name_size hp
    simp at this
    omega
  refine ⟨fun j hj => ?_, hc _ hI, hc _ hO⟩
  have := name_size (names_all hn j hj).1
  simp at this
  omega
end Go.Proofs.YthjfgfgkbfhdfaaGreatDoor

/-! plain: a policy's lines, the levels ahead, the others turned round -/
namespace Go.Proofs.YthjfgfgkbfhdfaaGreatDoor
open Go.RowKit
theorem names_rev {ss : List ByteArray} (h : namesP ss = true) : namesP ss.reverse = true := by
  have hwd : ∀ j, j < ss.length → wd6 ss.reverse j = wd6 ss (ss.length - 1 - j) := by
    intro j hj
    unfold wd6
    rw [List.getElem?_reverse hj]
  refine names_of _ _ _ (by omega) (fun j _ hj => ?_)
  rw [List.length_reverse] at hj
  refine ⟨by rw [hwd j hj]; exact (names_all h _ (by omega)).1, ?_⟩
  apply Classical.byContradiction
  intro hn
  obtain ⟨k, hk⟩ : ∃ k : Nat, levelI (ss.reverse.take j) (wd6 ss.reverse j) = (k : Int) := ⟨(levelI (ss.reverse.take j) (wd6 ss.reverse j)).toNat, by omega⟩
  obtain ⟨h1, h2⟩ := level_hit hk
  rw [List.length_take, List.length_reverse] at h1
  have hkj : k < j := by omega
  rw [take_wd hkj, hwd k (by omega), hwd j hj] at h2
  have hn2 := (names_all h (ss.length - 1 - k) (by omega)).2
  have := level_some (ss := ss.take (ss.length - 1 - k)) (s := wd6 ss (ss.length - 1 - k)) (j := ss.length - 1 - j) (by rw [List.length_take]; omega) (by rw [take_wd (by omega)]; exact h2.symm)
  omega
theorem chans_rev {n : Int} {cs : List (ByteArray × Int)} (h : chansP n cs = true) : chansP n cs.reverse = true := by
  obtain ⟨h1, h2, h3⟩ := chans_split h
  unfold chansP levsP at *
  rw [List.length_reverse, List.all_reverse, List.map_reverse, names_rev h3, decide_eq_true h1, h2]; rfl
theorem reach_sub {a b : List (Nat × Nat)} (h : ∀ p, p ∈ a → p ∈ b) {i k : Nat} (r : LL.Reach a i k) : LL.Reach b i k := by
  induction r with
  | refl => exact .refl
  | tail _ hp ih => exact ih.tail (h _ hp)
/-- the lines that are none of levels -/
def othersP (st : PSt) (S : List Int) : List (List ByteArray) := ((LL.coversL S).map fun p => [wFlow, wd6 st.L p.1, wd6 st.L p.2]) ++ (st.I.map fun c => [wInput, c.1, wd6 st.L c.2.toNat]) ++ (st.O.map fun c => [wOutput, c.1, wd6 st.L c.2.toNat]) ++ [[wDepth, num st.D]]
theorem plines_others (st : PSt) (S : List Int) : plinesP st S = (st.L.map fun x => [wLevel, x]) ++ othersP st S := by unfold plinesP othersP; simp only [List.append_assoc]
def turnW (st : PSt) (S : List Int) : List (List ByteArray) := (st.L.map fun x => [wLevel, x]) ++ (othersP st S).reverse
theorem turn_mem {st : PSt} {S : List Int} {ws : List ByteArray} (h : ws ∈ turnW st S) : ws ∈ plinesP st S := by
  rw [plines_others]
  unfold turnW at h
  simp only [List.mem_append, List.mem_reverse] at h ⊢
  exact h
/-- what is read of them -/
def turnSt (st : PSt) (S : List Int) : PSt := { L := st.L, I := st.I.reverse, O := st.O.reverse, D := st.D, F := castF (LL.coversL S).reverse }
theorem read_turn (st : PSt) (S : List Int) (h : rightP st S = true) (h64 : st.L.length ≤ 64) (hcov : ∀ p ∈ LL.coversL S, p.1 < st.L.length ∧ p.2 < st.L.length) (tail : List (List ByteArray)) :
    readW (turnW st S ++ tail) st06 = readW tail (turnSt st S) := by
  obtain ⟨hD, hS, hr, hn, hI, hO⟩ := rightP_parts h
  unfold turnW othersP
  rw [List.reverse_append, List.reverse_append, List.reverse_append, ← List.map_reverse, ← List.map_reverse, ← List.map_reverse, List.reverse_singleton]
  simp only [List.append_assoc]
  have r1 := read_levels st.L hn h64 st06 st.L.length 0 (by omega) rfl
  rw [List.drop_zero] at r1
  rw [readW_app _ _ _ (by rw [r1]), r1]
  have hd : doP { st06 with L := st.L } [wDepth, num st.D] = ({ st06 with L := st.L, D := st.D }, 0) := by
    rw [do_depth]
    unfold depthP
    rw [if_neg (by simp), show wd6 [wDepth, num st.D] 1 = num st.D from rfl, numO_num (by omega) (by omega)]
    show (if st06.D ≠ 0 then _ else if st.D < 1 ∨ 64 < st.D then _ else _) = _
    rw [if_neg (by decide), if_neg (by omega)]
  rw [List.singleton_append, readW_step hd]
  have r4 := read_O st.L hn st.O.reverse (chans_rev hO) { st06 with L := st.L, D := st.D } rfl st.O.reverse.length 0 (by omega) _ rfl
  rw [List.drop_zero] at r4
  have e4 : ({ st06 with L := st.L, D := st.D } : PSt) = { ({ st06 with L := st.L, D := st.D } : PSt) with O := st.O.reverse.take 0 } := rfl
  rw [e4, readW_app _ _ _ (by rw [r4]), r4]
  have r3 := read_I st.L hn st.I.reverse (chans_rev hI) { st06 with L := st.L, D := st.D, O := st.O.reverse } rfl st.I.reverse.length 0 (by omega) _ rfl
  rw [List.drop_zero] at r3
  have e3 : ({ ({ st06 with L := st.L, D := st.D } : PSt) with O := st.O.reverse } : PSt) = { ({ st06 with L := st.L, D := st.D, O := st.O.reverse } : PSt) with I := st.I.reverse.take 0 } := rfl
  rw [e3, readW_app _ _ _ (by rw [r3]), r3]
  have r2 := read_flows st.L hn (LL.coversL S).reverse { st06 with L := st.L, D := st.D, O := st.O.reverse, I := st.I.reverse } rfl (fun p hp => hcov p (List.mem_reverse.1 hp))
  rw [readW_app _ _ _ (by rw [r2]), r2]
  rfl
theorem flat_rev {α β : Type} (f : α → List β) : ∀ l : List α, (l.reverse.flatMap f).length = (l.flatMap f).length
  | [] => rfl
  | x :: l => by
    rw [List.reverse_cons, List.flatMap_append, List.length_append, flat_rev f l, List.flatMap_cons, List.length_append]
    simp; omega
theorem turn_len (st : PSt) (S : List Int) : (wordsL (turnW st S)).length = (printL st S).length := by
  rw [printL_words, plines_others]
  unfold turnW
  rw [wordsL_app, wordsL_app, List.length_append, List.length_append]
  congr 1
  unfold wordsL
  rw [List.map_reverse, flat_rev]
/-- Parse of them: the same levels, the channels turned round -/
theorem parse_turn {st : PSt} {S : List Int} {T : ByteArray} (h : rightP st S = true) (hw : Wide S) (h64 : st.L.length ≤ 64) (hcov : ∀ p ∈ LL.coversL S, p.1 < st.L.length ∧ p.2 < st.L.length)
    (hT : T.data.toList = wordsL (turnW st S)) (hz : T.size ≤ 65536) {st' : PSt} {S' : List Int} {a e : Int} (p : ParseE T st' S' a e) : e = 0 ∧ st' = turnSt st S ∧ S' = S := by
  obtain ⟨hD, hS, hr, hn, hI, hO⟩ := rightP_parts h
  have hok : ∀ ws ∈ turnW st S, ws ≠ [] ∧ ∀ w ∈ ws, WordOk w := fun ws hws => plines_ok h hcov ws (turn_mem hws)
  have hl : ∀ ws ∈ (turnW st S).map (fun ws => ws.map fun w => w.data.toList), ws ≠ [] ∧ ∀ w ∈ ws, w ≠ [] ∧ ∀ c ∈ w, inner8 c = true := by
    intro ws hws
    obtain ⟨us, hu, rfl⟩ := List.mem_map.1 hws
    refine ⟨by intro e0; exact (hok us hu).1 (by simpa using e0), fun w hw' => ?_⟩
    obtain ⟨u, hu2, rfl⟩ := List.mem_map.1 hw'
    have := (hok us hu).2 u hu2
    exact ⟨this.1, this.2.1⟩
  have hwords : (linesB T).map wordsB = turnW st S ++ [[]] := by
    apply words_inj
    rw [text_words', hT, wordsL, flds_lines_of _ hl, List.map_append]
    rfl
  have hbad : badI T < 0 := by
    rw [← okL_bytes, hT, wordsL]
    refine okL_lines _ (fun ws hws w hw' => ?_)
    obtain ⟨us, hu, rfl⟩ := List.mem_map.1 hws
    obtain ⟨u, hu2, rfl⟩ := List.mem_map.1 hw'
    exact ((hok us hu).2 u hu2).2.2
  have hrd := readP_W (linesB T) 0 st06
  rw [hwords, read_turn st S h h64 hcov] at hrd
  have e0 : readW [[]] (turnSt st S) = (turnSt st S, 0) := rfl
  rw [e0] at hrd
  rcases parse_cases hz p with ⟨hb, _⟩ | ⟨_, hb⟩
  · omega
  · rw [hrd.1, hrd.2] at hb
    have hfin : FinE (turnSt st S) S 0 := by
      refine .inr ⟨by
        intro hh
        rcases hh with hh | hh
        · have h1 := (LL.ord_len (LL.right_ord hr)).1
          have e2 : st.L.length = 0 := hh
          omega
        · have e2 : st.D = 0 := hh
          omega, S, ?_, .inl ⟨hr, rfl, rfl⟩⟩
      show LL.IsClose st.L.length (toPrs (castF (LL.coversL S).reverse)) S
      rw [toPrs_cast, ← hS]
      obtain ⟨c1, c2, c3⟩ := LL.covers_close (LL.right_ord hr) hw
      exact ⟨c1, c2, fun i k hi => (c3 i k hi).trans ⟨reach_sub (fun p hp => List.mem_reverse.2 hp), reach_sub (fun p hp => List.mem_reverse.1 hp)⟩⟩
    have hpb : ParseB (turnSt st S) 0 (turnSt st S) S 0 := .inr ⟨rfl, 0, hfin, .inl ⟨rfl, rfl, rfl⟩⟩
    exact parseB_same hb hpb
end Go.Proofs.YthjfgfgkbfhdfaaGreatDoor

/-! plain: a text cut at its lines' ends -/
namespace Go.Proofs.YthjfgfgkbfhdfaaGreatDoor
open Go.RowKit
def levLit : List UInt8 := [108, 101, 118, 101, 108, 32]
def levB (l : List UInt8) : Bool := decide (6 < l.length) && (l.take 6 == levLit)
def headsL (ls : List (List UInt8)) : List UInt8 := (ls.filter levB).flatten
def tailsL (ls : List (List UInt8)) : List UInt8 := (ls.filter fun l => !levB l).reverse.flatten
/-- a line: its end is the only one -/
def Line8 (l : List UInt8) : Prop := ∃ t, l = t ++ [10] ∧ ∀ c ∈ t, c ≠ 10
/-- what has been cut off so far -/
def Cut8 (ls : List (List UInt8)) (from_ i : Nat) (H T : List UInt8) : Prop :=
  ∃ k j, k ≤ ls.length ∧ from_ = (ls.take k).flatten.length ∧ i = from_ + j ∧ (j = 0 ∨ ∃ l, ls[k]? = some l ∧ j < l.length) ∧ H = headsL (ls.take k) ∧ T = tailsL (ls.take k)
theorem Cut8.start (ls : List (List UInt8)) : Cut8 ls 0 0 [] [] := ⟨0, 0, Nat.zero_le _, rfl, rfl, .inl rfl, rfl, rfl⟩
theorem heads_snoc (a : List (List UInt8)) (l : List UInt8) : headsL (a ++ [l]) = if levB l = true then headsL a ++ l else headsL a := by
  unfold headsL
  rw [List.filter_append, List.flatten_append]
  split
  · rename_i h; simp [h]
  · rename_i h; simp [h]
theorem tails_snoc (a : List (List UInt8)) (l : List UInt8) : tailsL (a ++ [l]) = if levB l = true then tailsL a else l ++ tailsL a := by
  unfold tailsL
  rw [List.filter_append, List.reverse_append, List.flatten_append]
  split
  · rename_i h; simp [h]
  · rename_i h; simp [h]
theorem Cut8.le {ls : List (List UInt8)} {f i : Nat} {H T : List UInt8} (h : Cut8 ls f i H T) : f ≤ i := by
  obtain ⟨k, j, _, _, h3, _⟩ := h; omega
theorem Cut8.next {ls : List (List UInt8)} {f i : Nat} {H T : List UInt8} (h : Cut8 ls f i H T) (hl : ∀ l ∈ ls, Line8 l) (hi : i < ls.flatten.length) :
    (ls.flatten[i] ≠ 10 ∧ Cut8 ls f (i + 1) H T) ∨ (ls.flatten[i] = 10 ∧ ∃ l, (ls.flatten.drop f).take (i + 1 - f) = l ∧ ((levB l = true ∧ Cut8 ls (i + 1) (i + 1) (H ++ l) T) ∨ (levB l = false ∧ Cut8 ls (i + 1) (i + 1) H (l ++ T)))) := by
  obtain ⟨k, j, hk, hf, hij, hj, rfl, rfl⟩ := h
  have hkl : k < ls.length := by
    rcases hj with h0 | ⟨l, h1, _⟩
    · apply Classical.byContradiction
      intro hn
      rw [List.take_of_length_le (by omega)] at hf
      omega
    · exact (List.getElem?_eq_some_iff.1 h1).1
  obtain ⟨l, hle⟩ : ∃ l, ls[k]? = some l := ⟨_, List.getElem?_eq_getElem hkl⟩
  obtain ⟨_, hle2⟩ := List.getElem?_eq_some_iff.1 hle
  obtain ⟨t, ht, hne⟩ := hl l (List.mem_of_getElem? hle)
  have hjl : j < l.length := by
    rcases hj with h0 | ⟨l', h1, h2⟩
    · rw [h0, ht, List.length_append, List.length_singleton]; omega
    · rw [hle] at h1; cases h1; exact h2
  have hsplit : ls = ls.take k ++ l :: ls.drop (k + 1) := by
    rw [← hle2, ← List.drop_eq_getElem_cons hkl, List.take_append_drop]
  have hflat : ls.flatten = (ls.take k).flatten ++ (l ++ (ls.drop (k + 1)).flatten) := by
    conv => lhs; rw [hsplit]
    rw [List.flatten_append, List.flatten_cons]
  have htk : ls.take (k + 1) = ls.take k ++ [l] := by rw [List.take_succ_eq_append_getElem hkl, hle2]
  have hget : ls.flatten[i]? = l[j]? := by
    rw [hflat, List.getElem?_append_right (by omega), List.getElem?_append_left (by omega)]
    congr 1; omega
  rw [List.getElem?_eq_getElem hi, List.getElem?_eq_getElem hjl] at hget
  have hget := Option.some.inj hget
  by_cases hjt : j < t.length
  · left
    have hb : l[j] = t[j] := by
      have : l[j]? = t[j]? := by rw [ht, List.getElem?_append_left hjt]
      rw [List.getElem?_eq_getElem hjl, List.getElem?_eq_getElem hjt] at this
      exact Option.some.inj this
    refine ⟨by rw [hget, hb]; exact hne _ (List.getElem_mem hjt), k, j + 1, hk, hf, by omega, .inr ⟨l, hle, by rw [ht, List.length_append, List.length_singleton]; omega⟩, rfl, rfl⟩
  · right
    have hll : l.length = t.length + 1 := by rw [ht, List.length_append, List.length_singleton]
    have hje : j = t.length := by omega
    have hb : l[j] = 10 := by
      have : l[j]? = some 10 := by rw [ht, List.getElem?_append_right (by omega), hje, Nat.sub_self]; rfl
      rw [List.getElem?_eq_getElem hjl] at this
      exact Option.some.inj this
    have hnf : i + 1 = (ls.take (k + 1)).flatten.length := by
      rw [htk, List.flatten_append, List.length_append, show [l].flatten = l by simp]
      omega
    refine ⟨by rw [hget, hb], l, ?_, ?_⟩
    · rw [hflat, List.drop_left' (by omega), List.take_left' (by omega)]
    · cases hv : levB l
      · right
        refine ⟨rfl, k + 1, 0, by omega, hnf, rfl, .inl rfl, ?_, ?_⟩
        · rw [htk, heads_snoc, hv]; rfl
        · rw [htk, tails_snoc, hv]; rfl
      · left
        refine ⟨rfl, k + 1, 0, by omega, hnf, rfl, .inl rfl, ?_, ?_⟩
        · rw [htk, heads_snoc, hv]; rfl
        · rw [htk, tails_snoc, hv]; rfl
theorem Cut8.all {ls : List (List UInt8)} {f i : Nat} {H T : List UInt8} (h : Cut8 ls f i H T) (hl : ∀ l ∈ ls, Line8 l) (hi : i = ls.flatten.length) : H = headsL ls ∧ T = tailsL ls := by
  obtain ⟨k, j, hk, hf, hij, hj, rfl, rfl⟩ := h
  have hkl : k = ls.length := by
    apply Classical.byContradiction
    intro hn
    have hkl : k < ls.length := by omega
    have htk : ls.take (k + 1) = ls.take k ++ [ls[k]] := by rw [List.take_succ_eq_append_getElem hkl]
    have h1 : ls.flatten = (ls.take (k + 1)).flatten ++ (ls.drop (k + 1)).flatten := by rw [← List.flatten_append, List.take_append_drop]
    have h2 : (ls.take (k + 1)).flatten.length = (ls.take k).flatten.length + ls[k].length := by rw [htk, List.flatten_append, List.length_append, show [ls[k]].flatten = ls[k] by simp]
    have h3 : ls.flatten.length = (ls.take (k + 1)).flatten.length + (ls.drop (k + 1)).flatten.length := by rw [h1, List.length_append]
    obtain ⟨t, ht, _⟩ := hl ls[k] (List.getElem_mem hkl)
    have h4 : ls[k].length = t.length + 1 := by rw [ht, List.length_append, List.length_singleton]
    rcases hj with h0 | ⟨l, h5, h6⟩
    · omega
    · rw [List.getElem?_eq_getElem hkl] at h5
      cases h5
      omega
  rw [hkl, List.take_length]
  exact ⟨rfl, rfl⟩
/-- a line of words is a line -/
theorem line8_of : ∀ ws : List (List UInt8), (∀ w ∈ ws, ∀ c ∈ w, inner8 c = true) → Line8 (lineL ws)
  | [], _ => ⟨[], rfl, by simp⟩
  | [w], h => ⟨w, rfl, fun c hc => (inner_blank (h w (List.mem_cons_self ..) c hc)).2⟩
  | w :: v :: vs, h => by
    obtain ⟨t, ht, hne⟩ := line8_of (v :: vs) (fun x hx => h x (List.mem_cons_of_mem _ hx))
    refine ⟨w ++ 32 :: t, ?_, fun c hc => ?_⟩
    · show w ++ 32 :: lineL (v :: vs) = _
      rw [ht]; simp
    · rcases List.mem_append.1 hc with hc | hc
      · exact (inner_blank (h w (List.mem_cons_self ..) c hc)).2
      · rcases List.mem_cons.1 hc with rfl | hc
        · decide
        · exact hne c hc
def lineB8 (ws : List ByteArray) : List UInt8 := lineL (ws.map (·.data.toList))
def lsP (st : PSt) (S : List Int) : List (List UInt8) := (plinesP st S).map lineB8
theorem words_flat (W : List (List ByteArray)) : wordsL W = (W.map lineB8).flatten := by
  unfold wordsL lineB8
  rw [List.flatMap_def, List.map_map]; rfl
theorem lsP_flat (st : PSt) (S : List Int) : printL st S = (lsP st S).flatten := by
  rw [printL_words, words_flat]; rfl
theorem lsP_line {st : PSt} {S : List Int} (h : rightP st S = true) (hcov : ∀ p ∈ LL.coversL S, p.1 < st.L.length ∧ p.2 < st.L.length) : ∀ l ∈ lsP st S, Line8 l := by
  intro l hl
  obtain ⟨ws, hws, rfl⟩ := List.mem_map.1 hl
  refine line8_of _ (fun w hw c hc => ?_)
  obtain ⟨u, hu, rfl⟩ := List.mem_map.1 hw
  exact ((plines_ok h hcov ws hws).2 u hu).2.1 c hc
theorem lev_level (x : ByteArray) : levB (lineB8 [wLevel, x]) = true := by
  show levB ([108, 101, 118, 101, 108] ++ 32 :: (x.data.toList ++ [10])) = true
  unfold levB levLit
  simp
theorem lev_other {l : List UInt8} {c : UInt8} {r : List UInt8} (e : l = c :: r) (hc : c ≠ 108) : levB l = false := by
  subst e
  unfold levB levLit
  rw [List.take_succ_cons]
  have : (c :: r.take 5 == [108, 101, 118, 101, 108, 32]) = false := by
    rw [beq_eq_false_iff_ne]
    intro e
    exact hc (List.cons.inj e).1
  rw [this, Bool.and_false]
theorem lev_others {st : PSt} {S : List Int} : ∀ ws ∈ othersP st S, levB (lineB8 ws) = false := by
  intro ws hws
  unfold othersP at hws
  simp only [List.mem_append, List.mem_map, List.mem_singleton] at hws
  rcases hws with ((⟨p, _, rfl⟩ | ⟨c, _, rfl⟩) | ⟨c, _, rfl⟩) | rfl
  · exact lev_other (c := 102) (r := [108, 111, 119] ++ 32 :: lineL [(wd6 st.L p.1).data.toList, (wd6 st.L p.2).data.toList]) rfl (by decide)
  · exact lev_other (c := 105) (r := [110, 112, 117, 116] ++ 32 :: lineL [c.1.data.toList, (wd6 st.L c.2.toNat).data.toList]) rfl (by decide)
  · exact lev_other (c := 111) (r := [117, 116, 112, 117, 116] ++ 32 :: lineL [c.1.data.toList, (wd6 st.L c.2.toNat).data.toList]) rfl (by decide)
  · exact lev_other (c := 100) (r := [101, 112, 116, 104] ++ 32 :: lineL [(num st.D).data.toList]) rfl (by decide)
theorem filter_all {α : Type} {p : α → Bool} {l : List α} (h : ∀ x ∈ l, p x = true) : l.filter p = l := List.filter_eq_self.2 h
theorem filter_none {α : Type} {p : α → Bool} {l : List α} (h : ∀ x ∈ l, p x = false) : l.filter p = [] := List.filter_eq_nil_iff.2 (fun x hx => by rw [h x hx]; simp)
/-- what is cut and laid anew is the turned text -/
theorem heads_tails (st : PSt) (S : List Int) : headsL (lsP st S) ++ tailsL (lsP st S) = wordsL (turnW st S) := by
  have h1 : ∀ l ∈ (st.L.map fun x => [wLevel, x]).map lineB8, levB l = true := by
    intro l hl
    obtain ⟨ws, hws, rfl⟩ := List.mem_map.1 hl
    obtain ⟨x, _, rfl⟩ := List.mem_map.1 hws
    exact lev_level x
  have h2 : ∀ l ∈ (othersP st S).map lineB8, levB l = false := by
    intro l hl
    obtain ⟨ws, hws, rfl⟩ := List.mem_map.1 hl
    exact lev_others ws hws
  have e : lsP st S = (st.L.map fun x => [wLevel, x]).map lineB8 ++ (othersP st S).map lineB8 := by unfold lsP; rw [plines_others, List.map_append]
  unfold headsL tailsL
  rw [e, List.filter_append, List.filter_append, filter_all h1, filter_none h2, List.append_nil, filter_none (fun l hl => by rw [h1 l hl]; rfl), filter_all (p := fun l => !levB l) (fun l hl => by rw [h2 l hl]; rfl), List.nil_append]
  rw [words_flat]
  unfold turnW
  rw [List.map_append, List.flatten_append, List.map_reverse]
end Go.Proofs.YthjfgfgkbfhdfaaGreatDoor
