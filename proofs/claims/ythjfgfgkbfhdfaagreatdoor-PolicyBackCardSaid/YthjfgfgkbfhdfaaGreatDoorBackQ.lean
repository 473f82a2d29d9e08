import Derived.Test.YthjfgfgkbfhdfaaGreatDoorPrnG
import Derived.Test.YthjfgfgkbfhdfaaGreatDoorPrnL
set_option linter.unusedSimpArgs false
set_option linter.unusedVariables false
/-! plain: what is read may be -/
namespace Go.Proofs.YthjfgfgkbfhdfaaGreatDoor
open Go.RowKit
/-- what has been read so far may stand in a policy -/
def RInv (st : PSt) : Prop := namesP st.L = true ∧ st.L.length ≤ 64 ∧ chansP st.L.length st.I = true ∧ chansP st.L.length st.O = true ∧ 0 ≤ st.D ∧ st.D ≤ 64
theorem wd_left {ss : List ByteArray} {x : ByteArray} {j : Nat} (h : j < ss.length) : wd6 (ss ++ [x]) j = wd6 ss j := by
  unfold wd6; rw [List.getElem?_append_left h]
theorem wd_last (ss : List ByteArray) (x : ByteArray) : wd6 (ss ++ [x]) ss.length = x := by
  unfold wd6; rw [List.getElem?_append_right (Nat.le_refl _), Nat.sub_self]; rfl
theorem names_snoc {ss : List ByteArray} {x : ByteArray} (h : namesP ss = true) (hp : pnameB x = true) (hl : levelI ss x < 0) : namesP (ss ++ [x]) = true := by
  refine names_of _ _ _ (by omega) (fun j _ hj => ?_)
  rw [List.length_append, List.length_singleton] at hj
  by_cases e : j < ss.length
  · rw [wd_left e, List.take_append_of_le_length (by omega)]
    exact names_all h j e
  · obtain rfl : j = ss.length := by omega
    rw [wd_last, List.take_left]
    exact ⟨hp, hl⟩
theorem chans_more {n m : Int} {cs : List (ByteArray × Int)} (h : chansP n cs = true) (hnm : n ≤ m) : chansP m cs = true := by
  obtain ⟨h1, h2, h3⟩ := chans_split h
  rw [chans_yes h1 (fun k hk => by have := ch_lev h2 hk; omega)]
  exact h3
theorem chans_snoc {n : Int} {cs : List (ByteArray × Int)} {x : ByteArray} {l : Int} (h : chansP n cs = true) (hp : pnameB x = true) (hc : chanI cs x < 0) (h32 : cs.length ≠ 32) (h0 : 0 ≤ l) (h1 : l < n) : chansP n (cs ++ [(x, l)]) = true := by
  obtain ⟨h4, h2, h3⟩ := chans_split h
  rw [chans_yes (by rw [List.length_append, List.length_singleton]; omega) (fun k hk => ?_)]
  · rw [List.map_append]
    exact names_snoc h3 hp (by rw [← chan_level]; exact hc)
  · rw [List.length_append, List.length_singleton] at hk
    by_cases e : k < cs.length
    · have e2 : chAt (cs ++ [(x, l)]) k = chAt cs k := by unfold chAt; rw [List.getElem?_append_left e]
      rw [e2]; exact ch_lev h2 e
    · obtain rfl : k = cs.length := by omega
      have e2 : chAt (cs ++ [(x, l)]) cs.length = (x, l) := by unfold chAt; rw [List.getElem?_append_right (Nat.le_refl _), Nat.sub_self]; rfl
      rw [e2]; exact ⟨h0, h1⟩
theorem ite_R {R : PSt → Prop} {c : Prop} [Decidable c] {a b : PSt × Int} (h1 : R a.1) (h2 : ¬ c → R b.1) : R (if c then a else b).1 := by
  split
  · exact h1
  · exact h2 ‹_›
theorem doP_R (st : PSt) (ws : List ByteArray) (h : RInv st) : RInv (doP st ws).1 := by
  obtain ⟨hn, hL, hI, hO, hD0, hD1⟩ := h
  have h : RInv st := ⟨hn, hL, hI, hO, hD0, hD1⟩
  unfold doP
  refine ite_R h fun _ => ite_R h fun _ => ?_
  split
  · unfold levelP
    refine ite_R h fun _ => ite_R h fun a1 => ite_R h fun a2 => ite_R h fun a3 => ⟨names_snoc hn (by simpa using a1) (by omega), by simp; omega, ?_, ?_, hD0, hD1⟩
    · exact chans_more hI (by simp; omega)
    · exact chans_more hO (by simp; omega)
  · split
    · unfold flowP
      exact ite_R h fun _ => ite_R h fun _ => ite_R h fun _ => ⟨hn, hL, hI, hO, hD0, hD1⟩
    · split
      · unfold chanIP
        refine ite_R h fun _ => ite_R h fun a1 => ite_R h fun a2 => ite_R h fun a3 => ite_R h fun a4 => ⟨hn, hL, ?_, hO, hD0, hD1⟩
        exact chans_snoc hI (by simpa using a1) (by omega) a4 (by omega) (level_range st.L _).2
      · split
        · unfold chanOP
          refine ite_R h fun _ => ite_R h fun a1 => ite_R h fun a2 => ite_R h fun a3 => ite_R h fun a4 => ⟨hn, hL, hI, ?_, hD0, hD1⟩
          exact chans_snoc hO (by simpa using a1) (by omega) a4 (by omega) (level_range st.L _).2
        · split
          · unfold depthP
            refine ite_R h fun _ => ?_
            split
            · exact h
            · rename_i k hk
              exact ite_R h fun _ => ite_R h fun a => ⟨hn, hL, hI, hO, (show 0 ≤ k by omega), (show k ≤ 64 by omega)⟩
          · exact h
theorem readP_R : ∀ (ls : List ByteArray) (a : Int) (st : PSt), RInv st → RInv (readP ls a st).1
  | [], _, st, h => h
  | l :: ls, a, st, h => by
    unfold readP
    split
    · exact doP_R st _ h
    · exact readP_R ls _ _ (doP_R st _ h)
theorem st06_R : RInv st06 := ⟨rfl, by decide, rfl, rfl, by decide, by decide⟩
/-- what is read may be; beside an error nothing is read -/
theorem parse_right {s : ByteArray} {st : PSt} {S : List Int} {a e : Int} (h : ParseE s st S a e) : (e = 0 ∧ rightP st S = true ∧ Wide S) ∨ (e ≠ 0 ∧ st = st06 ∧ S = []) := by
  unfold ParseE at h
  by_cases hs : 65536 < s.size
  · rw [if_pos hs] at h
    exact .inr ⟨by omega, h.1, h.2.1⟩
  rw [if_neg hs] at h
  by_cases hb : 0 ≤ badI s
  · rw [if_pos hb] at h
    exact .inr ⟨by omega, h.1, h.2.1⟩
  rw [if_neg hb] at h
  by_cases hc : (readP (linesB s) 0 st06).2.2 ≠ 0
  · rw [if_pos hc] at h
    exact .inr ⟨by omega, h.1, h.2.1⟩
  rw [if_neg hc] at h
  have hR := readP_R (linesB s) 0 st06 st06_R
  obtain ⟨k, hf, ⟨h1, h2, _, h4⟩ | ⟨h0, h2, h3, _, h4⟩⟩ := h
  · refine .inl ⟨h4, ?_⟩
    rw [← h2] at hf hR
    subst h1
    rcases hf with ⟨_, h5⟩ | ⟨hne, T, hT, ⟨hr, rfl, _⟩ | ⟨_, h5⟩⟩
    · omega
    · obtain ⟨hn, hL, hI, hO, hD0, hD1⟩ := hR
      refine ⟨?_, hT.2.1⟩
      have hD : 1 ≤ st.D ∧ st.D ≤ 64 := by
        have : ¬ st.D = 0 := fun e => hne (.inr e)
        omega
      unfold rightP
      rw [decide_eq_true hD, decide_eq_true hT.1, hr, hn, hI, hO]; rfl
    · omega
  · exact .inr ⟨by omega, h3, h2⟩
/-- the texts of a policy that may be are short -/
theorem right_short {st : PSt} {S : List Int} (h : rightP st S = true) : (∀ j, j < st.L.length → (wd6 st.L j).size ≤ 140737488351232) ∧ (∀ j, j < st.I.length → (chAt st.I j).1.size ≤ 140737488351232) ∧ ∀ j, j < st.O.length → (chAt st.O j).1.size ≤ 140737488351232 := by
  obtain ⟨_, _, _, hn, hI, hO⟩ := rightP_parts h
  have hc : ∀ (cs : List (ByteArray × Int)), chansP st.L.length cs = true → ∀ j, j < cs.length → (chAt cs j).1.size ≤ 140737488351232 := by
    intro cs hc j hj
    obtain ⟨_, _, hnn⟩ := chans_split hc
    have hp := (names_all hnn j (by rw [List.length_map]; exact hj)).1
    rw [ch_name hj] at hp
    have := name_size hp
    simp at this
    omega
  refine ⟨fun j hj => ?_, hc _ hI, hc _ hO⟩
  have := name_size (names_all hn j hj).1
  simp at this
  omega
end Go.Proofs.YthjfgfgkbfhdfaaGreatDoor
