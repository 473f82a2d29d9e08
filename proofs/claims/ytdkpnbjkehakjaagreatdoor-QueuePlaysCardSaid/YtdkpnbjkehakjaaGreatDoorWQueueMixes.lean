import Derived.Test.YtdkpnbjkehakjaaGreatDoorQuL
import Derived.Test.YtdkpnbjkehakjaaGreatDoorQueA
import Derived.Test.YtdkpnbjkehakjaaGreatDoorQuE
import Derived.Test.YtdkpnbjkehakjaaGreatDoorOpenQR
import Derived.Test.YtdkpnbjkehakjaaGreatDoorDoorU
import Derived.Test.YtdkpnbjkehakjaaGreatDoorDoorN
import Derived.Test.YtdkpnbjkehakjaaGreatDoorDoorZ
set_option linter.unusedSimpArgs false
set_option linter.unusedVariables false
/-! QueueMixes: the walk -/
namespace Go.Proofs.YtdkpnbjkehakjaaGreatDoor
open Go.RowKit
def mixL (st : PSt) (S : List Int) (lv : Int) (A C : List (List Int)) : List (List Int) := (List.range st.I.length).map (mixAt st S lv A C)
theorem mixL_at {st : PSt} {S : List Int} {lv : Int} {A C : List (List Int)} {j : Nat} (h : j < st.I.length) : rowAt (mixL st S lv A C) j = mixAt st S lv A C j := by
  unfold rowAt mixL
  rw [List.getElem?_map, List.getElem?_range h]; rfl
theorem mix_len {st : PSt} {S : List Int} {lv : Int} {A C : List (List Int)} (h : pairOkB st S lv A C = true) (j : Nat) : (mixAt st S lv A C j).length ≤ 4096 := by
  unfold mixAt
  split
  · exact (pair_rows h j).1
  · exact (pair_rows h j).2
theorem mixL_fill {st : PSt} {S : List Int} {lv : Int} {A C : List (List Int)} (h : pairOkB st S lv A C = true) : fillOk st.I.length (mixL st S lv A C) = true := by
  refine fill_yes (by simp [mixL]) fun j hj => ?_
  have hj' : j < st.I.length := by simpa [mixL] using hj
  rw [mixL_at hj']
  exact mix_len h j
theorem mixL_small {st : PSt} {S : List Int} {lv : Int} {A C : List (List Int)} (h : pairOkB st S lv A C = true) : Small (mixL st S lv A C) := by
  refine ⟨by have := pair_n h; simp [mixL]; omega, fun row hrow => ?_⟩
  obtain ⟨j, _, rfl⟩ := List.mem_map.1 hrow
  have := mix_len h j
  omega
theorem pair_parts {st : PSt} {S : List Int} {lv : Int} {A C : List (List Int)} (h : pairOkB st S lv A C = true) : rightP st S = true ∧ 0 ≤ lv ∧ lv < st.L.length ∧ fillOk st.I.length A = true ∧ fillOk st.I.length C = true := by
  unfold pairOkB lowsOk at h
  simp only [Bool.and_eq_true, decide_eq_true_eq] at h
  exact ⟨h.1.1.1, h.1.1.2, h.1.2, h.2.1, h.2.2⟩
theorem pair_of {st : PSt} {S : List Int} {lv : Int} {A C : List (List Int)} (h1 : rightP st S = true) (h2 : 0 ≤ lv) (h3 : lv < st.L.length) (h4 : fillOk st.I.length A = true) (h5 : fillOk st.I.length C = true) : pairOkB st S lv A C = true := by
  unfold pairOkB lowsOk
  rw [h1, h4, h5, decide_eq_true h2, decide_eq_true h3]; rfl
theorem mix_alike {st : PSt} {S : List Int} {q k : Nat} {A C : List (List Int)} (hw : Wide S) (h : pairOkB st S q A C = true) (hk : k < st.L.length) (hab : LL.ab S k q = true) : alikeB st S k A (mixL st S q A C) = true := by
  obtain ⟨h1, h2, h3, h4, h5⟩ := pair_parts h
  refine alike_yes (pair_of h1 (by omega) (by omega) h4 (mixL_fill h)) fun j hj => ?_
  cases hs : seenAt st S k j
  · rfl
  · obtain ⟨_, hSL, _, _, hr, hI, _⟩ := right_sizes h1
    have := hI j hj
    have hs2 : seenAt st S q j = true := LL.le_trans5 hr hw (by omega) (show LL.ab S (chAt st.I j).2.toNat k = true from hs) hab
    rw [mixL_at hj]
    unfold mixAt
    rw [hs2, if_pos rfl, decide_eq_true rfl]; rfl
theorem mix_pair {st : PSt} {S : List Int} {lv : Int} {A C : List (List Int)} (h : pairOkB st S lv A C = true) : pairOkB st S lv A (mixL st S lv A C) = true := by
  obtain ⟨h1, h2, h3, h4, h5⟩ := pair_parts h
  exact pair_of h1 h2 h3 h4 (mixL_fill h)
theorem mix_again {st : PSt} {S : List Int} {lv : Int} {A C : List (List Int)} : mixL st S lv A (mixL st S lv A C) = mixL st S lv A C := by
  refine List.map_congr_left fun j hj => ?_
  have hj' := List.mem_range.1 hj
  unfold mixAt
  split
  · rfl
  · rename_i hs
    rw [mixL_at hj']
    unfold mixAt
    rw [if_neg hs]
theorem obj10_cell {W0 W : World} {g : Nat} {c0 c1 c2 c3 c4 c5 c6 c7 c8 c9 : Value} {t : TypeId} (h : W0.heap[g]? = some (.cells #[c0, c1, c2, c3, c4, c5, c6, c7, c8, c9] t)) (hb : Below W0.heap.size W0 W) :
    W.cell? ⟨g, 0, none⟩ = some c0 ∧ W.cell? ⟨g, 1, none⟩ = some c1 ∧ W.cell? ⟨g, 2, none⟩ = some c2 ∧ W.cell? ⟨g, 3, none⟩ = some c3 ∧ W.cell? ⟨g, 4, none⟩ = some c4 ∧ W.cell? ⟨g, 5, none⟩ = some c5 ∧ W.cell? ⟨g, 6, none⟩ = some c6 ∧ W.cell? ⟨g, 7, none⟩ = some c7 ∧ W.cell? ⟨g, 8, none⟩ = some c8 ∧ W.cell? ⟨g, 9, none⟩ = some c9 := by
  have h' := (hb.block g (heap_some_lt h)).trans h
  refine ⟨?_, ?_, ?_, ?_, ?_, ?_, ?_, ?_, ?_, ?_⟩ <;> simp [World.cell?, h']

end Go.Proofs.YtdkpnbjkehakjaaGreatDoor

/-! QueueMixes: the listed variables -/
namespace Go.Proofs.YtdkpnbjkehakjaaGreatDoor
open Go.RowKit
theorem short6_of {st : PSt} (h : (∀ j, j < st.L.length → (wd6 st.L j).size ≤ 140737488351232) ∧ (∀ j, j < st.I.length → (chAt st.I j).1.size ≤ 140737488351232) ∧ ∀ j, j < st.O.length → (chAt st.O j).1.size ≤ 140737488351232) : Short6 st :=
  ⟨fun j hj => Nat.le_trans (h.1 j hj) (by decide), fun j hj => Nat.le_trans (h.2.1 j hj) (by decide), fun j hj => Nat.le_trans (h.2.2 j hj) (by decide)⟩
end Go.Proofs.YtdkpnbjkehakjaaGreatDoor
