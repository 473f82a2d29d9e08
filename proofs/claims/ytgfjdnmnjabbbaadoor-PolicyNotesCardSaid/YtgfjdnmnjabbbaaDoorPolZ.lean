import Derived.Test.YtgfjdnmnjabbbaaDoorPolY
import Derived.Test.YtgfjdnmnjabbbaaDoorPlatY
set_option linter.unusedSimpArgs false
set_option linter.unusedVariables false
/-! policy: finish -/
namespace Go.Proofs.YtgfjdnmnjabbbaaDoor
open Go.RowKit

/-- flows are between levels -/
def FlowsOk (st : PSt) : Prop := ∀ p ∈ st.F, pairOk st.L.length p = true
theorem pairOk_more {n m : Nat} {p : Int × Int} (h : pairOk n p = true) (hn : n ≤ m) : pairOk m p = true := by
  unfold pairOk at h ⊢
  simp only [Bool.and_eq_true, decide_eq_true_eq] at h ⊢
  omega
theorem ite_ok {c : Prop} [Decidable c] {a b : PSt × Int} (h1 : FlowsOk a.1) (h2 : ¬ c → FlowsOk b.1) : FlowsOk (if c then a else b).1 := by
  split
  · exact h1
  · exact h2 ‹_›
theorem doP_ok (st : PSt) (ws : List ByteArray) (h : FlowsOk st) : FlowsOk (doP st ws).1 := by
  unfold doP
  refine ite_ok h fun _ => ite_ok h fun _ => ?_
  split
  · unfold levelP
    refine ite_ok h fun _ => ite_ok h fun _ => ite_ok h fun _ => ite_ok h fun _ => ?_
    intro p hp
    exact pairOk_more (h p hp) (by simp)
  · split
    · unfold flowP
      refine ite_ok h fun _ => ite_ok h fun h1 => ite_ok h fun h2 => ?_
      intro p hp
      rcases List.mem_append.1 hp with hp | hp
      · exact h p hp
      · simp at hp
        subst hp
        have r1 := level_range st.L (wd6 ws 1)
        have r2 := level_range st.L (wd6 ws 2)
        unfold pairOk
        simp only [Bool.and_eq_true, decide_eq_true_eq]
        show (0 ≤ levelI st.L (wd6 ws 1) ∧ levelI st.L (wd6 ws 1) < (st.L.length : Int)) ∧ 0 ≤ levelI st.L (wd6 ws 2) ∧ levelI st.L (wd6 ws 2) < (st.L.length : Int)
        omega
    · split
      · unfold chanIP
        exact ite_ok h fun _ => ite_ok h fun _ => ite_ok h fun _ => ite_ok h fun _ => ite_ok h fun _ => h
      · split
        · unfold chanOP
          exact ite_ok h fun _ => ite_ok h fun _ => ite_ok h fun _ => ite_ok h fun _ => ite_ok h fun _ => h
        · split
          · unfold depthP
            refine ite_ok h fun _ => ?_
            split
            · exact h
            · exact ite_ok h fun _ => ite_ok h fun _ => h
          · exact h
theorem readP_ok : ∀ (ls : List ByteArray) (a : Int) (st : PSt), FlowsOk st → FlowsOk (readP ls a st).1
  | [], _, st, h => h
  | l :: ls, a, st, h => by
    unfold readP
    split
    · exact doP_ok st _ h
    · exact readP_ok ls _ _ (doP_ok st _ h)
theorem readP_F : ∀ (ls : List ByteArray) (a : Int) (st : PSt), (readP ls a st).1.F.length ≤ st.F.length + ls.length
  | [], _, st => Nat.le_refl _
  | l :: ls, a, st => by
    have h := doP_F st (wordsB l)
    unfold readP
    split
    · simp; omega
    · have := readP_F ls (a + (l.size + 1)) (doP st (wordsB l)).1
      simp; omega

/-- what finish finds -/
def FinE (st : PSt) (S : List Int) (k : Int) : Prop :=
  ((st.L.length = 0 ∨ st.D = 0) ∧ k = 4) ∨ (¬ (st.L.length = 0 ∨ st.D = 0) ∧ ∃ T, LL.IsClose st.L.length (toPrs st.F) T ∧ ((LL.rightB T = true ∧ S = T ∧ k = 0) ∨ (LL.rightB T = false ∧ k = 11)))
def FinP (wB : World) (r : Nat) (w : World) (st : PSt) (e : Ending) (w' : World) : Prop :=
  ∃ vL vU vI vO vF S k, e = .returned (.int .i64 k) ∧ w'.heap[r]? = some (rObj vL vU vI vO st.D vF) ∧ w'.ownsRow wB.heap.size 9 1 vL st.L.length (st.L.map Value.string) ∧ Nums .u64 w'.heap.size w' vU S ∧ Wide S ∧
    w'.ownsRow wB.heap.size 43 2 vI st.I.length (cellsC st.I) ∧ w'.ownsRow wB.heap.size 43 2 vO st.O.length (cellsC st.O) ∧
    Below wB.heap.size wB w' ∧ (∀ q, q < w.heap.size → q ≠ r → w'.heap[q]? = w.heap[q]?) ∧ w.heap.size ≤ w'.heap.size ∧ FinE st S k
theorem prs_of_rowF {W : World} {base : Nat} {e : TypeId} {v : Value} {l : List (Int × Int)} (h : W.ownsRow base e 2 v l.length (cellsF l)) : PrsI W.heap.size W v l := by
  have hlt := h.lt
  obtain ⟨_, ⟨rfl, h0⟩ | ⟨g, cap, cur, rfl, hb, hg, hn, hm, hs, hx⟩⟩ := h
  · exact .inl ⟨⟨_, _, rfl⟩, List.length_eq_zero_iff.1 h0⟩
  · refine .inr ⟨g, 0, cap, rfl, (hlt g rfl).2, hn, fun j hj => ?_⟩
    have hg2 := cellsF_get l j
    rw [List.getElem?_eq_getElem hj] at hg2
    have t1 : (cur.toList.take (l.length * 2))[j * 2]? = (cellsF l)[j * 2]? := by rw [hx]
    have t2 : (cur.toList.take (l.length * 2))[j * 2 + 1]? = (cellsF l)[j * 2 + 1]? := by rw [hx]
    rw [List.getElem?_take_of_lt (by omega), hg2.1] at t1
    rw [List.getElem?_take_of_lt (by omega), hg2.2] at t2
    rw [List.getElem?_eq_getElem hj]
    simp only [World.cell?, hg, Nat.zero_add]
    exact ⟨by simpa using t1, by simpa using t2⟩
end Go.Proofs.YtgfjdnmnjabbbaaDoor
