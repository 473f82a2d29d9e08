import Derived.Test.YtdkpnbjkehakjaaGreatDoorPolW
import Derived.KernelRfl
set_option linter.unusedSimpArgs false
set_option linter.unusedVariables false
/-! policy: the chapter's examples -/
namespace Go.Proofs.YtdkpnbjkehakjaaGreatDoor
open Go.RowKit

/-- the first example, and the second text -/
def ex6 : ByteArray := ⟨#[108, 101, 118, 101, 108, 32, 108, 111, 119, 10, 108, 101, 118, 101, 108, 32, 104, 105, 103, 104, 10, 102, 108, 111, 119, 32, 108, 111, 119, 32, 104, 105, 103, 104, 10, 105, 110, 112, 117, 116, 32, 107, 101, 121, 32, 104, 105, 103, 104, 10, 111, 117, 116, 112, 117, 116, 32, 110, 101, 116, 32, 108, 111, 119, 10, 100, 101, 112, 116, 104, 32, 56]⟩
def ex7 : ByteArray := ⟨#[108, 101, 118, 101, 108, 32, 108, 111, 119, 10, 32, 105, 110, 112, 117, 116, 32, 107, 101, 121, 32, 104, 105, 103, 104]⟩
def nLow : ByteArray := ⟨#[108, 111, 119]⟩
def nHigh : ByteArray := ⟨#[104, 105, 103, 104]⟩
def nKey : ByteArray := ⟨#[107, 101, 121]⟩
def nNet : ByteArray := ⟨#[110, 101, 116]⟩
theorem ex6_words : (linesB ex6).map wordsB = [[wLevel, nLow], [wLevel, nHigh], [wFlow, nLow, nHigh], [wInput, nKey, nHigh], [wOutput, nNet, nLow], [wDepth, ⟨#[56]⟩]] := by decide +kernel
theorem ex6_lines : linesB ex6 = [⟨#[108, 101, 118, 101, 108, 32, 108, 111, 119]⟩, ⟨#[108, 101, 118, 101, 108, 32, 104, 105, 103, 104]⟩, ⟨#[102, 108, 111, 119, 32, 108, 111, 119, 32, 104, 105, 103, 104]⟩, ⟨#[105, 110, 112, 117, 116, 32, 107, 101, 121, 32, 104, 105, 103, 104]⟩, ⟨#[111, 117, 116, 112, 117, 116, 32, 110, 101, 116, 32, 108, 111, 119]⟩, ⟨#[100, 101, 112, 116, 104, 32, 56]⟩] := by decide +kernel
theorem ex7_lines : linesB ex7 = [⟨#[108, 101, 118, 101, 108, 32, 108, 111, 119]⟩, ⟨#[32, 105, 110, 112, 117, 116, 32, 107, 101, 121, 32, 104, 105, 103, 104]⟩] := by decide +kernel
theorem s1 : doP st06 [wLevel, nLow] = (⟨[nLow], [], [], 0, []⟩, 0) := by kernel_rfl
theorem s2 : doP ⟨[nLow], [], [], 0, []⟩ [wLevel, nHigh] = (⟨[nLow, nHigh], [], [], 0, []⟩, 0) := by kernel_rfl
theorem s3 : doP ⟨[nLow, nHigh], [], [], 0, []⟩ [wFlow, nLow, nHigh] = (⟨[nLow, nHigh], [], [], 0, [(0, 1)]⟩, 0) := by kernel_rfl
theorem s4 : doP ⟨[nLow, nHigh], [], [], 0, [(0, 1)]⟩ [wInput, nKey, nHigh] = (⟨[nLow, nHigh], [(nKey, 1)], [], 0, [(0, 1)]⟩, 0) := by kernel_rfl
theorem s5 : doP ⟨[nLow, nHigh], [(nKey, 1)], [], 0, [(0, 1)]⟩ [wOutput, nNet, nLow] = (⟨[nLow, nHigh], [(nKey, 1)], [(nNet, 0)], 0, [(0, 1)]⟩, 0) := by kernel_rfl
theorem num8 : num 8 = ⟨#[56]⟩ := by
  apply ByteArray.ext
  rw [← Array.toList_inj, num_list, show (8 : Int) = ((8 : Nat) : Int) from rfl, Lib.itoa_nonneg, Lib.decDigits, dif_pos (by decide)]
  rfl
theorem s6 : doP ⟨[nLow, nHigh], [(nKey, 1)], [(nNet, 0)], 0, [(0, 1)]⟩ [wDepth, ⟨#[56]⟩] = (⟨[nLow, nHigh], [(nKey, 1)], [(nNet, 0)], 8, [(0, 1)]⟩, 0) := by
  have h : doP ⟨[nLow, nHigh], [(nKey, 1)], [(nNet, 0)], 0, [(0, 1)]⟩ [wDepth, ⟨#[56]⟩] = depthP ⟨[nLow, nHigh], [(nKey, 1)], [(nNet, 0)], 0, [(0, 1)]⟩ [wDepth, ⟨#[56]⟩] := by kernel_rfl
  have hn : numO ⟨#[56]⟩ = some 8 := by rw [← num8]; exact numO_num (by decide) (by decide)
  rw [h]
  unfold depthP
  rw [if_neg (by decide), show wd6 [wDepth, ⟨#[56]⟩] 1 = ⟨#[56]⟩ from rfl, hn]
  rfl
theorem t2 : doP ⟨[nLow], [], [], 0, []⟩ [wInput, nKey, nHigh] = (⟨[nLow], [], [], 0, []⟩, 10) := by kernel_rfl

theorem ex6_read : readP (linesB ex6) 0 st06 = (⟨[nLow, nHigh], [(nKey, 1)], [(nNet, 0)], 8, [(0, 1)]⟩, 0, 0) := by
  have hw := ex6_words
  rw [ex6_lines] at hw ⊢
  simp only [List.map_cons, List.map_nil, List.cons.injEq, and_true] at hw
  obtain ⟨h1, h2, h3, h4, h5, h6⟩ := hw
  simp only [readP, h1, h2, h3, h4, h5, h6, s1, s2, s3, s4, s5, s6, ne_eq, not_true_eq_false, if_false]
theorem ex7_read : (readP (linesB ex7) 0 st06).2 = (11, 10) := by
  have hw : (linesB ex7).map wordsB = [[wLevel, nLow], [wInput, nKey, nHigh]] := by decide +kernel
  rw [ex7_lines] at hw ⊢
  simp only [List.map_cons, List.map_nil, List.cons.injEq, and_true] at hw
  obtain ⟨h1, h2⟩ := hw
  simp only [readP, h1, h2, s1, t2, ne_eq, not_true_eq_false, if_false, wd6]
  rfl
def up6 : List Int := [3, 2]
theorem up6_wide : Wide up6 := by
  intro x hx
  simp [up6] at hx
  omega
theorem up6_close : LL.IsClose 2 (toPrs [(0, 1)]) up6 := by
  refine LL.close_of ⟨rfl, up6_wide, fun i k hi e => ?_⟩ ⟨by decide +kernel, by decide +kernel⟩ (by unfold LL.Closed; decide +kernel)
  have hk : k < 64 := by
    apply Classical.byContradiction; intro h
    unfold LL.ab at e
    rw [hasB_out _ _ h] at e
    cases e
  have key : (List.range 2).all (fun i => (List.range 64).all fun k => !LL.ab up6 i k || decide ((i, k) ∈ [(0, 0), (0, 1), (1, 1)])) = true := by decide +kernel
  have hm := List.all_eq_true.1 (List.all_eq_true.1 key i (List.mem_range.2 hi)) k (List.mem_range.2 hk)
  rw [e, Bool.not_true, Bool.false_or, decide_eq_true_eq] at hm
  simp only [List.mem_cons, List.mem_nil_iff, or_false, Prod.mk.injEq] at hm
  rcases hm with ⟨rfl, rfl⟩ | ⟨rfl, rfl⟩ | ⟨rfl, rfl⟩
  · exact ⟨by omega, .refl⟩
  · exact ⟨by omega, .one (by decide)⟩
  · exact ⟨by omega, .refl⟩
theorem ex6_parse {st : PSt} {S : List Int} {a e : Int} (h : ParseE ex6 st S a e) : e = 0 ∧ st = ⟨[nLow, nHigh], [(nKey, 1)], [(nNet, 0)], 8, [(0, 1)]⟩ := by
  unfold ParseE at h
  rw [if_neg (by decide), if_neg (by decide +kernel), ex6_read, if_neg (by decide)] at h
  obtain ⟨k, hf, ⟨_, h1, _, h2⟩ | ⟨hk, _⟩⟩ := h
  · exact ⟨h2, h1⟩
  · rcases hf with ⟨h0, _⟩ | ⟨_, T, hT, ⟨_, _, h3⟩ | ⟨h3, _⟩⟩
    · exact absurd h0 (by decide)
    · exact absurd h3 hk
    · rw [LL.close_one hT up6_close] at h3
      exact absurd h3 (by decide +kernel)
theorem ex7_parse {st : PSt} {S : List Int} {a e : Int} (h : ParseE ex7 st S a e) : e = 10 ∧ a = 11 := by
  unfold ParseE at h
  rw [if_neg (by decide), if_neg (by decide +kernel), ex7_read, if_pos (by decide)] at h
  exact ⟨h.2.2.2, h.2.2.1⟩

end Go.Proofs.YtdkpnbjkehakjaaGreatDoor
