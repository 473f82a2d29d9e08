import Derived.Test.YthjfgfgkbfhdfaaGreatDoorPolW
import Derived.KernelRfl
set_option linter.unusedSimpArgs false
set_option linter.unusedVariables false
/-! policy: the chapter's examples -/
namespace Go.Proofs.YthjfgfgkbfhdfaaGreatDoor
open Go.RowKit

/-- the first example, and the second text -/
def ex6 : ByteArray := ⟨#[108, 101, 118, 101, 108, 32, 108, 111, 119, 10, 108, 101, 118, 101, 108, 32, 104, 105, 103, 104, 10, 102, 108, 111, 119, 32, 108, 111, 119, 32, 104, 105, 103, 104, 10, 105, 110, 112, 117, 116, 32, 107, 101, 121, 32, 104, 105, 103, 104, 10, 111, 117, 116, 112, 117, 116, 32, 110, 101, 116, 32, 108, 111, 119, 10, 100, 101, 112, 116, 104, 32, 56]⟩
def ex7 : ByteArray := ⟨#[108, 101, 118, 101, 108, 32, 108, 111, 119, 10, 32, 105, 110, 112, 117, 116, 32, 107, 101, 121, 32, 104, 105, 103, 104]⟩
def nLow : ByteArray := ⟨#[108, 111, 119]⟩
def nHigh : ByteArray := ⟨#[104, 105, 103, 104]⟩
def nKey : ByteArray := ⟨#[107, 101, 121]⟩
def nNet : ByteArray := ⟨#[110, 101, 116]⟩
theorem ex6_words : (linesB ex6).map wordsB = [[wLevel, nLow], [wLevel, nHigh], [wFlow, nLow, nHigh], [wInput, nKey, nHigh], [wOutput, nNet, nLow], [wDepth, ⟨#[56]⟩]] := by decide +kernel
theorem ex6_lines : linesB ex6 = [⟨#[108, 101, 118, 101, 108, 32, 108, 111, 119]⟩, ⟨#[108, 101, 118, 101, 108, 32, 104, 105, 103, 104]⟩, ⟨#[102, 108, 111, 119, 32, 108, 111, 119, 32, 104, 105, 103, 104]⟩, ⟨#[105, 110, 112, 117, 116, 32, 107, 101, 121, 32, 104, 105, 103, 104]⟩, ⟨#[111, 117, 116, 112, 117, 116, 32, 110, 101, 116, 32, 108, 111, 119]⟩, ⟨#[100, 101, 112, 116, 104, 32, 56]⟩] := by decide +kernel
theorem ex7_lines : linesB ex7 = [⟨#[108, 101, 118, 101, 108, 32, 108, 111, 119]⟩, ⟨#[32, 105, 110, 112, 117, 116, 32, 107, 101, 121, 32, 104, 105, 103, 104]⟩] := by decide +kernel
theorem s1 : doP st06 [wLevel, nLow] = (⟨[nLow], [], [], 0, []⟩, 0) := by kernel_rfl
theorem s2 : doP ⟨[nLow], [], [], 0, []⟩ [wLevel, nHigh] = (⟨[nLow, nHigh], [], [], 0, []⟩, 0) := by kernel_rfl
theorem s3 : doP ⟨[nLow, nHigh], [], [], 0, []⟩ [wFlow, nLow, nHigh] = (⟨[nLow, nHigh], [], [], 0, [(0, 1)]⟩, 0) := by kernel_rfl
theorem s4 : doP ⟨[nLow, nHigh], [], [], 0, [(0, 1)]⟩ [wInput, nKey, nHigh] = (⟨[nLow, nHigh], [(nKey, 1)], [], 0, [(0, 1)]⟩, 0) := by kernel_rfl
theorem s5 : doP ⟨[nLow, nHigh], [(nKey, 1)], [], 0, [(0, 1)]⟩ [wOutput, nNet, nLow] = (⟨[nLow, nHigh], [(nKey, 1)], [(nNet, 0)], 0, [(0, 1)]⟩, 0) := by kernel_rfl
theorem num8 : num 8 = ⟨#[56]⟩ := by
  apply ByteArray.ext
  rw [← Array.toList_inj, num_list, show (8 : Int) = ((8 : Nat) : Int) from rfl, Lib.itoa_nonneg, Lib.decDigits, dif_pos (by decide)]
  rfl
theorem s6 : doP ⟨[nLow, nHigh], [(nKey, 1)], [(nNet, 0)], 0, [(0, 1)]⟩ [wDepth, ⟨#[56]⟩] = (⟨[nLow, nHigh], [(nKey, 1)], [(nNet, 0)], 8, [(0, 1)]⟩, 0) := by
  have h : doP ⟨[nLow, nHigh], [(nKey, 1)], [(nNet, 0)], 0, [(0, 1)]⟩ [wDepth, ⟨#[56]⟩] = depthP ⟨[nLow, nHigh], [(nKey, 1)], [(nNet, 0)], 0, [(0, 1)]⟩ [wDepth, ⟨#[56]⟩] := by kernel_rfl
  have hn : numO ⟨#[56]⟩ = some 8 := by rw [← num8]; exact numO_num (by decide) (by decide)
  rw [h]
  unfold depthP
  rw [if_neg (by decide), show wd6 [wDepth, ⟨#[56]⟩] 1 = ⟨#[56]⟩ from rfl, hn]
  rfl
theorem t2 : doP ⟨[nLow], [], [], 0, []⟩ [wInput, nKey, nHigh] = (⟨[nLow], [], [], 0, []⟩, 10) := by kernel_rfl

theorem ex6_read : readP (linesB ex6) 0 st06 = (⟨[nLow, nHigh], [(nKey, 1)], [(nNet, 0)], 8, [(0, 1)]⟩, 0, 0) := by
  have hw := ex6_words
  rw [ex6_lines] at hw ⊢
  simp only [List.map_cons, List.map_nil, List.cons.injEq, and_true] at hw
  obtain ⟨h1, h2, h3, h4, h5, h6⟩ := hw
  simp only [readP, h1, h2, h3, h4, h5, h6, s1, s2, s3, s4, s5, s6, ne_eq, not_true_eq_false, if_false]
theorem ex7_read : (readP (linesB ex7) 0 st06).2 = (11, 10) := by
  have hw : (linesB ex7).map wordsB = [[wLevel, nLow], [wInput, nKey, nHigh]] := by decide +kernel
  rw [ex7_lines] at hw ⊢
  simp only [List.map_cons, List.map_nil, List.cons.injEq, and_true] at hw
  obtain ⟨h1, h2⟩ := hw
  simp only [readP, h1, h2, s1, t2, ne_eq, not_true_eq_false, if_false, wd6]
  rfl
def up6 : List Int := [3, 2]
theorem up6_wide : Wide up6 := by
  intro x hx
  simp [up6] at hx
  omega
theorem up6_close : LL.IsClose 2 (toPrs [(0, 1)]) up6 := by
  refine LL.close_of ⟨rfl, up6_wide, fun i k hi e => ?_⟩ ⟨by decide +kernel, by decide +kernel⟩ (by unfold LL.Closed; decide +kernel)
  have hk : k < 64 := by
    apply Classical.byContradiction; intro h
    unfold LL.ab at e
    rw [hasB_out _ _ h] at e
    cases e
  have key : (List.range 2).all (fun i => (List.range 64).all fun k => !LL.ab up6 i k || decide ((i, k) ∈ [(0, 0), (0, 1), (1, 1)])) = true := by decide +kernel
  have hm := List.all_eq_true.1 (List.all_eq_true.1 key i (List.mem_range.2 hi)) k (List.mem_range.2 hk)
  rw [e, Bool.not_true, Bool.false_or, decide_eq_true_eq] at hm
  simp only [List.mem_cons, List.mem_nil_iff, or_false, Prod.mk.injEq] at hm
  rcases hm with ⟨rfl, rfl⟩ | ⟨rfl, rfl⟩ | ⟨rfl, rfl⟩
  · exact ⟨by omega, .refl⟩
  · exact ⟨by omega, .one (by decide)⟩
  · exact ⟨by omega, .refl⟩
theorem ex6_parse {st : PSt} {S : List Int} {a e : Int} (h : ParseE ex6 st S a e) : e = 0 ∧ st = ⟨[nLow, nHigh], [(nKey, 1)], [(nNet, 0)], 8, [(0, 1)]⟩ := by
  unfold ParseE at h
  rw [if_neg (by decide), if_neg (by decide +kernel), ex6_read, if_neg (by decide)] at h
  obtain ⟨k, hf, ⟨_, h1, _, h2⟩ | ⟨hk, _⟩⟩ := h
  · exact ⟨h2, h1⟩
  · rcases hf with ⟨h0, _⟩ | ⟨_, T, hT, ⟨_, _, h3⟩ | ⟨h3, _⟩⟩
    · exact absurd h0 (by decide)
    · exact absurd h3 hk
    · rw [LL.close_one hT up6_close] at h3
      exact absurd h3 (by decide +kernel)
theorem ex7_parse {st : PSt} {S : List Int} {a e : Int} (h : ParseE ex7 st S a e) : e = 10 ∧ a = 11 := by
  unfold ParseE at h
  rw [if_neg (by decide), if_neg (by decide +kernel), ex7_read, if_pos (by decide)] at h
  exact ⟨h.2.2.2, h.2.2.1⟩

set_option maxRecDepth 100000 in
set_option maxHeartbeats 6400000 in
theorem awake6_any (w : World) (hT : Go.Lib.Utf8Tabs 1 2 w) (hE : Errs w) (hP : Pow w) (hM : MaxL w) (hTz : Tz w) :
    Calls Tryz.prog 11 #[] w fun e w' => e = .returned (.bool true) ∧ Below w.heap.size w w' := by
  have HT := Lib.hid hT
  have HE := Lib.hid hE
  have HPw := Lib.hid hP
  have HM := Lib.hid hM
  have HTz := Lib.hid hTz
  clear hT hE hP hM hTz
  go_enter Tryz.func11, Tryz.ntmps11
  go_wp2_with fail
  refine (parse6_any ex6 _ (by decide) HT.out HE.out HPw.out HM.out HTz.out).mono ?_
  rintro e w1 ⟨v, st, S, a, k, rfl, ⟨vL, vU, vI, vO, rfl, hL, hU, hI, hO⟩, hp, hb1⟩
  obtain ⟨rfl, rfl⟩ := ex6_parse hp
  clear hp
  obtain ⟨aL, cL, rfl⟩ := hL.form
  obtain ⟨aU, cU, rfl⟩ := hU.form
  obtain ⟨aO, cO, rfl⟩ := hO.form
  have hI2 : ∃ b off cap, vI = .slice (some ⟨b, off, none⟩) 1 cap ∧ b < w1.heap.size ∧ w1.cell? ⟨b, off + 1, none⟩ = some (.int .i64 1) := by
    rcases hI with ⟨_, h⟩ | ⟨b, off, cap, h1, h2, _, h3⟩
    · simp at h
    · exact ⟨b, off, cap, h1, h2, by have := (h3 0 (by decide)).2; simpa using this⟩
  obtain ⟨bI, oI, cI, rfl, hbI, hcI⟩ := hI2
  clear hL hU hI hO
  have hbW : Below w.heap.size w (w1.alloc (.cells #[.slice aL 2 cL, .slice aU S.length cU, .slice (some ⟨bI, oI, none⟩) 1 cI, .slice aO 1 cO, .int .i64 8] 26)) := hb1.alloc hb1.size _
  have hgW : (w1.alloc (.cells #[.slice aL 2 cL, .slice aU S.length cU, .slice (some ⟨bI, oI, none⟩) 1 cI, .slice aO 1 cO, .int .i64 8] 26)).heap[w1.heap.size]? = some (.cells #[.slice aL 2 cL, .slice aU S.length cU, .slice (some ⟨bI, oI, none⟩) 1 cI, .slice aO 1 cO, .int .i64 8] 26) := by
    show (w1.heap.push _)[w1.heap.size]? = _; simp
  have hcW := (World.cell?_of_block (a := ⟨bI, oI + 1, none⟩) (Below.heap_alloc w1 (.cells #[.slice aL 2 cL, .slice aU S.length cU, .slice (some ⟨bI, oI, none⟩) 1 cI, .slice aO 1 cO, .int .i64 8] 26) bI hbI)).trans hcI
  have hzW : w1.heap.size < (w1.alloc (.cells #[.slice aL 2 cL, .slice aU S.length cU, .slice (some ⟨bI, oI, none⟩) 1 cI, .slice aO 1 cO, .int .i64 8] 26)).heap.size := by simp
  have HBW := Lib.hid hbW
  have HGW := Lib.hid hgW
  have HCW := Lib.hid hcW
  clear hbW hgW hcW hcI
  go_wp2_with fail
  refine (parse6_any ex7 _ (by decide) (Utf8Tabs_below HT.out HBW.out) (HE.out.below HBW.out) (HPw.out.below HBW.out) (HM.out.below HBW.out) (HTz.out.on HBW.out)).mono ?_
  rintro e w2 ⟨v2, st2, S2, a2, k2, rfl, ⟨vL2, vU2, vI2, vO2, rfl, hL2, hU2, hI2, hO2⟩, hp2, hb2⟩
  obtain ⟨rfl, rfl⟩ := ex7_parse hp2
  have hg2 := (hb2.block w1.heap.size hzW).trans HGW.out
  have hc2 := (hb2.cell (p := ⟨bI, oI + 1, none⟩) (Nat.lt_trans hbI hzW)).trans HCW.out
  have HB2 := Lib.hid (bstep HBW.out hb2)
  have hz2 : w1.heap.size < w2.heap.size := Nat.lt_of_lt_of_le hzW hb2.size
  obtain ⟨aL2, cL2, rfl⟩ := hL2.form
  obtain ⟨aU2, cU2, rfl⟩ := hU2.form
  obtain ⟨aI2, cI2, rfl⟩ := hI2.form
  obtain ⟨aO2, cO2, rfl⟩ := hO2.form
  clear hp2 hL2 hU2 hI2 hO2 hb2 HGW HCW HT HE HPw HM HTz hzW
  obtain ⟨d0, _, d2, _, d4⟩ := block_cells hg2
  clear hg2
  have hlI : bI < w2.heap.size := Nat.lt_trans hbI hz2
  go_wp2_with fail
  go_ret
  exact ⟨rfl, HB2.out.alloc HB2.out.size _⟩
end Go.Proofs.YthjfgfgkbfhdfaaGreatDoor
