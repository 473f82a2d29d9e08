import Derived.Test.YtdkpnbjkehakjaaGreatDoorQuL
import Derived.Test.YtdkpnbjkehakjaaGreatDoorPolA
import Derived.KernelRfl
set_option linter.unusedSimpArgs false
set_option linter.unusedVariables false
/-! queue: the chapter's examples -/
namespace Go.Proofs.YtdkpnbjkehakjaaGreatDoor
open Go.RowKit
def st15 : PSt := ⟨[nLow, nHigh], [(nKey, 1)], [(nNet, 0)], 8, [(0, 1)]⟩
theorem ex6_up {st : PSt} {S : List Int} {a e : Int} (h : ParseE ex6 st S a e) : S = up6 := by
  unfold ParseE at h
  rw [if_neg (by decide), if_neg (by decide +kernel), ex6_read, if_neg (by decide)] at h
  obtain ⟨k, hf, h1⟩ := h
  rcases hf with ⟨h0, _⟩ | ⟨_, T, hT, ⟨_, h2, _⟩ | ⟨h3, _⟩⟩
  · exact absurd h0 (by decide)
  · rw [h2]; exact LL.close_one hT up6_close
  · rw [LL.close_one hT up6_close] at h3
    exact absurd h3 (by decide +kernel)
theorem right15 : rightP st15 up6 = true := by kernel_rfl
theorem fill15 : fillOk 1 [[7, 8]] = true := by decide
theorem new15 : (rightP st15 up6 && fillOk st15.I.length [[7, 8]]) = true := by rw [right15]; rfl
theorem alike15 : alikeB st15 up6 0 [[1]] [] = true := by
  have h1 : pairOkB st15 up6 0 [[1]] [] = true := by
    unfold pairOkB lowsOk
    rw [right15]; decide
  refine alike_yes h1 fun j hj => ?_
  obtain rfl : j = 0 := by
    have : st15.I.length = 1 := rfl
    omega
  have : seenAt st15 up6 0 0 = false := by unfold seenAt; decide +kernel
  rw [this]; rfl
/-- a row of rows, as it is laid -/
theorem graph_one {W : World} {b c : Nat} {xs : List Int} {l : List Value} (hb : W.heap[b]? = some (.cells (intsV xs).toArray 2)) (hc : W.heap[c]? = some (.cells #[.slice (some ⟨b, 0, none⟩) xs.length xs.length] 29)) : GraphM W.heap.size W (.slice (some ⟨c, 0, none⟩) 1 1) [xs] := by
  refine ⟨[.slice (some ⟨b, 0, none⟩) xs.length xs.length], .inr ⟨c, 0, 1, rfl, heap_some_lt hc, Nat.le_refl _, fun j u hj => ?_⟩, rfl, fun j hj => ?_⟩
  · match j, hj with
    | 0, hj => simp at hj; subst hj; simp [World.cell?, hc]
  · match j, hj with
    | 0, _ =>
      refine ⟨_, rfl, .inr ⟨b, 0, xs.length, by rw [intsV_len]; rfl, heap_some_lt hb, by rw [intsV_len]; exact Nat.le_refl _, fun k u hk => ?_⟩⟩
      simp only [World.cell?, hb, Nat.zero_add]
      simpa using hk

set_option maxRecDepth 100000 in
set_option maxHeartbeats 6400000 in
theorem awake15_any (w : World) (hT : Go.Lib.Utf8Tabs 0 1 w) (hE : Errs w) (hP : Pow w) (hM : MaxL w) (hTz : Tz w) :
    Calls Tryz.prog 8 #[] w fun e w' => e = .returned (.bool true) ∧ Below w.heap.size w w' := by
  have HT := Lib.hid hT
  have HE := Lib.hid hE
  have HPw := Lib.hid hP
  have HM := Lib.hid hM
  have HTz := Lib.hid hTz
  clear hT hE hP hM hTz
  go_enter Tryz.func8, Tryz.ntmps8
  go_wp2_with fail
  refine (parse6_any ex6 _ (by decide) HT.out HE.out HPw.out HM.out HTz.out).mono ?_
  rintro e w1 ⟨v, st, S, a, k, rfl, ⟨vL, vU, vI, vO, rfl, hL, hU, hI, hO⟩, hp, hb1⟩
  obtain rfl := ex6_up hp
  obtain ⟨rfl, rfl⟩ := ex6_parse hp
  clear hp
  have HB1 := Lib.hid hb1
  have HP1 := Lib.hid (show PolIn w1 vL vU vI vO st15 up6 from ⟨hL, hU, hI, hO, fun c e => by
    rcases hU with ⟨_, h⟩ | ⟨b, off, cap, h1, _⟩
    · cases h
    · rw [e] at h1
      (cases h1), by decide, by decide, by decide, by decide⟩)
  have HSH := Lib.hid (show Short6 st15 from ⟨by decide, by decide, by decide⟩)
  obtain ⟨aL, cL, rfl⟩ := hL.form
  obtain ⟨aU, cU, rfl⟩ := hU.form
  obtain ⟨aI, cI, rfl⟩ := hI.form
  obtain ⟨aO, cO, rfl⟩ := hO.form
  clear hL hU hI hO hb1
  go_wp2_with fail
  obtain ⟨W3, eW3⟩ : ∃ W3, W3 = ((w1.alloc (.cells #[.slice aL 2 cL, .slice aU up6.length cU, .slice aI 1 cI, .slice aO 1 cO, .int .i64 8] 26)).alloc (.cells #[.int .i64 7, .int .i64 8] 2)).alloc (.cells #[.slice (some ⟨w1.heap.size + 1, 0, none⟩) 2 2] 29) := ⟨_, rfl⟩
  have HB3 := Lib.hid (show Below w1.heap.size w1 W3 by rw [eW3]; exact (((Below.refl _ _).alloc (Nat.le_refl _) _).alloc (by simp) _).alloc (by simp; omega) _)
  have HO3 := Lib.hid (show W3.heap[w1.heap.size]? = some (.cells #[.slice aL 2 cL, .slice aU up6.length cU, .slice aI 1 cI, .slice aO 1 cO, .int .i64 8] 26) by
    rw [eW3, Below.heap_alloc _ _ _ (by simp; omega), Below.heap_alloc _ _ _ (by simp)]; exact new_block rfl rfl)
  have HG3 := Lib.hid (show GraphM W3.heap.size W3 (.slice (some ⟨w1.heap.size + 1 + 1, 0, none⟩) 1 1) [[7, 8]] from graph_one (b := w1.heap.size + 1) (l := []) (by rw [eW3, Below.heap_alloc _ _ _ (by simp)]; exact new_block rfl (by simp)) (by rw [eW3]; exact new_block rfl (by simp)))
  have HP3 := Lib.hid (HP1.out.below HB3.out)
  have HZ3 := Lib.hid ((HTz.out.on HB1.out).on HB3.out)
  have HBB := Lib.hid (QQ.step HB1.out HB3.out)
  rw [← eW3]
  clear eW3 HP1 HT HE HPw HM HTz
  refine (qnew_any _ _ _ _ st15 up6 _ [[7, 8]] W3 HP3.out up6_wide HZ3.out HSH.out HG3.out ⟨by decide, by decide⟩).mono ?_
  rintro e w4 ⟨hb4, ⟨_, kb, rb, vs, he, hkb, hbx, htb⟩ | ⟨h1, _⟩⟩
  case inr => rw [new15] at h1; cases h1
  subst he
  have HB4 := Lib.hid hb4
  have HX4 := Lib.hid (show BoxB w4 kb rb 1 1 2 (.slice none 0 0) from hbx)
  have HT4 := Lib.hid (show TabQ W3.heap.size w4 rb 1 vs (rowAt [[7, 8]]) from htb)
  clear hb4 hbx htb hkb
  go_wp2_with fail
  refine (take_any 0 w4 HX4.out HT4.out (by decide)).mono ?_
  intro e w5 h5
  unfold TakeE at h5
  rw [if_pos (by decide), if_neg (by decide)] at h5
  obtain ⟨he, hg5, hsz5, hbx5, vs5, ht5⟩ := h5
  have he' : e = .returned (.tuple #[.int .i64 7, .int .i64 0]) := he
  subst he'
  have HB5 := Lib.hid (HB4.out.grown hg5 HB4.out.size (fun k e => by cases e; exact HT4.out.base))
  have HX5 := Lib.hid hbx5
  have HT5 := Lib.hid ht5
  clear he hg5 hsz5 hbx5 ht5
  go_wp2_with fail
  refine (take_any 0 w5 HX5.out HT5.out (by decide)).mono ?_
  intro e w6 h6
  unfold TakeE at h6
  rw [if_pos (by decide), if_neg (by decide)] at h6
  obtain ⟨he, hg6, hsz6, hbx6, vs6, ht6⟩ := h6
  have he' : e = .returned (.tuple #[.int .i64 8, .int .i64 0]) := he
  subst he'
  have HB6 := Lib.hid (HB5.out.grown hg6 HB5.out.size (fun k e => by cases e; exact HT4.out.base))
  have HX6 := Lib.hid hbx6
  have HT6 := Lib.hid ht6
  clear he hg6 hsz6 hbx6 ht6
  go_wp2_with fail
  refine (take_any 0 w6 HX6.out HT6.out (by decide)).mono ?_
  intro e w7 h7
  unfold TakeE at h7
  rw [if_pos (by decide), if_pos (by decide)] at h7
  obtain ⟨rfl, hw7⟩ := h7
  have hw7' := hw7.symm
  clear hw7
  subst hw7'
  obtain ⟨p0, p1, p2, p3, p4⟩ := obj5_cell HO3.out HB6.out
  go_wp2_with fail
  obtain ⟨W8, eW8⟩ : ∃ W8, W8 = (w6.alloc (.cells #[.int .i64 1] 2)).alloc (.cells #[.slice (some ⟨w6.heap.size, 0, none⟩) 1 1] 29) := ⟨_, rfl⟩
  have HB8 := Lib.hid (show Below w6.heap.size w6 W8 by rw [eW8]; exact ((Below.refl _ _).alloc (Nat.le_refl _) _).alloc (by simp) _)
  have HG8 := Lib.hid (show GraphM W8.heap.size W8 (.slice (some ⟨w6.heap.size + 1, 0, none⟩) 1 1) [[1]] from graph_one (b := w6.heap.size) (l := []) (by rw [eW8, Below.heap_alloc _ _ _ (by simp)]; exact new_block rfl rfl) (by rw [eW8]; exact new_block rfl (by simp)))
  have HB38 := Lib.hid (HB6.out.trans (HB8.out.mono HB6.out.size))
  have HP8 := Lib.hid (HP3.out.below HB38.out)
  have HZ8 := Lib.hid (HZ3.out.on HB38.out)
  rw [← eW8]
  clear eW8 p0 p1 p2 p3 p4
  refine (alike_any _ _ _ _ st15 up6 0 _ _ [[1]] [] W8 HP8.out up6_wide HZ8.out HSH.out HG8.out ⟨[], cells_empty _ _ _ _ (fun _ => rfl), rfl, fun j hj => absurd hj (Nat.not_lt_zero _)⟩ ⟨by decide, by decide⟩ ⟨by decide, by decide⟩).mono ?_
  rintro e w9 ⟨rfl, hb9⟩
  rw [alike15]
  have HB9 := Lib.hid (QQ.step (QQ.step HBB.out HB38.out) hb9)
  clear hb9
  go_wp2_with fail
  go_ret
  exact ⟨rfl, HB9.out⟩
end Go.Proofs.YtdkpnbjkehakjaaGreatDoor
