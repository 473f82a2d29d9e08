import Derived.Test.YtdkpnbjkehakjaaGreatDoorQueP
set_option linter.unusedSimpArgs false
set_option linter.unusedVariables false
/-! queue: Alike, Mixed -/
namespace Go.Proofs.YtdkpnbjkehakjaaGreatDoor
open Go.RowKit
def seenAt (st : PSt) (S : List Int) (lv : Int) (j : Nat) : Bool := lowB S lv (chAt st.I j).2.toNat
/-- are inputs the same for a level? -/
def alikeB (st : PSt) (S : List Int) (lv : Int) (A C : List (List Int)) : Bool := pairOkB st S lv A C && (List.range st.I.length).all fun j => !seenAt st S lv j || decide (rowAt A j = rowAt C j)
/-- inputs of which a level sees the first ones -/
def mixAt (st : PSt) (S : List Int) (lv : Int) (A C : List (List Int)) (j : Nat) : List Int := if seenAt st S lv j then rowAt A j else rowAt C j
theorem alike_no {st : PSt} {S : List Int} {lv : Int} {A C : List (List Int)} {j : Nat} (hj : j < st.I.length) (h1 : seenAt st S lv j = true) (h2 : decide (rowAt A j = rowAt C j) = false) : alikeB st S lv A C = false := by
  cases e : alikeB st S lv A C with
  | false => rfl
  | true =>
    unfold alikeB at e
    rw [Bool.and_eq_true, List.all_eq_true] at e
    have := e.2 j (List.mem_range.2 hj)
    rw [h1, h2] at this
    cases this
theorem alike_yes {st : PSt} {S : List Int} {lv : Int} {A C : List (List Int)} (h : pairOkB st S lv A C = true) (h1 : ∀ j, j < st.I.length → (!seenAt st S lv j || decide (rowAt A j = rowAt C j)) = true) : alikeB st S lv A C = true := by
  unfold alikeB
  rw [h, Bool.true_and, List.all_eq_true]
  exact fun j hj => h1 j (List.mem_range.1 hj)
theorem pair_rows {st : PSt} {S : List Int} {lv : Int} {A C : List (List Int)} (h : pairOkB st S lv A C = true) (j : Nat) : (rowAt A j).length ≤ 4096 ∧ (rowAt C j).length ≤ 4096 := by
  unfold pairOkB at h
  rw [Bool.and_eq_true, Bool.and_eq_true] at h
  exact ⟨fill_row h.2.1 j, fill_row h.2.2 j⟩
theorem pair_n {st : PSt} {S : List Int} {lv : Int} {A C : List (List Int)} (h : pairOkB st S lv A C = true) : st.I.length ≤ 32 := by
  unfold pairOkB lowsOk at h
  simp only [Bool.and_eq_true] at h
  exact (right_sizes h.1.1.1).2.2.1
theorem row_cell {B n : Nat} {W : World} {v : Value} {xs : List Bool} (h : W.ownsRow B 4 1 v n (boolsV xs)) {j : Nat} (hj : j < n) : ∃ b, v = .slice (some ⟨b, 0, none⟩) n (match v with | .slice _ _ c => c | _ => 0) ∧ W.cell? ⟨b, j, none⟩ = some (.bool (xs[j]?.getD false)) := by
  have hl := h.1
  rcases h.2 with ⟨rfl, h0⟩ | ⟨g, cap, cur, rfl, hb, hg, hn, hm, hs, hx⟩
  · omega
  · have hjl : j < xs.length := by rw [boolsV_len] at hl; omega
    refine ⟨g, rfl, ?_⟩
    have h1 : (cur.toList.take (n * 1))[j]? = (boolsV xs)[j]? := by rw [hx]
    rw [List.getElem?_take_of_lt (by omega), boolsV_at hjl] at h1
    simp only [World.cell?, hg]
    simpa using h1
theorem TabQ.cellAt {B : Nat} {W : World} {rb n : Nat} {vs : Nat → Value} {rows : Nat → List Int} (h : TabQ B W rb n vs rows) {j : Nat} (hj : j < n) : ∃ a cap, vs j = .slice a (rows j).length cap ∧ W.cell? ⟨rb, j, none⟩ = some (.slice a (rows j).length cap) ∧ Row W.heap.size W (.slice a (rows j).length cap) (rows j) := by
  obtain ⟨a, cap, e⟩ := (h.rows j hj).form
  refine ⟨a, cap, e, by rw [← e]; exact World.rowIs.cell h.tab hj, by rw [← e]; exact (h.rows j hj).row⟩

set_option maxRecDepth 100000 in
set_option maxHeartbeats 6400000 in
theorem alike_any (v0 v1 v2 v3 : Value) (st : PSt) (S : List Int) (lv : Int) (a c : Value) (A C : List (List Int)) (w : World) (h : PolIn w v0 v1 v2 v3 st S) (hw : Wide S) (hTz : Tz w) (hsh : Short6 st)
    (ha : GraphM w.heap.size w a A) (hc : GraphM w.heap.size w c C) (hxA : Small A) (hxC : Small C) :
    Calls Tryz.prog 22 #[.agg #[v0, v1, v2, v3, .int .i64 st.D], .int .i64 lv, a, c] w fun e w' => e = .returned (.bool (alikeB st S lv A C)) ∧ Below w.heap.size w w' := by
  obtain ⟨a0, k0, rfl⟩ := h.s0.form
  obtain ⟨a1, k1, rfl⟩ := h.s1.form
  obtain ⟨a2, k2, rfl⟩ := h.s2.form
  obtain ⟨a3, k3, rfl⟩ := h.s3.form
  obtain ⟨aa, ca, rfl⟩ := ha.form
  obtain ⟨ac, cc, rfl⟩ := hc.form
  obtain ⟨W0, eW0⟩ : ∃ W0, W0 = w.alloc (.cells #[.slice a0 st.L.length k0, .slice a1 S.length k1, .slice a2 st.I.length k2, .slice a3 st.O.length k3, .int .i64 st.D] 26) := ⟨_, rfl⟩
  have HB0 := Lib.hid (show Below w.heap.size w W0 by rw [eW0]; exact (Below.refl _ _).alloc (Nat.le_refl _) _)
  have HP0 := Lib.hid (h.below HB0.out)
  have HT0 := Lib.hid (hTz.on HB0.out)
  have HA0 := Lib.hid ((ha.below HB0.out).mono HB0.out.size)
  have HC0 := Lib.hid ((hc.below HB0.out).mono HB0.out.size)
  have HSH := Lib.hid hsh
  have HWD := Lib.hid hw
  have EW0 := Lib.hid eW0
  have HXA := Lib.hid hxA
  have HXC := Lib.hid hxC
  clear h hTz hsh hw eW0 ha hc hxA hxC
  cases hp : pairOkB st S lv A C
  · have HPO := Lib.hid hp
    have HN := Lib.hid (show alikeB st S lv A C = false by unfold alikeB; rw [hp]; rfl)
    clear hp
    go_enter Tryz.func22, Tryz.ntmps22
    go_wp2_with (go_at_call 34; rw [← EW0.out]; refine (paired_any _ _ _ _ st S lv _ _ A C _ HP0.out HWD.out HT0.out HSH.out HA0.out HC0.out HXA.out HXC.out).mono ?_; rintro e w1 ⟨hb, ⟨h1, _⟩ | ⟨h1, rfl⟩⟩; (rw [HPO.out] at h1; cases h1); have HB1 := Lib.hid hb; clear hb h1)
    go_ret
    exact ⟨ret_bool HN.out.symm, (QQ.step HB0.out HB1.out).alloc (QQ.step HB0.out HB1.out).size _⟩
  · have HPO := Lib.hid hp
    have h32 := pair_n hp
    have HNO := Lib.hid (fun j hj h1 h2 => alike_no (st := st) (S := S) (lv := lv) (A := A) (C := C) (j := j) hj h1 h2)
    have HPR := Lib.hid (fun j => pair_rows hp j)
    clear hp
    go_enter Tryz.func22, Tryz.ntmps22
    go_wp2_with (go_at_call 34; rw [← EW0.out]; refine (paired_any _ _ _ _ st S lv _ _ A C _ HP0.out HWD.out HT0.out HSH.out HA0.out HC0.out HXA.out HXC.out).mono ?_; rintro e w1 ⟨hb, ⟨h1, ra, rb, va, vb, vs, rfl, hTa, hTb, _, hO⟩ | ⟨h1, _⟩⟩; (case inr => rw [HPO.out] at h1; cases h1); have HB1 := Lib.hid hb; have HTA := Lib.hid hTa; have HTB := Lib.hid hTb; have HO := Lib.hid hO; obtain ⟨sa, sc, rfl⟩ := QQ.ownOf hO; clear hb h1 hTa hTb hO)
    obtain ⟨W1, eW1⟩ : ∃ W1, W1 = w1.alloc (.cells #[.slice (some ⟨ra, 0, none⟩) st.I.length st.I.length, .slice (some ⟨rb, 0, none⟩) st.I.length st.I.length, .slice sa st.I.length sc] 89) := ⟨_, rfl⟩
    have HBW := Lib.hid (show Below w1.heap.size w1 W1 by rw [eW1]; exact (Below.refl _ _).alloc (Nat.le_refl _) _)
    have HQI := Lib.hid (show W1.heap[w1.heap.size]? = some (.cells #[.slice (some ⟨ra, 0, none⟩) st.I.length st.I.length, .slice (some ⟨rb, 0, none⟩) st.I.length st.I.length, .slice sa st.I.length sc] 89) by rw [eW1]; exact new_block rfl rfl)
    have HTA1 := Lib.hid (HTA.out.on HBW.out)
    have HTB1 := Lib.hid (HTB.out.on HBW.out)
    have HO1 := Lib.hid (show W1.ownsRow w.heap.size _ 1 _ _ _ by rw [eW1]; exact own_lower HB0.out.size (HO.out.alloc _))
    rw [← eW1]
    clear eW1 HTA HTB HO
    go_loopw [26] (fun k wr => ∃ i d : Nat, i ≤ st.I.length ∧ k = .int .i64 (i : Int) ∧ RowKit.Hid (wr = W1.drewN d) ∧ RowKit.Hid (∀ j, j < i → (!seenAt st S lv j || decide (rowAt A j = rowAt C j)) = true)) (fun k _ => st.I.length - (intOf k).toNat)
    case atStart => exact ⟨0, 0, by omega, rfl, Lib.hid rfl, Lib.hid (fun j hj => absurd hj (Nat.not_lt_zero _))⟩
    case round =>
      obtain ⟨i, d, hi, rfl, HW, HS⟩ := hrel
      by_cases hlt : i < st.I.length
      · have HHD := Lib.hid (show wr.heap = W1.heap by rw [HW.out]; exact drewN_heap _ _)
        have hcl : ∀ a, wr.cell? a = W1.cell? a := fun a => World.cell?_of_block (by rw [HHD.out])
        obtain ⟨b, e1, hsb⟩ := row_cell HO1.out hlt
        cases e1
        rw [seenL_at hlt] at hsb
        obtain ⟨aa', ca', _, hxa, hra⟩ := HTA1.out.cellAt hlt
        obtain ⟨ab', cb', _, hxb, hrb⟩ := HTB1.out.cellAt hlt
        obtain ⟨x0, x1, x2, _, _, _⟩ := obj3 HQI.out
        rw [← hcl] at hsb hxa hxb x0 x1 x2
        have i1 : (0 : Int) ≤ i ∧ (i : Int) < st.I.length := by omega
        have HRA := Lib.hid (show Row W1.heap.size wr (.slice aa' (rowAt A i).length ca') (rowAt A i) by rw [HW.out]; exact hra.drewN d)
        have HRB := Lib.hid (show Row W1.heap.size wr (.slice ab' (rowAt C i).length cb') (rowAt C i) by rw [HW.out]; exact hrb.drewN d)
        have b1 := (HPR.out i).1
        have b2 := (HPR.out i).2
        have HST := Lib.hid (fun (h : (!seenAt st S lv i || decide (rowAt A i = rowAt C i)) = true) (j : Nat) (hj : j < i + 1) => (Nat.lt_succ_iff_lt_or_eq.1 hj).elim (HS.out j) (fun e => by rw [e]; exact h))
        have HNI := Lib.hid (HNO.out i hlt)
        obtain ⟨r, er⟩ : ∃ r, r = rowAt A i := ⟨_, rfl⟩
        obtain ⟨s, es⟩ : ∃ s, s = rowAt C i := ⟨_, rfl⟩
        rw [← er] at hxa HRA b1 HST HNI
        rw [← es] at hxb HRB b2 HST HNI
        clear hcl hra hrb er es
        cases hs : seenAt st S lv i
        · rw [show lowB S lv (chAt st.I i).2.toNat = false from hs] at hsb
          have HSS := Lib.hid (HST.out (by rw [hs]; rfl))
          clear hs HST HNI
          go_wp2_with fail
          go_quiet (fail)
          go_wp2_with fail
          go_roundw
          case rel => exact ⟨i + 1, _, by omega, by go_num, Lib.hid (by rw [HW.out]; exact World.drewN_drewN _ _ _), HSS⟩
          case measure => simp [intOf]; omega
        · rw [show lowB S lv (chAt st.I i).2.toNat = true from hs] at hsb
          cases hrs : decide (r = s)
          · have HR := Lib.hid hrs
            have HNN := Lib.hid (HNI.out hs hrs)
            clear hs hrs HST HNI
            go_wp2_with fail
            go_quiet ((go_at_call 35; exact Calls.quiet_of ((equal_any _ _ r s W1.heap.size _ (HRA.out.drewN _) (HRB.out.drewN _) (by omega) (by omega)).mono fun e w' ⟨h1, h2⟩ => ⟨h1.trans (ret_bool HR.out), h2⟩)))
            go_wp2_with fail
            go_ret
            exact ⟨ret_bool HNN.out.symm, QQ.step (QQ.step HB0.out HB1.out) (HBW.out.trans (by rw [HW.out, World.drewN_drewN]; exact (QQ.dN (Below.refl _ _) _)))⟩
          · have HR := Lib.hid hrs
            have HSS := Lib.hid (HST.out (by rw [hs, hrs]; rfl))
            clear hs hrs HST HNI
            go_wp2_with fail
            go_quiet ((go_at_call 35; exact Calls.quiet_of ((equal_any _ _ r s W1.heap.size _ (HRA.out.drewN _) (HRB.out.drewN _) (by omega) (by omega)).mono fun e w' ⟨h1, h2⟩ => ⟨h1.trans (ret_bool HR.out), h2⟩)))
            go_wp2_with fail
            go_roundw
            case rel => exact ⟨i + 1, _, by omega, by go_num, Lib.hid (by rw [HW.out]; exact World.drewN_drewN _ _ _), HSS⟩
            case measure => simp [intOf]; omega
      · have HY := Lib.hid (show alikeB st S lv A C = true from alike_yes HPO.out (fun j hj => HS.out j (by omega)))
        go_wp2_with fail
        go_ret
        exact ⟨ret_bool HY.out.symm, QQ.step (QQ.step HB0.out HB1.out) (HBW.out.trans (by rw [HW.out]; exact (QQ.dN (Below.refl _ _) _)))⟩
end Go.Proofs.YtdkpnbjkehakjaaGreatDoor

/-! queue: Mixed -/
namespace Go.Proofs.YtdkpnbjkehakjaaGreatDoor
open Go.RowKit
theorem TabQ.setOther {B : Nat} {W : World} {ra rb n m : Nat} {va vb : Nat → Value} {rows rows' : Nat → List Int} (h : TabQ B W ra n va rows) (hT : TabQ B W rb m vb rows') (hne : ra ≠ rb) (i : Nat) (u : Value) : TabQ B (W.setCell ⟨rb, i, none⟩ u) ra n va rows :=
  ⟨h.base, World.rowIs.setOther h.tab hne u, fun j hj => (h.rows j hj).set hT i u⟩
def mixPart (st : PSt) (S : List Int) (lv : Int) (A C : List (List Int)) (i j : Nat) : List Int := if j < i then mixAt st S lv A C j else rowAt C j
theorem mix_no {st : PSt} {S : List Int} {lv : Int} {A C : List (List Int)} {i : Nat} (h : seenAt st S lv i = false) (j : Nat) : mixPart st S lv A C i j = mixPart st S lv A C (i + 1) j := by
  unfold mixPart
  by_cases e : j < i
  · rw [if_pos e, if_pos (by omega)]
  · rw [if_neg e]
    by_cases e2 : j = i
    · subst e2; rw [if_pos (by omega)]; unfold mixAt; rw [h]; rfl
    · rw [if_neg (by omega)]
theorem mix_yes {st : PSt} {S : List Int} {lv : Int} {A C : List (List Int)} {i : Nat} (h : seenAt st S lv i = true) (j : Nat) : (if j = i then rowAt A i else mixPart st S lv A C i j) = mixPart st S lv A C (i + 1) j := by
  unfold mixPart
  by_cases e2 : j = i
  · subst e2; rw [if_pos rfl, if_pos (by omega)]; unfold mixAt; rw [h]; rfl
  · rw [if_neg e2]
    by_cases e : j < i
    · rw [if_pos e, if_pos (by omega)]
    · rw [if_neg e, if_neg (by omega)]
/-- what Mixed goes by, in memory -/
structure MixSt (w W : World) (q ra rb : Nat) (st : PSt) (S : List Int) (lv : Int) (A C : List (List Int)) (sv : Value) (va vb : Nat → Value) (i : Nat) : Prop where
  pair : W.heap[q]? = some (.cells #[.slice (some ⟨ra, 0, none⟩) st.I.length st.I.length, .slice (some ⟨rb, 0, none⟩) st.I.length st.I.length, sv] 89)
  seen : W.ownsRow w.heap.size 4 1 sv st.I.length (boolsV (seenL st S lv))
  ta : TabQ w.heap.size W ra st.I.length va (rowAt A)
  tb : TabQ w.heap.size W rb st.I.length vb (mixPart st S lv A C i)
  below : Below w.heap.size w W
theorem MixSt.set {w W : World} {q ra rb : Nat} {st : PSt} {S : List Int} {lv : Int} {A C : List (List Int)} {sv : Value} {va vb : Nat → Value} {i : Nat} (h : MixSt w W q ra rb st S lv A C sv va vb i) (hne : ra ≠ rb) (hi : i < st.I.length) (hs : seenAt st S lv i = true) :
    MixSt w (W.setCell ⟨rb, i, none⟩ (va i)) q ra rb st S lv A C sv va (fun j => if j = i then va i else vb j) (i + 1) := by
  obtain ⟨c', h1, _⟩ := h.tb.tab
  have hq : q ≠ rb := fun e => by
    have := h.pair
    rw [e, h1] at this
    cases this
  refine ⟨(Below.heap_setCell _ _ _ _ hq).trans h.pair, own_of_block h.seen fun k hk => Below.heap_setCell _ _ _ _ (fun e => ?_), h.ta.setOther h.tb hne i _, (h.tb.set i (h.ta.rows i hi)).congr fun j _ => mix_yes hs j, h.below.setCell h.tb.base _⟩
  obtain ⟨_, _, c, hc⟩ := own_block h.seen hk
  have e' : k = rb := e
  rw [e', h1] at hc
  cases hc
def MixE (st : PSt) (S : List Int) (lv : Int) (A C : List (List Int)) (e : Ending) (w w' : World) : Prop :=
  Below w.heap.size w w' ∧ ((pairOkB st S lv A C = true ∧ ∃ rb vb, e = .returned (.tuple #[.slice (some ⟨rb, 0, none⟩) st.I.length st.I.length, .int .i64 0]) ∧ TabQ w.heap.size w' rb st.I.length vb (mixAt st S lv A C)) ∨
    (pairOkB st S lv A C = false ∧ e = .returned (.tuple #[.slice none 0 0, .int .i64 1])))

end Go.Proofs.YtdkpnbjkehakjaaGreatDoor
