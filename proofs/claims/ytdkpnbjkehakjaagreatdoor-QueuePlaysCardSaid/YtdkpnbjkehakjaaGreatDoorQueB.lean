import Derived.Test.YtdkpnbjkehakjaaGreatDoorQuR
import Derived.Test.YtdkpnbjkehakjaaGreatDoorPrnK
set_option linter.unusedSimpArgs false
set_option linter.unusedVariables false
/-! queue: which levels are at or below one; a new box -/
namespace Go.Proofs.YtdkpnbjkehakjaaGreatDoor
open Go.RowKit
theorem right_sizes {st : PSt} {S : List Int} (h : rightP st S = true) : st.L.length ≤ 64 ∧ S.length = st.L.length ∧ st.I.length ≤ 32 ∧ st.O.length ≤ 32 ∧ LL.rightB S = true ∧
    (∀ j, j < st.I.length → 0 ≤ (chAt st.I j).2 ∧ (chAt st.I j).2 < st.L.length) ∧ (∀ j, j < st.O.length → 0 ≤ (chAt st.O j).2 ∧ (chAt st.O j).2 < st.L.length) := by
  obtain ⟨_, h1, h2, _, h3, h4⟩ := rightP_parts h
  have h5 := (LL.ord_len (LL.right_ord h2)).2
  obtain ⟨a1, a2, _⟩ := chans_split h3
  obtain ⟨b1, b2, _⟩ := chans_split h4
  exact ⟨by omega, h1, a1, b1, h2, fun j hj => ch_lev a2 hj, fun j hj => ch_lev b2 hj⟩
theorem obj5_cell {W0 W : World} {g : Nat} {c0 c1 c2 c3 c4 : Value} {t : TypeId} (h : W0.heap[g]? = some (.cells #[c0, c1, c2, c3, c4] t)) (hb : Below W0.heap.size W0 W) :
    W.cell? ⟨g, 0, none⟩ = some c0 ∧ W.cell? ⟨g, 1, none⟩ = some c1 ∧ W.cell? ⟨g, 2, none⟩ = some c2 ∧ W.cell? ⟨g, 3, none⟩ = some c3 ∧ W.cell? ⟨g, 4, none⟩ = some c4 :=
  block_cells ((hb.block g (heap_some_lt h)).trans h)

/-- is the level j at or below lv? -/
def lowB (S : List Int) (lv : Int) (j : Nat) : Bool := LL.ab S j lv.toNat
def lowsOk (st : PSt) (S : List Int) (lv : Int) : Bool := rightP st S && decide (0 ≤ lv) && decide (lv < st.L.length)
def LowE (st : PSt) (S : List Int) (lv : Int) (e : Ending) (w w' : World) : Prop :=
  Below w.heap.size w w' ∧ ((lowsOk st S lv = true ∧ ∃ g, e = .returned (.tuple #[.slice (some ⟨g, 0, none⟩) st.L.length st.L.length, .bool true]) ∧ w.heap.size ≤ g ∧ w'.rowIs g 4 st.L.length (fun j => .bool (lowB S lv j))) ∨ (lowsOk st S lv = false ∧ e = .returned (.tuple #[.slice none 0 0, .bool false])))

set_option maxRecDepth 100000 in
set_option maxHeartbeats 3200000 in
theorem qbelow_any (v0 v1 v2 v3 : Value) (st : PSt) (S : List Int) (lv : Int) (w : World) (h : PolIn w v0 v1 v2 v3 st S) (hw : Wide S) (hTz : Tz w) (hsh : Short6 st) :
    Calls Tryz.prog 54 #[.agg #[v0, v1, v2, v3, .int .i64 st.D], .int .i64 lv] w fun e w' => LowE st S lv e w w' := by
  obtain ⟨a0, k0, rfl⟩ := h.s0.form
  obtain ⟨a1, k1, rfl⟩ := h.s1.form
  obtain ⟨a2, k2, rfl⟩ := h.s2.form
  obtain ⟨a3, k3, rfl⟩ := h.s3.form
  obtain ⟨W0, eW0⟩ : ∃ W0, W0 = w.alloc (.cells #[.slice a0 st.L.length k0, .slice a1 S.length k1, .slice a2 st.I.length k2, .slice a3 st.O.length k3, .int .i64 st.D] 26) := ⟨_, rfl⟩
  have HB0 := Lib.hid (show Below w.heap.size w W0 by rw [eW0]; exact (Below.refl _ _).alloc (Nat.le_refl _) _)
  have HO0 := Lib.hid (show W0.heap[w.heap.size]? = some (.cells #[.slice a0 st.L.length k0, .slice a1 S.length k1, .slice a2 st.I.length k2, .slice a3 st.O.length k3, .int .i64 st.D] 26) by rw [eW0]; exact new_block rfl rfl)
  have HW0 := Lib.hid (show w.heap.size < W0.heap.size by rw [eW0]; simp)
  have HP0 := Lib.hid (h.below HB0.out)
  have HT0 := Lib.hid (hTz.on HB0.out)
  have HSH := Lib.hid hsh
  have HWD := Lib.hid hw
  have EW0 := Lib.hid eW0
  have HNU := Lib.hid (show Nums .u64 W0.heap.size W0 (.slice a1 S.length k1) S from HP0.out.s1)
  clear h hTz hsh hw eW0
  cases hr : rightP st S
  · have HR := Lib.hid hr
    have HL := Lib.hid (show lowsOk st S lv = false by unfold lowsOk; rw [hr]; rfl)
    clear hr
    go_enter Tryz.func54, Tryz.ntmps54
    go_wp2_with (go_at_call 17; rw [← EW0.out]; refine (right6_any _ _ _ _ st S _ HP0.out HWD.out HT0.out HSH.out).mono ?_; rintro e w1 ⟨rfl, hb⟩; rw [HR.out]; have HB1 := Lib.hid (hb.mono HB0.out.size); clear hb)
    go_ret2
    exact ⟨HB0.out.trans HB1.out, .inr ⟨HL.out, rfl⟩⟩
  · have HR := Lib.hid hr
    obtain ⟨l64, hSL, _, _, hrb, _, _⟩ := right_sizes hr
    have HSL := Lib.hid hSL
    have HRB := Lib.hid hrb
    have HBIG := Lib.hid (show S.length ≤ big5 by simp only [big5]; omega)
    clear hSL hrb
    by_cases h1 : lv < 0
    · have t1 : decide (lv < 0) = true := decide_eq_true h1
      have HL := Lib.hid (show lowsOk st S lv = false by unfold lowsOk; rw [decide_eq_false (show ¬ 0 ≤ lv by omega)]; simp)
      clear hr h1
      go_enter Tryz.func54, Tryz.ntmps54
      go_wp2_with (go_at_call 17; rw [← EW0.out]; refine (right6_any _ _ _ _ st S _ HP0.out HWD.out HT0.out HSH.out).mono ?_; rintro e w1 ⟨rfl, hb⟩; rw [HR.out]; have HB1 := Lib.hid (hb.mono HB0.out.size); clear hb)
      go_ret2
      exact ⟨HB0.out.trans HB1.out, .inr ⟨HL.out, rfl⟩⟩
    · have t1 : decide (lv < 0) = false := decide_eq_false h1
      by_cases h2 : (st.L.length : Int) ≤ lv
      · have t2 : decide ((st.L.length : Int) ≤ lv) = true := decide_eq_true h2
        have HL := Lib.hid (show lowsOk st S lv = false by unfold lowsOk; rw [decide_eq_false (show ¬ lv < st.L.length by omega)]; simp)
        clear hr h1 h2
        go_enter Tryz.func54, Tryz.ntmps54
        go_wp2_with (go_at_call 17; rw [← EW0.out]; refine (right6_any _ _ _ _ st S _ HP0.out HWD.out HT0.out HSH.out).mono ?_; rintro e w1 ⟨rfl, hb⟩; rw [HR.out]; have HB1 := Lib.hid (hb.mono HB0.out.size); obtain ⟨p0, _, _, _, _⟩ := obj5_cell HO0.out hb; clear hb)
        go_ret2
        exact ⟨HB0.out.trans HB1.out, .inr ⟨HL.out, rfl⟩⟩
      · have t2 : decide ((st.L.length : Int) ≤ lv) = false := decide_eq_false h2
        obtain ⟨q, rfl⟩ : ∃ q : Nat, lv = q := ⟨lv.toNat, by omega⟩
        have hq : q < S.length := by have := HSL.out; omega
        have t3 : decide (st.L.length ≤ q) = false := decide_eq_false (by omega)
        have HL := Lib.hid (show lowsOk st S q = true by unfold lowsOk; rw [hr, decide_eq_true (show (0 : Int) ≤ q by omega), decide_eq_true (show (q : Int) < st.L.length by omega)]; rfl)
        have hmk := run_make_row' (P := Tryz.prog) 87 4 (.bool false) 1 (by kernel_rfl) Tryz.infoQBool rfl .i64 .i64 st.L.length (by omega) (by omega)
        clear hr h1 h2
        go_enter Tryz.func54, Tryz.ntmps54
        go_wp2_with (go_at_call 17; rw [← EW0.out]; refine (right6_any _ _ _ _ st S _ HP0.out HWD.out HT0.out HSH.out).mono ?_; rintro e w1 ⟨rfl, hb⟩; rw [HR.out]; have HB1 := Lib.hid hb; obtain ⟨p0, _, _, _, _⟩ := obj5_cell HO0.out hb; clear hb)
        clear hmk
        have HA1 := Lib.hid (show Below W0.heap.size W0 (w1.alloc (.cells (madeCells #[.bool false] st.L.length) 4)) from HB1.out.alloc HB1.out.size _)
        have HM1 := Lib.hid (show (w1.alloc (.cells (madeCells #[.bool false] st.L.length) 4)).rowIs w1.heap.size 4 st.L.length (fun _ => .bool false) from World.rowIs_made w1 (.bool false) st.L.length 4)
        clear p0
        go_loopw [28] (fun k wr => ∃ i : Nat, i ≤ st.L.length ∧ k = .int .i64 (i : Int) ∧ wr.rowIs w1.heap.size 4 st.L.length (fun j => .bool (decide (j < i) && lowB S q j)) ∧ Below W0.heap.size W0 wr) (fun k _ => st.L.length - (intOf k).toNat)
        case atStart => exact ⟨0, by omega, rfl, World.rowIs.congr HM1.out (fun j _ => by simp), HA1.out⟩
        case round =>
          obtain ⟨i, hi, rfl, hM, hB⟩ := hrel
          have HM := Lib.hid hM
          have HB := Lib.hid hB
          clear hM hB HA1 HM1
          by_cases hlt : i < st.L.length
          · obtain ⟨_, p1, _, _, _⟩ := obj5_cell HO0.out HB.out
            have i1 : (0 : Int) ≤ i ∧ (i : Int) < st.L.length := by omega
            have hiS : i < S.length := by have := HSL.out; omega
            have HG := Lib.hid (World.rowIs.lt HM.out)
            have HGB := Lib.hid (show W0.heap.size ≤ w1.heap.size from HB1.out.size)
            go_wp2_with (go_at_call 80; refine (lq (Lib.hid leq5_any) HNU HWD HBIG HRB HB.out hiS hq (HT0.out.on HB.out)).mono ?_; rintro e w2 ⟨rfl, hb⟩; have HM2 := Lib.hid (World.rowIs.of_block HM.out (hb.block _ HG.out)); have HB2 := Lib.hid (HB.out.trans (hb.mono HB.out.size)); have hcw := World.rowIs.cell HM2.out hlt; have hfw := World.rowIs.frozen HM2.out i; clear hb)
            have HN := Lib.hid (World.rowIs.set HM2.out i (.bool (LL.ab S i q)))
            have HNB := Lib.hid (HB2.out.setCell (p := ⟨w1.heap.size, i, none⟩) HGB.out (.bool (LL.ab S i q)))
            clear hcw hfw p1
            go_roundw
            case rel => exact ⟨i + 1, by omega, by go_num, World.rowIs.congr HN.out (fun j _ => by
              by_cases e : j = i
              · subst e; rw [if_pos rfl, decide_eq_true (show j < j + 1 by omega)]; rfl
              · rw [if_neg e]
                by_cases e2 : j < i
                · rw [decide_eq_true e2, decide_eq_true (show j < i + 1 by omega)]
                · rw [decide_eq_false e2, decide_eq_false (show ¬ j < i + 1 by omega)]), HNB.out⟩
            case measure => simp [intOf]; omega
          · have HE := Lib.hid (show wr.rowIs w1.heap.size 4 st.L.length (fun j => .bool (lowB S q j)) from World.rowIs.congr HM.out (fun j hj => by rw [decide_eq_true (show j < i by omega), Bool.true_and]))
            go_wp2_with fail
            go_ret2
            exact ⟨HB0.out.trans (HB.out.mono HB0.out.size), .inl ⟨HL.out, _, rfl, Nat.le_trans HB0.out.size HB1.out.size, HE.out⟩⟩

/-- what New answers -/
def NewE (st : PSt) (S : List Int) (A : List (List Int)) (e : Ending) (w w' : World) : Prop :=
  Below w.heap.size w w' ∧ (((rightP st S && fillOk st.I.length A) = true ∧ ∃ kb rb vs, e = .returned (.tuple #[.pointer (some ⟨kb, 0, none⟩), .int .i64 0]) ∧ w.heap.size ≤ kb ∧ BoxB w' kb rb st.I.length st.O.length st.L.length (.slice none 0 0) ∧ TabQ w.heap.size w' rb st.I.length vs (rowAt A)) ∨
    ((rightP st S && fillOk st.I.length A) = false ∧ e = .returned (.tuple #[.pointer none, .int .i64 1])))

set_option maxRecDepth 100000 in
set_option maxHeartbeats 3200000 in
theorem qnew_any (v0 v1 v2 v3 : Value) (st : PSt) (S : List Int) (a : Value) (A : List (List Int)) (w : World) (h : PolIn w v0 v1 v2 v3 st S) (hw : Wide S) (hTz : Tz w) (hsh : Short6 st) (ha : GraphM w.heap.size w a A) (hx : Small A) :
    Calls Tryz.prog 4 #[.agg #[v0, v1, v2, v3, .int .i64 st.D], a] w fun e w' => NewE st S A e w w' := by
  obtain ⟨a0, k0, rfl⟩ := h.s0.form
  obtain ⟨a1, k1, rfl⟩ := h.s1.form
  obtain ⟨a2, k2, rfl⟩ := h.s2.form
  obtain ⟨a3, k3, rfl⟩ := h.s3.form
  obtain ⟨aa, ca, rfl⟩ := ha.form
  obtain ⟨W0, eW0⟩ : ∃ W0, W0 = w.alloc (.cells #[.slice a0 st.L.length k0, .slice a1 S.length k1, .slice a2 st.I.length k2, .slice a3 st.O.length k3, .int .i64 st.D] 26) := ⟨_, rfl⟩
  have HB0 := Lib.hid (show Below w.heap.size w W0 by rw [eW0]; exact (Below.refl _ _).alloc (Nat.le_refl _) _)
  have HO0 := Lib.hid (show W0.heap[w.heap.size]? = some (.cells #[.slice a0 st.L.length k0, .slice a1 S.length k1, .slice a2 st.I.length k2, .slice a3 st.O.length k3, .int .i64 st.D] 26) by rw [eW0]; exact new_block rfl rfl)
  have HP0 := Lib.hid (h.below HB0.out)
  have HT0 := Lib.hid (hTz.on HB0.out)
  have HSH := Lib.hid hsh
  have HWD := Lib.hid hw
  have EW0 := Lib.hid eW0
  have HA := Lib.hid ha
  have HX := Lib.hid hx
  clear h hTz hsh hw eW0 ha hx
  cases hr : rightP st S
  · have HR := Lib.hid hr
    have HL := Lib.hid (show (rightP st S && fillOk st.I.length A) = false by rw [hr]; rfl)
    clear hr
    go_enter Tryz.func4, Tryz.ntmps4
    go_wp2_with (go_at_call 17; rw [← EW0.out]; refine (right6_any _ _ _ _ st S _ HP0.out HWD.out HT0.out HSH.out).mono ?_; rintro e w1 ⟨rfl, hb⟩; rw [HR.out]; have HB1 := Lib.hid (hb.mono HB0.out.size); clear hb)
    go_ret2
    exact ⟨HB0.out.trans HB1.out, .inr ⟨HL.out, rfl⟩⟩
  · have HR := Lib.hid hr
    have i32 := (right_sizes hr).2.2.1
    cases hf : fillOk st.I.length A
    · have HF := Lib.hid hf
      have HL := Lib.hid (show (rightP st S && fillOk st.I.length A) = false by rw [hf, Bool.and_false])
      clear hr hf
      go_enter Tryz.func4, Tryz.ntmps4
      go_wp2_with (first
        | (go_at_call 18; refine (fill_any _ _ _ _ a2 st.I.length k2 _ A _ (by omega) ((HA.out.below (HB0.out.trans (HB1.out.mono HB0.out.size))).mono (Nat.le_trans HB0.out.size HB1.out.size)) HX.out).mono ?_; rintro e w2 ⟨hb2, ⟨hf1, _⟩ | ⟨hf1, rfl⟩⟩; (rw [HF.out] at hf1; cases hf1); have HB2 := Lib.hid hb2; clear hb2 hf1)
        | (go_at_call 17; rw [← EW0.out]; refine (right6_any _ _ _ _ st S _ HP0.out HWD.out HT0.out HSH.out).mono ?_; rintro e w1 ⟨rfl, hb⟩; rw [HR.out]; have HB1 := Lib.hid hb; obtain ⟨p0, p1, p2, p3, p4⟩ := obj5_cell HO0.out hb; clear hb))
      go_ret2
      exact ⟨QQ.step (QQ.step HB0.out HB1.out) HB2.out, .inr ⟨HL.out, rfl⟩⟩
    · have HF := Lib.hid hf
      have HL := Lib.hid (show (rightP st S && fillOk st.I.length A) = true by rw [hr, hf]; rfl)
      clear hr hf
      go_enter Tryz.func4, Tryz.ntmps4
      go_wp2_with (first
        | (go_at_call 19; refine (boundsOf_any a0 a3 st.L.length k0 st.O.length k3 _ _ _ _).mono ?_; rintro e w3 ⟨rfl, hb3⟩; have HB3 := Lib.hid hb3; clear hb3)
        | (go_at_call 18; refine (fill_any _ _ _ _ a2 st.I.length k2 _ A _ (by omega) ((HA.out.below (HB0.out.trans (HB1.out.mono HB0.out.size))).mono (Nat.le_trans HB0.out.size HB1.out.size)) HX.out).mono ?_; rintro e w2 ⟨hb2, ⟨hf1, rb, vs, rfl, hT2⟩ | ⟨hf1, _⟩⟩; (case inr => rw [HF.out] at hf1; cases hf1); have HB2 := Lib.hid hb2; have HT2 := Lib.hid hT2; clear p0 p1 p2 p3 p4; obtain ⟨p0, p1, p2, p3, p4⟩ := obj5_cell HO0.out (HB1.out.trans (hb2.mono HB1.out.size)); clear hb2 hf1 hT2)
        | (go_at_call 17; rw [← EW0.out]; refine (right6_any _ _ _ _ st S _ HP0.out HWD.out HT0.out HSH.out).mono ?_; rintro e w1 ⟨rfl, hb⟩; rw [HR.out]; have HB1 := Lib.hid hb; obtain ⟨p0, p1, p2, p3, p4⟩ := obj5_cell HO0.out hb; clear hb))
      have HBA := Lib.hid (QQ.step (QQ.step HB0.out HB1.out) (HB2.out.trans (HB3.out.mono HB2.out.size)))
      go_ret2
      exact ⟨HBA.out.alloc HBA.out.size _, .inl ⟨HL.out, w3.heap.size, rb, vs, rfl, HBA.out.size, new_block rfl rfl, by
        have h1 := HT2.out.on HB3.out
        have h2 := h1.on ((Below.refl w3.heap.size w3).alloc (Nat.le_refl _) (.cells #[.slice (some ⟨rb, 0, none⟩) st.I.length st.I.length, .int .i64 st.O.length, .int .i64 st.L.length, .slice none 0 0] 66))
        exact ⟨Nat.le_trans (Nat.le_trans HB0.out.size HB1.out.size) h2.base, h2.tab, fun j hj => (h2.rows j hj).lower (Nat.le_trans HB0.out.size HB1.out.size)⟩⟩⟩
end Go.Proofs.YtdkpnbjkehakjaaGreatDoor
