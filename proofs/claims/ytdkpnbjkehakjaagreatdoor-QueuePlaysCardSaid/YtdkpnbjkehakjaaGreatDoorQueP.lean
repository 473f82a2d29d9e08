import Derived.Test.YtdkpnbjkehakjaaGreatDoorQueB
import Derived.Test.YtdkpnbjkehakjaaGreatDoorQuE
import Derived.Deep.RegionLaw
set_option linter.unusedSimpArgs false
set_option linter.unusedVariables false
/-! queue: a pair of inputs -/
namespace Go.Proofs.YtdkpnbjkehakjaaGreatDoor
open Go.RowKit
/-- which inputs a level sees -/
def seenL (st : PSt) (S : List Int) (lv : Int) : List Bool := (List.range st.I.length).map fun j => lowB S lv (chAt st.I j).2.toNat
theorem seenL_len (st : PSt) (S : List Int) (lv : Int) : (seenL st S lv).length = st.I.length := by simp [seenL]
theorem seenL_at {st : PSt} {S : List Int} {lv : Int} {j : Nat} (h : j < st.I.length) : (seenL st S lv)[j]?.getD false = lowB S lv (chAt st.I j).2.toNat := by
  unfold seenL
  rw [List.getElem?_map, List.getElem?_range h]; rfl
theorem seenL_take {st : PSt} {S : List Int} {lv : Int} {i : Nat} (h : i < st.I.length) : boolsV ((seenL st S lv).take i) ++ [.bool (lowB S lv (chAt st.I i).2.toNat)] = boolsV ((seenL st S lv).take (i + 1)) := by
  rw [List.take_succ_eq_append_getElem (by rw [seenL_len]; exact h)]
  have := seenL_at (S := S) (lv := lv) h
  rw [List.getElem?_eq_getElem (by rw [seenL_len]; exact h), Option.getD_some] at this
  rw [this]
  simp [boolsV]
def pairOkB (st : PSt) (S : List Int) (lv : Int) (A C : List (List Int)) : Bool := lowsOk st S lv && (fillOk st.I.length A && fillOk st.I.length C)
def PairE (st : PSt) (S : List Int) (lv : Int) (A C : List (List Int)) (e : Ending) (w w' : World) : Prop :=
  Below w.heap.size w w' ∧ ((pairOkB st S lv A C = true ∧ ∃ ra rb va vb vs, e = .returned (.tuple #[.agg #[.slice (some ⟨ra, 0, none⟩) st.I.length st.I.length, .slice (some ⟨rb, 0, none⟩) st.I.length st.I.length, vs], .bool true]) ∧
      TabQ w.heap.size w' ra st.I.length va (rowAt A) ∧ TabQ w.heap.size w' rb st.I.length vb (rowAt C) ∧ ra ≠ rb ∧ w'.ownsRow w.heap.size 4 1 vs st.I.length (boolsV (seenL st S lv))) ∨
    (pairOkB st S lv A C = false ∧ e = .returned (.tuple #[.agg #[.slice none 0 0, .slice none 0 0, .slice none 0 0], .bool false])))
/-- where no block from B on is written -/
theorem TabQ.far {B : Nat} {W W' : World} {rb n : Nat} {vs : Nat → Value} {rows : Nat → List Int} (h : TabQ B W rb n vs rows) (hk : ∀ k, B ≤ k → W'.heap[k]? = W.heap[k]?) : TabQ B W' rb n vs rows :=
  ⟨h.base, World.rowIs.of_block h.tab (hk _ h.base), fun j hj => (h.rows j hj).kept fun k c fr hb _ => hk k hb⟩
theorem TabQ.far_from {B D : Nat} {W W' : World} {rb n : Nat} {vs : Nat → Value} {rows : Nat → List Int} (h : TabQ B W rb n vs rows) (hk : ∀ k, D ≤ k → W'.heap[k]? = W.heap[k]?) (hD : D ≤ B) : TabQ B W' rb n vs rows :=
  h.far fun k hb => hk k (Nat.le_trans hD hb)
theorem TabQ.lower {B B' : Nat} {W : World} {rb n : Nat} {vs : Nat → Value} {rows : Nat → List Int} (h : TabQ B W rb n vs rows) (hB : B' ≤ B) : TabQ B' W rb n vs rows :=
  ⟨Nat.le_trans hB h.base, h.tab, fun j hj => (h.rows j hj).lower hB⟩
theorem own_lower {W : World} {B B' e size n : Nat} {v : Value} {xs : List Value} (h : B' ≤ B) (g : W.ownsRow B e size v n xs) : W.ownsRow B' e size v n xs := by
  refine ⟨g.1, ?_⟩
  rcases g.2 with hn | ⟨k, cap, cur, rfl, hb, rest⟩
  · exact .inl hn
  · exact .inr ⟨k, cap, cur, rfl, Nat.le_trans h hb, rest⟩
/-- one bool more -/
theorem pair_step {W3 wa wb w1 : World} {q i g2 cap2 : Nat} {sa sb vs z : Value} {xs : List Value} (hB : Below W3.heap.size W3 wa) (hq : W3.heap.size ≤ q) (hqo : wa.heap[q]? = some (.cells #[sa, sb, vs] 89)) (ho : wa.ownsRow W3.heap.size 4 1 vs i xs)
    (hA : Below wa.heap.size wa wb) (hown : w1.ownsRow W3.heap.size 4 1 (.slice (some ⟨g2, 0, none⟩) (i + 1) cap2) (i + 1) (xs ++ [z])) (hg : wb.grownBy w1 vs.ownBlock) :
    (w1.setCell ⟨q, 2, none⟩ (.slice (some ⟨g2, 0, none⟩) (i + 1) cap2)).heap[q]? = some (.cells #[sa, sb, .slice (some ⟨g2, 0, none⟩) (i + 1) cap2] 89) ∧
    (w1.setCell ⟨q, 2, none⟩ (.slice (some ⟨g2, 0, none⟩) (i + 1) cap2)).ownsRow W3.heap.size 4 1 (.slice (some ⟨g2, 0, none⟩) (i + 1) cap2) (i + 1) (xs ++ [z]) ∧
    Below W3.heap.size W3 (w1.setCell ⟨q, 2, none⟩ (.slice (some ⟨g2, 0, none⟩) (i + 1) cap2)) := by
  have hlt := heap_some_lt hqo
  have hob : wb.heap[q]? = some (.cells #[sa, sb, vs] 89) := (hA.block _ hlt).trans hqo
  have h1 : w1.heap[q]? = some (.cells #[sa, sb, vs] 89) := by
    rw [hg.block q (heap_some_lt hob) (fun e => own_other ho hqo (by decide) e.symm)]; exact hob
  have hne := own_other hown h1 (by decide)
  refine ⟨set_obj (c := 2) _ h1, own_of_block hown fun k hk => Below.heap_setCell _ _ _ _ (fun e => hne (by rw [hk]; exact congrArg some e)), ?_⟩
  exact ((hB.trans (hA.mono hB.size)).grown hg (Nat.le_trans hB.size hA.size) (fun k e => (ho.lt k e).1)).setCell hq _

/-- a pair stored cell by cell -/
def set3 (w : World) (p : Nat) (a0 a1 a2 : Value) : World := ((w.setCell ⟨p, 0, none⟩ a0).setCell ⟨p, 1, none⟩ a1).setCell ⟨p, 2, none⟩ a2
theorem set3_obj {w : World} {p : Nat} {b0 b1 b2 : Value} {t : TypeId} (h : w.heap[p]? = some (.cells #[b0, b1, b2] t)) (a0 a1 a2 : Value) : (set3 w p a0 a1 a2).heap[p]? = some (.cells #[a0, a1, a2] t) :=
  set_obj (c := 2) a2 (set_obj (c := 1) a1 (set_obj (c := 0) a0 h))
theorem set3_far (w : World) (p : Nat) (a0 a1 a2 : Value) {k : Nat} (h : k ≠ p) : (set3 w p a0 a1 a2).heap[k]? = w.heap[k]? :=
  (Below.heap_setCell _ _ _ _ h).trans ((Below.heap_setCell _ _ _ _ h).trans (Below.heap_setCell _ _ _ _ h))
theorem set3_below {B : Nat} {A w : World} {p : Nat} (h : Below B A w) (hp : B ≤ p) (a0 a1 a2 : Value) : Below B A (set3 w p a0 a1 a2) := ((h.setCell (p := ⟨p, 0, none⟩) hp a0).setCell (p := ⟨p, 1, none⟩) hp a1).setCell (p := ⟨p, 2, none⟩) hp a2
theorem obj3 {W : World} {g : Nat} {c0 c1 c2 : Value} {t : TypeId} (h : W.heap[g]? = some (.cells #[c0, c1, c2] t)) :
    W.cell? ⟨g, 0, none⟩ = some c0 ∧ W.cell? ⟨g, 1, none⟩ = some c1 ∧ W.cell? ⟨g, 2, none⟩ = some c2 ∧ W.frozen? ⟨g, 0, none⟩ = false ∧ W.frozen? ⟨g, 1, none⟩ = false ∧ W.frozen? ⟨g, 2, none⟩ = false := by
  refine ⟨?_, ?_, ?_, block_frozen h, block_frozen h, block_frozen h⟩ <;> simp [World.cell?, h]

set_option maxRecDepth 100000 in
set_option maxHeartbeats 6400000 in
theorem paired_any (v0 v1 v2 v3 : Value) (st : PSt) (S : List Int) (lv : Int) (a c : Value) (A C : List (List Int)) (w : World) (h : PolIn w v0 v1 v2 v3 st S) (hw : Wide S) (hTz : Tz w) (hsh : Short6 st)
    (ha : GraphM w.heap.size w a A) (hc : GraphM w.heap.size w c C) (hxA : Small A) (hxC : Small C) :
    Calls Tryz.prog 34 #[.agg #[v0, v1, v2, v3, .int .i64 st.D], .int .i64 lv, a, c] w fun e w' => PairE st S lv A C e w w' := by
  obtain ⟨a0, k0, rfl⟩ := h.s0.form
  obtain ⟨a1, k1, rfl⟩ := h.s1.form
  obtain ⟨a2, k2, rfl⟩ := h.s2.form
  obtain ⟨a3, k3, rfl⟩ := h.s3.form
  obtain ⟨aa, ca, rfl⟩ := ha.form
  obtain ⟨ac, cc, rfl⟩ := hc.form
  obtain ⟨i0, hi, hz0, hz1, hz2⟩ := info_parts Tryz.infoQBool
  have hzc := fun (w : World) => run_zeroCh w
  obtain ⟨W0, eW0⟩ : ∃ W0, W0 = (w.alloc (.cells #[.slice a0 st.L.length k0, .slice a1 S.length k1, .slice a2 st.I.length k2, .slice a3 st.O.length k3, .int .i64 st.D] 26)).alloc (.cells #[.slice none 0 0, .slice none 0 0, .slice none 0 0] 89) := ⟨_, rfl⟩
  have HB0 := Lib.hid (show Below w.heap.size w W0 by rw [eW0]; exact ((Below.refl _ _).alloc (Nat.le_refl _) _).alloc (by simp) _)
  have HO0 := Lib.hid (show W0.heap[w.heap.size]? = some (.cells #[.slice a0 st.L.length k0, .slice a1 S.length k1, .slice a2 st.I.length k2, .slice a3 st.O.length k3, .int .i64 st.D] 26) by rw [eW0, Below.heap_alloc _ _ _ (by simp)]; exact new_block rfl rfl)
  have HQ0 := Lib.hid (show W0.heap[w.heap.size + 1]? = some (.cells #[.slice none 0 0, .slice none 0 0, .slice none 0 0] 89) by rw [eW0]; exact new_block rfl (by simp))
  have HZ0 := Lib.hid (show W0.heap.size = w.heap.size + 2 by rw [eW0]; simp)
  have HP0 := Lib.hid (h.below HB0.out)
  have HT0 := Lib.hid (hTz.on HB0.out)
  have HA0 := Lib.hid ((ha.below HB0.out).mono HB0.out.size)
  have HC0 := Lib.hid ((hc.below HB0.out).mono HB0.out.size)
  have HSH := Lib.hid hsh
  have HWD := Lib.hid hw
  have EW0 := Lib.hid eW0
  have HXA := Lib.hid hxA
  have HXC := Lib.hid hxC
  have HQ := Lib.hid (fun (W : World) (hb : Below W0.heap.size W0 W) => (hb.block _ (heap_some_lt HQ0.out)).trans HQ0.out)
  clear h hTz hsh hw eW0 ha hc hxA hxC
  cases hl : lowsOk st S lv
  · have HLO := Lib.hid hl
    have HN := Lib.hid (show pairOkB st S lv A C = false by unfold pairOkB; rw [hl]; rfl)
    clear hl
    go_enter Tryz.func34, Tryz.ntmps34
    go_wp2_with (go_at_call 54; rw [← EW0.out]; refine (qbelow_any _ _ _ _ st S lv _ HP0.out HWD.out HT0.out HSH.out).mono ?_; rintro e w1 ⟨hb, ⟨h1, _⟩ | ⟨h1, rfl⟩⟩; (rw [HLO.out] at h1; cases h1); have HB1 := Lib.hid hb; obtain ⟨q0, q1, q2, f0, f1, f2⟩ := obj3 (HQ.out w1 hb); clear hb h1)
    have HD := Lib.hid (obj3 (set3_obj (HQ.out w1 HB1.out) (.slice none 0 0) (.slice none 0 0) (.slice none 0 0)))
    obtain ⟨d0, d1, d2, _, _, _⟩ := HD.out
    unfold set3 at d0 d1 d2
    refine bodyPost_ret (v := .tuple #[.agg #[.slice none 0 0, .slice none 0 0, .slice none 0 0], .bool false]) (by simp [results, Tryz.results34, go_sem, d0, d1, d2]) rfl ?_
    exact ⟨set3_below (QQ.step HB0.out HB1.out) (Nat.le_succ _) _ _ _, .inr ⟨HN.out, rfl⟩⟩
  · have HLO := Lib.hid hl
    have hr : rightP st S = true := by unfold lowsOk at hl; simp only [Bool.and_eq_true] at hl; exact hl.1.1
    have i32 := (right_sizes hr).2.2.1
    have HLV := Lib.hid (right_sizes hr).2.2.2.2.2.1
    cases hf : (fillOk st.I.length A && fillOk st.I.length C)
    · have HN := Lib.hid (show pairOkB st S lv A C = false by unfold pairOkB; rw [hf, Bool.and_false])
      cases hfa : fillOk st.I.length A
      · have HFA := Lib.hid hfa
        clear hl hr hf hfa
        go_enter Tryz.func34, Tryz.ntmps34
        go_wp2_with (first
          | (go_at_call 18; refine (fill_any _ _ _ _ a2 st.I.length k2 _ C w2 (by omega) ((HC0.out.below (HB1.out.trans (HB2.out.mono HB1.out.size))).mono (Nat.le_trans HB1.out.size HB2.out.size)) HXC.out).mono ?_; rintro e w3 ⟨hb3, ⟨_, rb, vs, rfl, _⟩ | ⟨_, rfl⟩⟩ <;> (have HB3 := Lib.hid hb3; obtain ⟨q0, q1, q2, f0, f1, f2⟩ := obj3 (HQ.out w3 ((HB1.out.trans (HB2.out.mono HB1.out.size)).trans (hb3.mono (Nat.le_trans HB1.out.size HB2.out.size)))); clear hb3 p0 p1 p2 p3 p4))
          | (go_at_call 18; refine (fill_any _ _ _ _ a2 st.I.length k2 _ A w1 (by omega) ((HA0.out.below HB1.out).mono HB1.out.size) HXA.out).mono ?_; rintro e w2 ⟨hb2, ⟨hf1, _⟩ | ⟨hf1, rfl⟩⟩; (rw [HFA.out] at hf1; cases hf1); have HB2 := Lib.hid hb2; clear hf1 p0 p1 p2 p3 p4; obtain ⟨p0, p1, p2, p3, p4⟩ := obj5_cell HO0.out (HB1.out.trans (hb2.mono HB1.out.size)); clear hb2)
          | (go_at_call 54; rw [← EW0.out]; refine (qbelow_any _ _ _ _ st S lv _ HP0.out HWD.out HT0.out HSH.out).mono ?_; rintro e w1 ⟨hb, ⟨h1, g, rfl, hgB, hgr⟩ | ⟨h1, _⟩⟩; (case inr => rw [HLO.out] at h1; cases h1); have HB1 := Lib.hid hb; obtain ⟨p0, p1, p2, p3, p4⟩ := obj5_cell HO0.out hb; clear hb h1 hgB hgr))
        all_goals
          have HD := Lib.hid (obj3 (set3_obj (HQ.out w3 ((HB1.out.trans (HB2.out.mono HB1.out.size)).trans (HB3.out.mono (Nat.le_trans HB1.out.size HB2.out.size)))) (.slice none 0 0) (.slice none 0 0) (.slice none 0 0)))
          obtain ⟨d0, d1, d2, _, _, _⟩ := HD.out
          unfold set3 at d0 d1 d2
          refine bodyPost_ret (v := .tuple #[.agg #[.slice none 0 0, .slice none 0 0, .slice none 0 0], .bool false]) (by simp [results, Tryz.results34, go_sem, d0, d1, d2]) rfl ?_
          exact ⟨set3_below (QQ.step (QQ.step (QQ.step HB0.out HB1.out) HB2.out) HB3.out) (Nat.le_succ _) _ _ _, .inr ⟨HN.out, rfl⟩⟩
      · have HFA := Lib.hid hfa
        have HFC := Lib.hid (show fillOk st.I.length C = false by rw [hfa, Bool.true_and] at hf; exact hf)
        clear hl hr hf hfa
        go_enter Tryz.func34, Tryz.ntmps34
        go_wp2_with (first
          | (go_at_call 18; refine (fill_any _ _ _ _ a2 st.I.length k2 _ C w2 (by omega) ((HC0.out.below (HB1.out.trans (HB2.out.mono HB1.out.size))).mono (Nat.le_trans HB1.out.size HB2.out.size)) HXC.out).mono ?_; rintro e w3 ⟨hb3, ⟨hf1, _⟩ | ⟨_, rfl⟩⟩; (rw [HFC.out] at hf1; cases hf1); (have HB3 := Lib.hid hb3; obtain ⟨q0, q1, q2, f0, f1, f2⟩ := obj3 (HQ.out w3 ((HB1.out.trans (HB2.out.mono HB1.out.size)).trans (hb3.mono (Nat.le_trans HB1.out.size HB2.out.size)))); clear hb3 p0 p1 p2 p3 p4))
          | (go_at_call 18; refine (fill_any _ _ _ _ a2 st.I.length k2 _ A w1 (by omega) ((HA0.out.below HB1.out).mono HB1.out.size) HXA.out).mono ?_; rintro e w2 ⟨hb2, ⟨hf1, ra, vta, rfl, _⟩ | ⟨hf1, _⟩⟩; (case inr => rw [HFA.out] at hf1; cases hf1); have HB2 := Lib.hid hb2; clear hf1 p0 p1 p2 p3 p4; obtain ⟨p0, p1, p2, p3, p4⟩ := obj5_cell HO0.out (HB1.out.trans (hb2.mono HB1.out.size)); clear hb2)
          | (go_at_call 54; rw [← EW0.out]; refine (qbelow_any _ _ _ _ st S lv _ HP0.out HWD.out HT0.out HSH.out).mono ?_; rintro e w1 ⟨hb, ⟨h1, g, rfl, hgB, hgr⟩ | ⟨h1, _⟩⟩; (case inr => rw [HLO.out] at h1; cases h1); have HB1 := Lib.hid hb; obtain ⟨p0, p1, p2, p3, p4⟩ := obj5_cell HO0.out hb; clear hb h1 hgB hgr))
        have HD := Lib.hid (obj3 (set3_obj (HQ.out w3 ((HB1.out.trans (HB2.out.mono HB1.out.size)).trans (HB3.out.mono (Nat.le_trans HB1.out.size HB2.out.size)))) (.slice none 0 0) (.slice none 0 0) (.slice none 0 0)))
        obtain ⟨d0, d1, d2, _, _, _⟩ := HD.out
        unfold set3 at d0 d1 d2
        refine bodyPost_ret (v := .tuple #[.agg #[.slice none 0 0, .slice none 0 0, .slice none 0 0], .bool false]) (by simp [results, Tryz.results34, go_sem, d0, d1, d2]) rfl ?_
        exact ⟨set3_below (QQ.step (QQ.step (QQ.step HB0.out HB1.out) HB2.out) HB3.out) (Nat.le_succ _) _ _ _, .inr ⟨HN.out, rfl⟩⟩
    · have HFA := Lib.hid (show fillOk st.I.length A = true by rw [Bool.and_eq_true] at hf; exact hf.1)
      have HFC := Lib.hid (show fillOk st.I.length C = true by rw [Bool.and_eq_true] at hf; exact hf.2)
      have HN := Lib.hid (show pairOkB st S lv A C = true by unfold pairOkB; rw [hl, hf]; rfl)
      clear hl hr hf
      go_enter Tryz.func34, Tryz.ntmps34
      go_wp2_with (first
        | (go_at_call 18; refine (fill_any _ _ _ _ a2 st.I.length k2 _ C w2 (by omega) ((HC0.out.below (HB1.out.trans (HB2.out.mono HB1.out.size))).mono (Nat.le_trans HB1.out.size HB2.out.size)) HXC.out).mono ?_; rintro e w3 ⟨hb3, ⟨_, rb, vsb, rfl, hTb⟩ | ⟨hf1, _⟩⟩; (case inr => rw [HFC.out] at hf1; cases hf1); (have HB3 := Lib.hid hb3; have HTB := Lib.hid hTb; clear p0 p1 p2 p3 p4; obtain ⟨_, _, p2, _, _⟩ := obj5_cell HO0.out (((HB1.out.trans (HB2.out.mono HB1.out.size)).trans (hb3.mono (Nat.le_trans HB1.out.size HB2.out.size))).alloc (Nat.le_trans (Nat.le_trans HB1.out.size HB2.out.size) hb3.size) (.cells #[.slice (some ⟨ra, 0, none⟩) st.I.length st.I.length, .slice (some ⟨rb, 0, none⟩) st.I.length st.I.length, .slice none 0 0] 89)); clear hb3 hTb))
        | (go_at_call 18; refine (fill_any _ _ _ _ a2 st.I.length k2 _ A w1 (by omega) ((HA0.out.below HB1.out).mono HB1.out.size) HXA.out).mono ?_; rintro e w2 ⟨hb2, ⟨hf1, ra, vta, rfl, hTa⟩ | ⟨hf1, _⟩⟩; (case inr => rw [HFA.out] at hf1; cases hf1); have HB2 := Lib.hid hb2; have HTA := Lib.hid hTa; clear hf1 p0 p1 p2 p3 p4; obtain ⟨p0, p1, p2, p3, p4⟩ := obj5_cell HO0.out (HB1.out.trans (hb2.mono HB1.out.size)); clear hb2 hTa)
        | (go_at_call 54; rw [← EW0.out]; refine (qbelow_any _ _ _ _ st S lv _ HP0.out HWD.out HT0.out HSH.out).mono ?_; rintro e w1 ⟨hb, ⟨h1, g, rfl, hgB, hgr⟩ | ⟨h1, _⟩⟩; (case inr => rw [HLO.out] at h1; cases h1); have HB1 := Lib.hid hb; have HGB := Lib.hid hgB; have HGR := Lib.hid hgr; obtain ⟨p0, p1, p2, p3, p4⟩ := obj5_cell HO0.out hb; clear hb h1 hgB hgr))
      have HBA := Lib.hid (show Below W0.heap.size W0 w3 from (HB1.out.trans (HB2.out.mono HB1.out.size)).trans (HB3.out.mono (Nat.le_trans HB1.out.size HB2.out.size)))
      have HL0 := Lib.hid (show (w3.alloc (.cells #[.slice (some ⟨ra, 0, none⟩) st.I.length st.I.length, .slice (some ⟨rb, 0, none⟩) st.I.length st.I.length, .slice none 0 0] 89)).heap[w3.heap.size]? = some (.cells #[.slice (some ⟨ra, 0, none⟩) st.I.length st.I.length, .slice (some ⟨rb, 0, none⟩) st.I.length st.I.length, .slice none 0 0] 89) ∧ Below w3.heap.size w3 (w3.alloc (.cells #[.slice (some ⟨ra, 0, none⟩) st.I.length st.I.length, .slice (some ⟨rb, 0, none⟩) st.I.length st.I.length, .slice none 0 0] 89)) from ⟨new_block rfl rfl, (Below.refl _ _).alloc (Nat.le_refl _) _⟩)
      have HGR3 := Lib.hid (show w3.rowIs g 4 st.L.length (fun j => .bool (lowB S lv j)) from World.rowIs.of_block HGR.out ((HB2.out.trans (HB3.out.mono HB2.out.size)).block _ (World.rowIs.lt HGR.out)))
      have HCH := Lib.hid (chans_on HP0.out.s2 HBA.out)
      clear p2
      go_loopw [53] (fun k wr => ∃ (i : Nat) (vs : Value), i ≤ st.I.length ∧ k = .int .i64 (i : Int) ∧ wr.heap[w3.heap.size]? = some (.cells #[.slice (some ⟨ra, 0, none⟩) st.I.length st.I.length, .slice (some ⟨rb, 0, none⟩) st.I.length st.I.length, vs] 89) ∧ wr.ownsRow w3.heap.size 4 1 vs i (boolsV ((seenL st S lv).take i)) ∧ Below w3.heap.size w3 wr) (fun k _ => st.I.length - (intOf k).toNat)
      case atStart => exact ⟨0, _, by omega, rfl, HL0.out.1, World.ownsRow_nil _ _ _ _, HL0.out.2⟩
      case round =>
        obtain ⟨i, vs, hil, rfl, hq, hO, hB⟩ := hrel
        have HQI := Lib.hid hq
        have HO := Lib.hid hO
        have HB := Lib.hid hB
        clear hq hO hB HL0
        by_cases hlt : i < st.I.length
        · obtain ⟨cb, co, rfl, c1, c2⟩ := (chans_on HCH.out HB.out).at hlt
          have i1 : (0 : Int) ≤ i ∧ (i : Int) < st.I.length := by omega
          have hlv := HLV.out i hlt
          obtain ⟨s, es⟩ : ∃ s, s = (chAt st.I i).1 := ⟨_, rfl⟩
          obtain ⟨ln, el⟩ : ∃ ln : Nat, (chAt st.I i).2 = ln := ⟨(chAt st.I i).2.toNat, by omega⟩
          have htk := seenL_take (S := S) (lv := lv) hlt
          rw [el, Int.toNat_natCast] at htk
          rw [← es] at c1
          rw [el] at c2 hlv
          have HTK := Lib.hid htk
          have i3 : (0 : Int) ≤ ln ∧ (ln : Int) < st.L.length := by omega
          obtain ⟨vsa, vsc, rfl⟩ := QQ.ownOf HO.out
          obtain ⟨z, hz⟩ : ∃ z, z = lowB S lv ln := ⟨_, rfl⟩
          rw [← hz] at HTK
          obtain ⟨wa, ewa⟩ : ∃ wa, wa = wr.alloc (.cells #[.string s, .int .i64 (ln : Int)] 101) := ⟨_, rfl⟩
          have HWA := Lib.hid (show Below wr.heap.size wr wa by rw [ewa]; exact (Below.refl _ _).alloc (Nat.le_refl _) _)
          have HSA := Lib.hid (show wa.heap.size = wr.heap.size + 1 by rw [ewa]; simp)
          have HQA := Lib.hid ((HWA.out.block _ (heap_some_lt HQI.out)).trans HQI.out)
          obtain ⟨_, _, x2, _, _, fx⟩ := obj3 HQA.out
          have xg : wa.cell? ⟨g, ln, none⟩ = some (.bool z) := by
            rw [hz]
            have h1 := (HB.out.trans (HWA.out.mono HB.out.size)).block _ (World.rowIs.lt HGR3.out)
            exact World.rowIs.cell (World.rowIs.of_block HGR3.out h1) (show ln < st.L.length by omega)
          have xc : wa.cell? ⟨wr.heap.size, 1, none⟩ = some (.int .i64 (ln : Int)) := by rw [ewa]; exact (ch_cells wr (.string s) (.int .i64 (ln : Int)) 101).2
          have HOA := Lib.hid (show wa.ownsRow w3.heap.size 4 1 (.slice vsa i vsc) i (boolsV ((seenL st S lv).take i)) by rw [ewa]; exact HO.out.alloc _)
          have HBW := Lib.hid (HB.out.trans (HWA.out.mono HB.out.size))
          have EWA := Lib.hid ewa
          clear hlv es el htk hz ewa
          go_wp2_with (first
            | (refine wpList_loadCh rfl (.tmp 55) rfl cb (co + i * 2) rfl _ _ c1 c2 ?_)
            | (refine wpList_store_row rfl 101 (.tmp 18) (.tmp 56) rfl _ #[.string s, .int .i64 (ln : Int)] rfl rfl 101 #[.string ⟨#[]⟩, .int .i64 0] (heap_alloc_new _ _) (by kernel_rfl) rfl (ch_one s (ln : Int)) ?_
               rw [setRow_new6]))
          rw [← EWA.out]
          have ar := own_other HOA.out HQA.out (by decide)
          have hsz : w3.heap.size ≤ wa.heap.size := HBW.out.size
          have kA : ∀ m o, ((wa.drewN m).alloc o).cell? ⟨w3.heap.size, 2, none⟩ = some (.slice vsa i vsc) := fun m o => (keepAllocE x2 x2 fx (drewN_heap _ _)).1
          have kC : ∀ o, (wa.alloc o).cell? ⟨w3.heap.size, 2, none⟩ = some (.slice vsa i vsc) := fun o => (keepAllocE x2 x2 fx rfl).1
          clear c1 c2
          go_region_law (first
            | (refine step_append_lies _ rfl (.tmp 58) (.tmp 64) 87 rfl w3.heap.size 4 i0 (.bool false) 1 1 Tryz.underlying87 hi hz0 hz1 hz2 rfl (by decide) (.slice vsa i vsc) i (boolsV ((seenL st S lv).take i)) rfl
                (own_da HOA.out (by first | exact drewN_heap _ _ | exact drewN_heap1 _ _ | rfl) _) ⟨wa.heap.size, 0, none⟩ 1 1 [.bool z] rfl rfl
                (World.news_of_block (cs := #[.bool z]) (t := 4) (fr := (0, 0)) (new_block (by first | exact drewN_heap _ _ | exact drewN_heap1 _ _ | rfl) rfl)) (by simp [Value.oneCell']) (by decide) (by unfold maxLen; omega) (by omega) (by simp; omega) (wa.heap.size + 1) (by simp) ?_
               intro g2 cap2 w4 hown2 hgrow hat hlt2
               have hnx := Lib.hid (pair_step HBW.out (Nat.le_refl _) HQA.out HOA.out (by first | exact below_da _ _ | exact below_da1 _ _) hown2 hgrow)
               obtain ⟨k0, k1, k2⟩ := keepGrown hgrow ar ar (keepAllocE x2 x2 fx (by first | exact drewN_heap _ _ | exact drewN_heap1 _ _ | rfl)).1 (keepAllocE x2 x2 fx (by first | exact drewN_heap _ _ | exact drewN_heap1 _ _ | rfl)).2.1 (keepAllocE x2 x2 fx (by first | exact drewN_heap _ _ | exact drewN_heap1 _ _ | rfl)).2.2
               clear hown2 hgrow hat hlt2 k1))
          all_goals
            clear x2 fx xg xc kA kC ar
            go_wp2_with fail
            go_roundw
            case rel => exact ⟨i + 1, _, by omega, by go_num, hnx.out.1, by rw [← HTK.out]; exact hnx.out.2.1, hnx.out.2.2⟩
            case measure => simp [intOf]; omega
        · have hie : i = st.I.length := by omega
          subst hie
          obtain ⟨x0, x1, x2, _, _, _⟩ := obj3 HQI.out
          obtain ⟨vsa, vsc, rfl⟩ := QQ.ownOf HO.out
          have HBB := Lib.hid (HBA.out.trans (HB.out.mono HBA.out.size))
          obtain ⟨q0, q1, q2, f0, f1, f2⟩ := obj3 (HQ.out wr HBB.out)
          have HD := Lib.hid (set3_obj (HQ.out wr HBB.out) (.slice (some ⟨ra, 0, none⟩) st.I.length st.I.length) (.slice (some ⟨rb, 0, none⟩) st.I.length st.I.length) (.slice vsa st.I.length vsc))
          have HSZ := Lib.hid (show w.heap.size + 2 ≤ w1.heap.size ∧ w1.heap.size ≤ w2.heap.size ∧ w2.heap.size ≤ w3.heap.size from ⟨by have := HB1.out.size; have := HZ0.out; omega, HB2.out.size, HB3.out.size⟩)
          have HF := Lib.hid (fun k (hk : w.heap.size + 2 ≤ k) => set3_far wr (w.heap.size + 1) (.slice (some ⟨ra, 0, none⟩) st.I.length st.I.length) (.slice (some ⟨rb, 0, none⟩) st.I.length st.I.length) (.slice vsa st.I.length vsc) (show k ≠ w.heap.size + 1 by omega))
          have HBF := Lib.hid (set3_below ((HB0.out.trans (HBA.out.mono HB0.out.size)).trans (HB.out.mono (Nat.le_trans HB0.out.size HBA.out.size))) (Nat.le_succ w.heap.size) (.slice (some ⟨ra, 0, none⟩) st.I.length st.I.length) (.slice (some ⟨rb, 0, none⟩) st.I.length st.I.length) (.slice vsa st.I.length vsc))
          go_wp2_with fail
          obtain ⟨d0, d1, d2, _, _, _⟩ := obj3 HD.out
          unfold set3 at d0 d1 d2
          refine bodyPost_ret (v := .tuple #[.agg #[.slice (some ⟨ra, 0, none⟩) st.I.length st.I.length, .slice (some ⟨rb, 0, none⟩) st.I.length st.I.length, .slice vsa st.I.length vsc], .bool true]) (by simp [results, Tryz.results34, go_sem, d0, d1, d2]) rfl ?_
          refine ⟨HBF.out, .inl ⟨HN.out, ra, rb, vta, vsb, _, rfl, ?_, ?_, ?_, ?_⟩⟩
          · exact (((HTA.out.on HB3.out).on HB.out).far_from HF.out (by have := HSZ.out; omega)).lower (by have := HSZ.out; omega)
          · exact ((HTB.out.on HB.out).far_from HF.out (by have := HSZ.out; omega)).lower (by have := HSZ.out; omega)
          · intro e
            have h1 := HTA.out.lt
            have h2 := HTB.out.base
            omega
          · refine own_lower (show w.heap.size ≤ w3.heap.size by have := HSZ.out; omega) (own_of_block (by have h := HO.out; rw [List.take_of_length_le (by rw [seenL_len]; exact Nat.le_refl _)] at h; exact h) fun k hk => HF.out k (by have := (HO.out.lt k hk).1; have := HSZ.out; omega))
end Go.Proofs.YtdkpnbjkehakjaaGreatDoor
