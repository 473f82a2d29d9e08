import Derived.Test.YthjfgfgkbfhdfaaGreatDoorLawPolicyPrints
import Derived.Test.YthjfgfgkbfhdfaaGreatDoorTurnQ
import Derived.Test.YthjfgfgkbfhdfaaGreatDoorPolV
set_option linter.unusedSimpArgs false
set_option linter.unusedVariables false
/-! PolicyBack: the walk (written by gen_back.py) -/
namespace Go.Proofs.YthjfgfgkbfhdfaaGreatDoor
open Go.RowKit
theorem polv_on {w W : World} {v : Value} {st : PSt} {S : List Int} (h : PolV w v st S) (hb : Below w.heap.size w W) : PolV W v st S := by
  obtain ⟨a, b, c, d, e, p0, p1, p2, p3⟩ := h
  exact ⟨a, b, c, d, e, strs_on p0 hb, nums_on p1 hb, chans_on p2 hb, chans_on p3 hb⟩
theorem polv_in {w : World} {v0 v1 v2 v3 : Value} {st : PSt} {S : List Int} (h : PolIn w v0 v1 v2 v3 st S) : PolV w (.agg #[v0, v1, v2, v3, .int .i64 st.D]) st S := ⟨_, _, _, _, rfl, h.s0, h.s1, h.s2, h.s3⟩
theorem right_64 {st : PSt} {S : List Int} (h : rightP st S = true) : st.L.length ≤ 64 := by
  have hp := rightP_parts h
  have := (LL.ord_len (LL.right_ord hp.2.2.1)).2; omega
theorem right_cov {st : PSt} {S : List Int} (h : rightP st S = true) : ∀ p ∈ LL.coversL S, p.1 < st.L.length ∧ p.2 < st.L.length := fun p hp => by
  have := LL.covers_ok S p hp
  have := (rightP_parts h).2.1
  omega
theorem right_len6 {st : PSt} {S : List Int} (h : rightP st S = true) : st.L.length ≤ 9223372036854775807 ∧ S.length ≤ 9223372036854775807 ∧ st.I.length ≤ 9223372036854775807 ∧ st.O.length ≤ 9223372036854775807 := by
  have h1 := right_64 h
  obtain ⟨_, hS, _, _, hI, hO⟩ := rightP_parts h
  have := (chans_split hI).1
  have := (chans_split hO).1
  omega
theorem polin_right {w : World} {v0 v1 v2 v3 : Value} {st : PSt} {S : List Int} (h : rightP st S = true) (h0 : Strs w.heap.size w v0 st.L) (h1 : Nums .u64 w.heap.size w v1 S) (h2 : Chans w.heap.size w v2 st.I) (h3 : Chans w.heap.size w v3 st.O) : PolIn w v0 v1 v2 v3 st S := by
  have g1 := right_64 h
  obtain ⟨_, hS, hr, _, hI, hO⟩ := rightP_parts h
  have g2 := (LL.ord_len (LL.right_ord hr)).1
  have g3 := (chans_split hI).1
  have g4 := (chans_split hO).1
  refine ⟨h0, h1, h2, h3, fun c e => ?_, by omega, by omega, by omega, by omega⟩
  rcases h1 with ⟨_, e2⟩ | ⟨b, off, cap, e2, _⟩
  · rw [e2] at g2; simp at g2
  · rw [e2] at e; cases e
theorem PrintB.yes {st : PSt} {S : List Int} {s : ByteArray} {e : Int} (h : PrintB st S s e) (hr : rightP st S = true) : e = 0 ∧ s.data.toList = printL st S := by
  rcases h with ⟨_, h2, h3⟩ | ⟨h1, _⟩
  · exact ⟨h2, h3⟩
  · rw [hr] at h1; cases h1
set_option maxRecDepth 100000 in
set_option maxHeartbeats 6400000 in
theorem back_any (v0 v1 v2 v3 : Value) (st : PSt) (S : List Int) (s : ByteArray) (w : World) (h : PolIn w v0 v1 v2 v3 st S) (hw : Wide S) (hsh : Short7 st) (hs : s.size ≤ 140737488351232) (hT : Go.Lib.Utf8Tabs 1 2 w) (hE : Errs w) (hP : Pow w) (hM : MaxL w) (hTz : Tz w) :
    Calls Tryz.prog 4 #[.agg #[v0, v1, v2, v3, .int .i64 st.D], .string s] w fun e w' => e = .returned (.bool true) ∧ Below w.heap.size w w' := by
  have HT := Lib.hid hT
  have HE := Lib.hid hE
  have HPw := Lib.hid hP
  have HM := Lib.hid hM
  have HTz := Lib.hid hTz
  have HW := Lib.hid hw
  have HS := Lib.hid hsh
  have hA : Below w.heap.size w (w.alloc (.cells #[v0, v1, v2, v3, .int .i64 st.D] 26)) := (Below.refl _ _).alloc (Nat.le_refl _) _
  have H := Lib.hid (h.below hA)
  have HA := Lib.hid hA
  have HG := Lib.hid (Below.refl (w.alloc (.cells #[v0, v1, v2, v3, .int .i64 st.D] 26)).heap.size (w.alloc (.cells #[v0, v1, v2, v3, .int .i64 st.D] 26)))
  clear h hT hE hP hM hTz hA hw hsh
  obtain ⟨c0, c1, c2, c3, c4⟩ := pol_cells2 HG.out
  go_enter Tryz.func4, Tryz.ntmps4
  go_wp2_with fail
  refine (rcopy_in v0 v1 v2 v3 st S _ (H.out.below HG.out)).mono ?_
  rintro e w1 ⟨⟨u0, u1, u2, u3, rfl, hq⟩, hb⟩
  have HQ := Lib.hid hq
  clear hq
  have HG1 := Lib.hid (HG.out.trans (hb.mono HG.out.size))
  clear HG c0 c1 c2 c3 c4
  have HG := HG1
  clear HG1 hb
  have HB := Lib.hid (bstep HA.out HG.out)
  go_wp2_with fail
  refine (print6_any u0 u1 u2 u3 st S _ HQ.out HW.out (HTz.out.on HB.out) HS.out (HPw.out.below HB.out)).mono ?_
  rintro e w2 ⟨⟨t, k, rfl, hpb⟩, hb⟩
  clear HQ HB
  have HG2 := Lib.hid (HG.out.trans (hb.mono HG.out.size))
  clear HG
  have HG := HG2
  clear HG2 hb
  have HB := Lib.hid (bstep HA.out HG.out)
  obtain ⟨c0, c1, c2, c3, c4⟩ := pol_cells2 HG.out
  rcases hpb with hy | hn
  · obtain ⟨hr, rfl, ht⟩ := hy
    have HR := Lib.hid hr
    have htz : t.size ≤ 65536 := by have := rightP_fit hr HW.out; rw [← ht, list_size] at this; exact this
    have HTT := Lib.hid ht
    clear hr ht
    go_wp2_with fail
    refine (parse6_any t _ (by omega) (Utf8Tabs_below HT.out HB.out) (HE.out.below HB.out) (HPw.out.below HB.out) (HM.out.below HB.out) (HTz.out.on HB.out)).mono ?_
    rintro e w3 ⟨q, st3, S3, a3, k3, rfl, ⟨qL, qU, qI, qO, rfl, hL, hU, hI, hO⟩, hp, hb⟩
    obtain ⟨lL, mL, rfl⟩ := hL.form
    obtain ⟨lU, mU, rfl⟩ := hU.form
    obtain ⟨lI, mI, rfl⟩ := hI.form
    obtain ⟨lO, mO, rfl⟩ := hO.form
    obtain ⟨rfl, rfl, e3⟩ := parse_print HR.out HW.out (right_64 HR.out) (right_cov HR.out) HTT.out htz hp
    have e3b := e3.symm
    subst e3b
    have HQ := Lib.hid (show PolV w3 (.agg #[(.slice lL st.L.length mL), (.slice lU S.length mU), (.slice lI st.I.length mI), (.slice lO st.O.length mO), .int .i64 st.D]) st S from ⟨(.slice lL st.L.length mL), (.slice lU S.length mU), (.slice lI st.I.length mI), (.slice lO st.O.length mO), rfl, hL, hU, hI, hO⟩)
    have hbW := (Below.refl w3.heap.size w3).alloc (Nat.le_refl _) (.cells #[(.slice lL st.L.length mL), (.slice lU S.length mU), (.slice lI st.I.length mI), (.slice lO st.O.length mO), .int .i64 st.D] 26)
    have HQ3 := Lib.hid (polv_on HQ.out hbW)
    have HG3 := Lib.hid (HG.out.trans ((hb.trans (hbW.mono hb.size)).mono HG.out.size))
    have HP3 := Lib.hid (polv_in (H.out.below HG3.out))
    have HLN := Lib.hid (right_len6 HR.out)
    clear hL hU hI hO hp hb hbW c0 c1 c2 c3 c4 HB
    obtain ⟨c0, c1, c2, c3, c4⟩ := pol_cells2 HG3.out
    go_wp2_with (go_at_call 13; refine (rsame6_any _ _ st S _ HP3.out HQ3.out HLN.out.1 HLN.out.2.1 HLN.out.2.2.1 HLN.out.2.2.2).mono ?_; rintro e w4 ⟨rfl, hb⟩; have HB := Lib.hid (bstep (bstep HA.out HG3.out) hb); clear hb c0 c1 c2 c3 c4)
    refine (parse6_any s _ hs (Utf8Tabs_below HT.out HB.out) (HE.out.below HB.out) (HPw.out.below HB.out) (HM.out.below HB.out) (HTz.out.on HB.out)).mono ?_
    rintro e w5 ⟨x, st5, S5, a5, k5, rfl, ⟨xL, xU, xI, xO, rfl, hL, hU, hI, hO⟩, hp, hb⟩
    have HB5 := Lib.hid (bstep HB.out hb)
    clear hb
    obtain ⟨bL, dL, rfl⟩ := hL.form
    obtain ⟨bU, dU, rfl⟩ := hU.form
    obtain ⟨bI, dI, rfl⟩ := hI.form
    obtain ⟨bO, dO, rfl⟩ := hO.form
    rcases parse_right hp with ⟨rfl, hr5, hw5⟩ | ⟨hk, rfl, rfl⟩
    · have HP5 := Lib.hid (polin_right hr5 hL hU hI hO)
      have HR5 := Lib.hid hr5
      have HW5 := Lib.hid hw5
      have hbW := (Below.refl w5.heap.size w5).alloc (Nat.le_refl _) (.cells #[(.slice bL st5.L.length dL), (.slice bU S5.length dU), (.slice bI st5.I.length dI), (.slice bO st5.O.length dO), .int .i64 st5.D] 26)
      have HC5 := Lib.hid (pol_cells w5 (.slice bL st5.L.length dL) (.slice bU S5.length dU) (.slice bI st5.I.length dI) (.slice bO st5.O.length dO) (.int .i64 st5.D) 26)
      have hsz : (w5.alloc (.cells #[(.slice bL st5.L.length dL), (.slice bU S5.length dU), (.slice bI st5.I.length dI), (.slice bO st5.O.length dO), .int .i64 st5.D] 26)).heap.size = w5.heap.size + 1 := World.size_alloc ..
      have HBW := Lib.hid hbW
      have HB6 := Lib.hid (bstep HB5.out hbW)
      clear hp hL hU hI hO hbW hr5 hw5
      go_wp2_with fail
      refine (print6_any (.slice bL st5.L.length dL) (.slice bU S5.length dU) (.slice bI st5.I.length dI) (.slice bO st5.O.length dO) st5 S5 _ (HP5.out.below HBW.out) HW5.out (HTz.out.on HB6.out) (Short7.mk (right_short HR5.out).1 (right_short HR5.out).2.1 (right_short HR5.out).2.2) (HPw.out.below HB6.out)).mono ?_
      rintro e w6 ⟨⟨u, k6, rfl, hpb⟩, hb⟩
      obtain ⟨rfl, hu⟩ := hpb.yes HR5.out
      have HU := Lib.hid hu
      have husz : u.size ≤ 65536 := by have := rightP_fit HR5.out HW5.out; rw [← hu, list_size] at this; exact this
      have HC6 := Lib.hid (fun c v hv => (hb.cell (p := ⟨w5.heap.size, c, none⟩) (cell_lt (HC5.out c v hv))).trans (HC5.out c v hv))
      have HB7 := Lib.hid (bstep HB6.out hb)
      have HP6 := Lib.hid ((HP5.out.below HBW.out).below hb)
      clear hb hpb hu hsz
      go_wp2_with fail
      refine (parse6_any u _ (by omega) (Utf8Tabs_below HT.out HB7.out) (HE.out.below HB7.out) (HPw.out.below HB7.out) (HM.out.below HB7.out) (HTz.out.on HB7.out)).mono ?_
      rintro e w7 ⟨y, st7, S7, a7, k7, rfl, ⟨yL, yU, yI, yO, rfl, hL, hU, hI, hO⟩, hp, hb⟩
      obtain ⟨lL, mL, rfl⟩ := hL.form
      obtain ⟨lU, mU, rfl⟩ := hU.form
      obtain ⟨lI, mI, rfl⟩ := hI.form
      obtain ⟨lO, mO, rfl⟩ := hO.form
      obtain ⟨rfl, rfl, e7⟩ := parse_print HR5.out HW5.out (right_64 HR5.out) (right_cov HR5.out) HU.out husz hp
      have e7b := e7.symm
      subst e7b
      have HY := Lib.hid (show PolV w7 (.agg #[(.slice lL st5.L.length mL), (.slice lU S5.length mU), (.slice lI st5.I.length mI), (.slice lO st5.O.length mO), .int .i64 st5.D]) st5 S5 from ⟨(.slice lL st5.L.length mL), (.slice lU S5.length mU), (.slice lI st5.I.length mI), (.slice lO st5.O.length mO), rfl, hL, hU, hI, hO⟩)
      have hbZ := (Below.refl w7.heap.size w7).alloc (Nat.le_refl _) (.cells #[(.slice lL st5.L.length mL), (.slice lU S5.length mU), (.slice lI st5.I.length mI), (.slice lO st5.O.length mO), .int .i64 st5.D] 26)
      have hcy := pol_cells w7 (.slice lL st5.L.length mL) (.slice lU S5.length mU) (.slice lI st5.I.length mI) (.slice lO st5.O.length mO) (.int .i64 st5.D) 26
      have HC7 := Lib.hid (fun c v hv => ((hb.trans (hbZ.mono hb.size)).cell (p := ⟨w5.heap.size, c, none⟩) (cell_lt (HC6.out c v hv))).trans (HC6.out c v hv))
      have HB8 := Lib.hid (bstep HB7.out (hb.trans (hbZ.mono hb.size)))
      have HP8 := Lib.hid (HP6.out.below (hb.trans (hbZ.mono hb.size)))
      have HY8 := Lib.hid (polv_on HY.out hbZ)
      have HLN := Lib.hid (right_len6 HR5.out)
      clear hL hU hI hO hp hb hbZ HC6
      have HCY := Lib.hid hcy
      clear hcy
      have x0 := HC7.out 0 _ rfl
      have x1 := HC7.out 1 _ rfl
      have x2 := HC7.out 2 _ rfl
      have x3 := HC7.out 3 _ rfl
      have x4 := HC7.out 4 _ rfl
      go_wp2_with (first
        | (go_at_call 9; refine (right6_any (.slice bL st5.L.length dL) (.slice bU S5.length dU) (.slice bI st5.I.length dI) (.slice bO st5.O.length dO) st5 S5 _ HP8.out HW5.out (HTz.out.on HB8.out) (Short7.six (Short7.mk (right_short HR5.out).1 (right_short HR5.out).2.1 (right_short HR5.out).2.2))).mono ?_; rintro e w9 ⟨rfl, hb⟩; rw [HR5.out]; have HB9 := Lib.hid (bstep HB8.out hb); have HP9 := Lib.hid (HP8.out.below hb); have HY9 := Lib.hid (polv_on HY8.out hb); have HC9 := Lib.hid (fun c v hv => (hb.cell (p := ⟨w5.heap.size, c, none⟩) (cell_lt (HC7.out c v hv))).trans (HC7.out c v hv)); have HCZ := Lib.hid (fun c v hv => (hb.cell (p := ⟨w7.heap.size, c, none⟩) (cell_lt (HCY.out c v hv))).trans (HCY.out c v hv)); clear hb x0 x1 x2 x3 x4; have x0 := HC9.out 0 _ rfl; have x1 := HC9.out 1 _ rfl; have x2 := HC9.out 2 _ rfl; have x3 := HC9.out 3 _ rfl; have x4 := HC9.out 4 _ rfl; have y0 := HCZ.out 0 _ rfl; have y1 := HCZ.out 1 _ rfl; have y2 := HCZ.out 2 _ rfl; have y3 := HCZ.out 3 _ rfl; have y4 := HCZ.out 4 _ rfl)
        | (go_at_call 13; refine (rsame6_any _ _ st5 S5 _ (polv_in HP9.out) HY9.out HLN.out.1 HLN.out.2.1 HLN.out.2.2.1 HLN.out.2.2.2).mono ?_; rintro e w10 ⟨rfl, hb⟩; have HB10 := Lib.hid (bstep HB9.out hb); clear hb x0 x1 x2 x3 x4 y0 y1 y2 y3 y4)
        | (go_at_call 11; refine (awake6_any _ (Utf8Tabs_below HT.out HB10.out) (HE.out.below HB10.out) (HPw.out.below HB10.out) (HM.out.below HB10.out) (HTz.out.on HB10.out)).mono ?_; rintro e w11 ⟨rfl, hb⟩; have HB11 := Lib.hid (bstep HB10.out hb); clear hb))
      go_ret
      exact ⟨rfl, HB11.out⟩
    · have hk1 : (k5 != 0) = true := by rw [bne_iff_ne]; exact hk
      have HB6 := Lib.hid (HB5.out.alloc HB5.out.size (.cells #[.slice bL st06.L.length dL, .slice bU ([] : List Int).length dU, .slice bI st06.I.length dI, .slice bO st06.O.length dO, .int .i64 st06.D] 26))
      clear hp hL hU hI hO hk
      go_wp2_with (go_at_call 11; refine (awake6_any _ (Utf8Tabs_below HT.out HB6.out) (HE.out.below HB6.out) (HPw.out.below HB6.out) (HM.out.below HB6.out) (HTz.out.on HB6.out)).mono ?_; rintro e w11 ⟨rfl, hb⟩; have HB11 := Lib.hid (bstep HB6.out hb); clear hb)
      go_ret
      exact ⟨rfl, HB11.out⟩
  · obtain ⟨hr, rfl, rfl⟩ := hn
    clear hr c0 c1 c2 c3 c4
    go_wp2_with fail
    refine (parse6_any s _ hs (Utf8Tabs_below HT.out HB.out) (HE.out.below HB.out) (HPw.out.below HB.out) (HM.out.below HB.out) (HTz.out.on HB.out)).mono ?_
    rintro e w5 ⟨x, st5, S5, a5, k5, rfl, ⟨xL, xU, xI, xO, rfl, hL, hU, hI, hO⟩, hp, hb⟩
    have HB5 := Lib.hid (bstep HB.out hb)
    clear hb
    obtain ⟨bL, dL, rfl⟩ := hL.form
    obtain ⟨bU, dU, rfl⟩ := hU.form
    obtain ⟨bI, dI, rfl⟩ := hI.form
    obtain ⟨bO, dO, rfl⟩ := hO.form
    rcases parse_right hp with ⟨rfl, hr5, hw5⟩ | ⟨hk, rfl, rfl⟩
    · have HP5 := Lib.hid (polin_right hr5 hL hU hI hO)
      have HR5 := Lib.hid hr5
      have HW5 := Lib.hid hw5
      have hbW := (Below.refl w5.heap.size w5).alloc (Nat.le_refl _) (.cells #[(.slice bL st5.L.length dL), (.slice bU S5.length dU), (.slice bI st5.I.length dI), (.slice bO st5.O.length dO), .int .i64 st5.D] 26)
      have HC5 := Lib.hid (pol_cells w5 (.slice bL st5.L.length dL) (.slice bU S5.length dU) (.slice bI st5.I.length dI) (.slice bO st5.O.length dO) (.int .i64 st5.D) 26)
      have hsz : (w5.alloc (.cells #[(.slice bL st5.L.length dL), (.slice bU S5.length dU), (.slice bI st5.I.length dI), (.slice bO st5.O.length dO), .int .i64 st5.D] 26)).heap.size = w5.heap.size + 1 := World.size_alloc ..
      have HBW := Lib.hid hbW
      have HB6 := Lib.hid (bstep HB5.out hbW)
      clear hp hL hU hI hO hbW hr5 hw5
      go_wp2_with fail
      refine (print6_any (.slice bL st5.L.length dL) (.slice bU S5.length dU) (.slice bI st5.I.length dI) (.slice bO st5.O.length dO) st5 S5 _ (HP5.out.below HBW.out) HW5.out (HTz.out.on HB6.out) (Short7.mk (right_short HR5.out).1 (right_short HR5.out).2.1 (right_short HR5.out).2.2) (HPw.out.below HB6.out)).mono ?_
      rintro e w6 ⟨⟨u, k6, rfl, hpb⟩, hb⟩
      obtain ⟨rfl, hu⟩ := hpb.yes HR5.out
      have HU := Lib.hid hu
      have husz : u.size ≤ 65536 := by have := rightP_fit HR5.out HW5.out; rw [← hu, list_size] at this; exact this
      have HC6 := Lib.hid (fun c v hv => (hb.cell (p := ⟨w5.heap.size, c, none⟩) (cell_lt (HC5.out c v hv))).trans (HC5.out c v hv))
      have HB7 := Lib.hid (bstep HB6.out hb)
      have HP6 := Lib.hid ((HP5.out.below HBW.out).below hb)
      clear hb hpb hu hsz
      go_wp2_with fail
      refine (parse6_any u _ (by omega) (Utf8Tabs_below HT.out HB7.out) (HE.out.below HB7.out) (HPw.out.below HB7.out) (HM.out.below HB7.out) (HTz.out.on HB7.out)).mono ?_
      rintro e w7 ⟨y, st7, S7, a7, k7, rfl, ⟨yL, yU, yI, yO, rfl, hL, hU, hI, hO⟩, hp, hb⟩
      obtain ⟨lL, mL, rfl⟩ := hL.form
      obtain ⟨lU, mU, rfl⟩ := hU.form
      obtain ⟨lI, mI, rfl⟩ := hI.form
      obtain ⟨lO, mO, rfl⟩ := hO.form
      obtain ⟨rfl, rfl, e7⟩ := parse_print HR5.out HW5.out (right_64 HR5.out) (right_cov HR5.out) HU.out husz hp
      have e7b := e7.symm
      subst e7b
      have HY := Lib.hid (show PolV w7 (.agg #[(.slice lL st5.L.length mL), (.slice lU S5.length mU), (.slice lI st5.I.length mI), (.slice lO st5.O.length mO), .int .i64 st5.D]) st5 S5 from ⟨(.slice lL st5.L.length mL), (.slice lU S5.length mU), (.slice lI st5.I.length mI), (.slice lO st5.O.length mO), rfl, hL, hU, hI, hO⟩)
      have hbZ := (Below.refl w7.heap.size w7).alloc (Nat.le_refl _) (.cells #[(.slice lL st5.L.length mL), (.slice lU S5.length mU), (.slice lI st5.I.length mI), (.slice lO st5.O.length mO), .int .i64 st5.D] 26)
      have hcy := pol_cells w7 (.slice lL st5.L.length mL) (.slice lU S5.length mU) (.slice lI st5.I.length mI) (.slice lO st5.O.length mO) (.int .i64 st5.D) 26
      have HC7 := Lib.hid (fun c v hv => ((hb.trans (hbZ.mono hb.size)).cell (p := ⟨w5.heap.size, c, none⟩) (cell_lt (HC6.out c v hv))).trans (HC6.out c v hv))
      have HB8 := Lib.hid (bstep HB7.out (hb.trans (hbZ.mono hb.size)))
      have HP8 := Lib.hid (HP6.out.below (hb.trans (hbZ.mono hb.size)))
      have HY8 := Lib.hid (polv_on HY.out hbZ)
      have HLN := Lib.hid (right_len6 HR5.out)
      clear hL hU hI hO hp hb hbZ HC6
      have HCY := Lib.hid hcy
      clear hcy
      have x0 := HC7.out 0 _ rfl
      have x1 := HC7.out 1 _ rfl
      have x2 := HC7.out 2 _ rfl
      have x3 := HC7.out 3 _ rfl
      have x4 := HC7.out 4 _ rfl
      go_wp2_with (first
        | (go_at_call 9; refine (right6_any (.slice bL st5.L.length dL) (.slice bU S5.length dU) (.slice bI st5.I.length dI) (.slice bO st5.O.length dO) st5 S5 _ HP8.out HW5.out (HTz.out.on HB8.out) (Short7.six (Short7.mk (right_short HR5.out).1 (right_short HR5.out).2.1 (right_short HR5.out).2.2))).mono ?_; rintro e w9 ⟨rfl, hb⟩; rw [HR5.out]; have HB9 := Lib.hid (bstep HB8.out hb); have HP9 := Lib.hid (HP8.out.below hb); have HY9 := Lib.hid (polv_on HY8.out hb); have HC9 := Lib.hid (fun c v hv => (hb.cell (p := ⟨w5.heap.size, c, none⟩) (cell_lt (HC7.out c v hv))).trans (HC7.out c v hv)); have HCZ := Lib.hid (fun c v hv => (hb.cell (p := ⟨w7.heap.size, c, none⟩) (cell_lt (HCY.out c v hv))).trans (HCY.out c v hv)); clear hb x0 x1 x2 x3 x4; have x0 := HC9.out 0 _ rfl; have x1 := HC9.out 1 _ rfl; have x2 := HC9.out 2 _ rfl; have x3 := HC9.out 3 _ rfl; have x4 := HC9.out 4 _ rfl; have y0 := HCZ.out 0 _ rfl; have y1 := HCZ.out 1 _ rfl; have y2 := HCZ.out 2 _ rfl; have y3 := HCZ.out 3 _ rfl; have y4 := HCZ.out 4 _ rfl)
        | (go_at_call 13; refine (rsame6_any _ _ st5 S5 _ (polv_in HP9.out) HY9.out HLN.out.1 HLN.out.2.1 HLN.out.2.2.1 HLN.out.2.2.2).mono ?_; rintro e w10 ⟨rfl, hb⟩; have HB10 := Lib.hid (bstep HB9.out hb); clear hb x0 x1 x2 x3 x4 y0 y1 y2 y3 y4)
        | (go_at_call 11; refine (awake6_any _ (Utf8Tabs_below HT.out HB10.out) (HE.out.below HB10.out) (HPw.out.below HB10.out) (HM.out.below HB10.out) (HTz.out.on HB10.out)).mono ?_; rintro e w11 ⟨rfl, hb⟩; have HB11 := Lib.hid (bstep HB10.out hb); clear hb))
      go_ret
      exact ⟨rfl, HB11.out⟩
    · have hk1 : (k5 != 0) = true := by rw [bne_iff_ne]; exact hk
      have HB6 := Lib.hid (HB5.out.alloc HB5.out.size (.cells #[.slice bL st06.L.length dL, .slice bU ([] : List Int).length dU, .slice bI st06.I.length dI, .slice bO st06.O.length dO, .int .i64 st06.D] 26))
      clear hp hL hU hI hO hk
      go_wp2_with (go_at_call 11; refine (awake6_any _ (Utf8Tabs_below HT.out HB6.out) (HE.out.below HB6.out) (HPw.out.below HB6.out) (HM.out.below HB6.out) (HTz.out.on HB6.out)).mono ?_; rintro e w11 ⟨rfl, hb⟩; have HB11 := Lib.hid (bstep HB6.out hb); clear hb)
      go_ret
      exact ⟨rfl, HB11.out⟩
end Go.Proofs.YthjfgfgkbfhdfaaGreatDoor
