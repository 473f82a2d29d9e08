import Derived.Test.YtodhoplchficpaaDoorSymX
set_option linter.unusedSimpArgs false
set_option linter.unusedVariables false
/-! SymGrows, walked -/
namespace Go.Proofs.YtodhoplchficpaaDoor
open Go.RowKit
open SV (Lab SysOk Least labs sumOf mu sumP at' natsL askT askI fanN lok ljoin val le Bnd)
/-- a call and a label in their boxes -/
def MoreB (W : World) (uv av : Value) (a m p1 p2 r1 r2 : Int) (V : World) : Prop := Below W.heap.size W V ∧ W.heap.size + 2 ≤ V.heap.size ∧ V.heap[W.heap.size]? = some (.cells #[uv, .int .i64 a, .int .u64 m, av, .int .i64 p1, .int .u64 p2] 46) ∧ V.heap[W.heap.size + 1]? = some (.cells #[.int .i64 r1, .int .u64 r2] 38)
theorem MoreB.on {W U V : World} {uv av : Value} {a m p1 p2 r1 r2 : Int} (h : MoreB W uv av a m p1 p2 r1 r2 U) (hb : Below U.heap.size U V) : MoreB W uv av a m p1 p2 r1 r2 V :=
  ⟨h.1.trans (hb.mono h.1.size), Nat.le_trans h.2.1 hb.size, (hb.block _ (by have := h.2.1; omega)).trans h.2.2.1, (hb.block _ (by have := h.2.1; omega)).trans h.2.2.2⟩
theorem MoreB.drew {W U : World} {uv av : Value} {a m p1 p2 r1 r2 : Int} (h : MoreB W uv av a m p1 p2 r1 r2 U) : MoreB W uv av a m p1 p2 r1 r2 U.drew := ⟨h.1.drew, h.2.1, h.2.2⟩
theorem MoreB.cells {W V : World} {uv av : Value} {a m p1 p2 r1 r2 : Int} (h : MoreB W uv av a m p1 p2 r1 r2 V) : V.cell? ⟨W.heap.size, 0, none⟩ = some uv ∧ V.cell? ⟨W.heap.size, 1, none⟩ = some (.int .i64 a) ∧ V.cell? ⟨W.heap.size, 2, none⟩ = some (.int .u64 m) ∧ V.cell? ⟨W.heap.size, 3, none⟩ = some av ∧ V.cell? ⟨W.heap.size, 4, none⟩ = some (.int .i64 p1) ∧ V.cell? ⟨W.heap.size, 5, none⟩ = some (.int .u64 p2) ∧ V.cell? ⟨W.heap.size + 1, 0, none⟩ = some (.int .i64 r1) ∧ V.cell? ⟨W.heap.size + 1, 1, none⟩ = some (.int .u64 r2) :=
  ⟨cell_of_row _ _ 0 _ _ _ h.2.2.1, cell_of_row _ _ 1 _ _ _ h.2.2.1, cell_of_row _ _ 2 _ _ _ h.2.2.1, cell_of_row _ _ 3 _ _ _ h.2.2.1, cell_of_row _ _ 4 _ _ _ h.2.2.1, cell_of_row _ _ 5 _ _ _ h.2.2.1, (two_lab h.2.2.2).1, (two_lab h.2.2.2).2⟩
theorem moreB_start (W : World) (uv av : Value) (a m p1 p2 r1 r2 : Int) : MoreB W uv av a m p1 p2 r1 r2 ((W.alloc (.cells #[uv, .int .i64 a, .int .u64 m, av, .int .i64 p1, .int .u64 p2] 46)).alloc (.cells #[.int .i64 r1, .int .u64 r2] 38)) :=
  ⟨((Below.refl _ _).alloc (Nat.le_refl _) _).alloc (by simp) _, by simp, by rw [heap_alloc_old _ _ (by simp), heap_alloc_new], SS.new_at (by simp)⟩
set_option maxRecDepth 100000 in
set_option maxHeartbeats 12800000 in
theorem symGrows_walk {ua aa : Option Addr} {uc ac : Nat} {xs : List Int} {a m p1 p2 r1 r2 aq : Int} {args : List (Int × Int)} (W : World) (hu : Nums .u64 W.heap.size W (.slice ua xs.length uc) xs) (hx : Wide xs) (hxl : xs.length ≤ big5) (hT : Tz W) (hav : LabRow W.heap.size W (.slice aa args.length ac) args) (hwa : WideL args) (hal : args.length ≤ 17592186044416) (hm : 0 ≤ m ∧ m ≤ 18446744073709551615) (hpm : 0 ≤ p2 ∧ p2 ≤ 18446744073709551615) (hrm : 0 ≤ r2 ∧ r2 ≤ 18446744073709551615) :
    Calls Tryd.prog 10 #[.agg #[.slice ua xs.length uc, .int .i64 a, .int .u64 m, .slice aa args.length ac, .int .i64 p1, .int .u64 p2], .int .i64 aq, .agg #[.int .i64 r1, .int .u64 r2]] W fun e V => e = .returned (.bool true) ∧ Below W.heap.size W V := by
  obtain ⟨j0, hj0, hw0, hw1, hw2⟩ := info_parts infoLab
  have HU := Lib.hid hu
  have HX := Lib.hid hx
  have HA := Lib.hid hav
  have HWA := Lib.hid hwa
  have HM := Lib.hid hm
  have HPM := Lib.hid hpm
  have HRM := Lib.hid hrm
  have HAW := Lib.hid (fun w (hb : Below W.heap.size W w) => awake19_any w (hT.on hb))
  have HPUT := Lib.hid (fun w (hb : Below W.heap.size W w) {v : Value} {l : List (Int × Int)} {pc : Int × Int} (hv : LabRow w.heap.size w v l) (hw : WideL l) (hp : 0 ≤ pc.2 ∧ pc.2 ≤ 18446744073709551615) (hl : l.length ≤ 17592186044416) => sput_any (a := a) (m := m) (pc := pc) w ((hu.below hb).mono hb.size) hx hxl (hT.on hb) hv hw hm hp hl)
  have HJN := Lib.hid (fun w (hb : Below W.heap.size W w) {b k : Int} (hk : 0 ≤ k ∧ k ≤ 18446744073709551615) => sjoin2_any (a := b) (m := k) (b := r1) (k := r2) w ((hu.below hb).mono hb.size) hx hxl (hT.on hb) hk hrm)
  have HLQ := Lib.hid (fun w (hb : Below W.heap.size W w) {a m b k : Int} (hm : 0 ≤ m ∧ m ≤ 18446744073709551615) (hk : 0 ≤ k ∧ k ≤ 18446744073709551615) => sleq_any (a := a) (m := m) (b := b) (k := k) w ((hu.below hb).mono hb.size) hx hxl (hT.on hb) hm hk)
  have b0 : (xs.length : Int) ≤ 17592186044416 := by have := hxl; unfold big5 at this; omega
  have b1 : (args.length : Int) ≤ 17592186044416 := by omega
  obtain ⟨z, ez⟩ : ∃ z, z = putB xs a m args (p1, p2) := ⟨_, rfl⟩
  obtain ⟨y1, ey1⟩ : ∃ y1 : Int, y1 = if z = true then ((putJ xs a m args (p1, p2)).1 : Int) else 0 := ⟨_, rfl⟩
  obtain ⟨y2, ey2⟩ : ∃ y2 : Int, y2 = if z = true then (putJ xs a m args (p1, p2)).2 else 0 := ⟨_, rfl⟩
  have HJR := Lib.hid (show jRet (putB xs a m args (p1, p2)) (putJ xs a m args (p1, p2)) = .tuple #[.agg #[.int .i64 y1, .int .u64 y2], .bool z] by unfold jRet; rw [ey1, ey2, ez])
  have HZ := Lib.hid ez
  have HY := Lib.hid (And.intro ey1 ey2)
  have HS0 := Lib.hid (moreB_start W (.slice ua xs.length uc) (.slice aa args.length ac) a m p1 p2 r1 r2)
  obtain ⟨W0, eW0⟩ : ∃ W0, W0 = (W.alloc (.cells #[.slice ua xs.length uc, .int .i64 a, .int .u64 m, .slice aa args.length ac, .int .i64 p1, .int .u64 p2] 46)).alloc (.cells #[.int .i64 r1, .int .u64 r2] 38) := ⟨_, rfl⟩
  rw [← eW0] at HS0
  obtain ⟨hc0, hc1, hc2, hc3, hc4, hc5, hc6, hc7⟩ := HS0.out.cells
  clear hu hx hxl hT hav hwa hal hm hpm hrm ez ey1 ey2
  by_cases h20 : (20 : Int) < xs.length
  · have j20 : decide ((xs.length : Int) > 20) = true := decide_eq_true h20
    have k20 : decide ((20 : Int) < xs.length) = true := decide_eq_true h20
    go_enter Tryd.func10, Tryd.ntmps10
    go_upto_region 1 with fail
    rw [← eW0]
    clear eW0
    go_wp2_with fail
    go_ret
    exact ⟨rfl, HS0.out.1⟩
  have j20 : decide ((xs.length : Int) > 20) = false := decide_eq_false h20
  have k20 : decide ((20 : Int) < xs.length) = false := decide_eq_false h20
  by_cases h6 : (6 : Int) < args.length
  · have j6 : decide ((args.length : Int) > 6) = true := decide_eq_true h6
    have k6 : decide ((6 : Int) < args.length) = true := decide_eq_true h6
    go_enter Tryd.func10, Tryd.ntmps10
    go_upto_region 1 with fail
    rw [← eW0]
    clear eW0
    go_wp2_with fail
    go_ret
    exact ⟨rfl, HS0.out.1⟩
  have j6 : decide ((args.length : Int) > 6) = false := decide_eq_false h6
  have k6 : decide ((6 : Int) < args.length) = false := decide_eq_false h6
  have i6 : (args.length : Int) ≤ 6 := by omega
  go_enter Tryd.func10, Tryd.ntmps10
  go_upto_region 1 with fail
  rw [← eW0]
  clear eW0
  go_upto_region 4 with (go_at_call 23; refine (HPUT.out W0 HS0.out.1 (pc := (p1, p2)) ((HA.out.below HS0.out.1).mono HS0.out.1.size) HWA.out HPM.out (by omega)).mono ?_; rintro e w2 ⟨rfl, hb⟩; rw [HJR.out]; have HX2 := Lib.hid (HS0.out.on hb); clear hb)
  clear j20 k20 j6 k6 h20 h6 hc0 hc1 hc2 hc3 hc4 hc5 hc6 hc7 HJR HS0
  have HX3 := Lib.hid (HX2.out.on ((Below.refl w2.heap.size w2).alloc (Nat.le_refl _) (.cells #[.int .i64 y1, .int .u64 y2] 38)))
  have HL3 := Lib.hid (heap_alloc_new w2 (.cells #[.int .i64 y1, .int .u64 y2] 38))
  generalize w2.alloc (.cells #[.int .i64 y1, .int .u64 y2] 38) = w3 at HX3 HL3 ⊢
  obtain ⟨lb, elb⟩ : ∃ lb, lb = w2.heap.size := ⟨_, rfl⟩
  rw [← elb] at HL3 ⊢
  clear elb HX2
  cases z with
  | false =>
    go_wp2_with (go_at_call 20; refine (HAW.out _ HX3.out.1).mono ?_; rintro e w9 ⟨rfl, hb⟩; have HF := Lib.hid (HX3.out.on hb); clear hb)
    go_ret
    exact ⟨rfl, HF.out.1⟩
  | true =>
    have HP := Lib.hid (putB_iff.1 HZ.out.symm)
    obtain ⟨e1, e2⟩ := HY.out
    rw [if_pos rfl] at e1 e2
    have HYK := Lib.hid (show 0 ≤ y2 ∧ y2 ≤ 18446744073709551615 by rw [e2]; exact (putJ_ok HP.out HX.out HWA.out HPM.out).2)
    have HE := Lib.hid (And.intro e1 e2)
    clear HY HZ e1 e2
    obtain ⟨hc0, hc1, hc2, hc3, hc4, hc5, hc6, hc7⟩ := HX3.out.cells
    obtain ⟨is, eis⟩ : ∃ is, is = jB xs [(p1, p2), (r1, r2)] := ⟨_, rfl⟩
    obtain ⟨q1, eq1⟩ : ∃ q1 : Int, q1 = if is = true then ((joinVal xs [(p1, p2), (r1, r2)] [1]).1 : Int) else 0 := ⟨_, rfl⟩
    obtain ⟨q2, eq2⟩ : ∃ q2 : Int, q2 = if is = true then (joinVal xs [(p1, p2), (r1, r2)] [1]).2 else 0 := ⟨_, rfl⟩
    have HQR := Lib.hid (show jRet (jB xs [(p1, p2), (r1, r2)]) (joinVal xs [(p1, p2), (r1, r2)] [1]) = .tuple #[.agg #[.int .i64 q1, .int .u64 q2], .bool is] by unfold jRet; rw [eq1, eq2, eis])
    have HIS := Lib.hid eis
    have HQ := Lib.hid (And.intro eq1 eq2)
    clear eis eq1 eq2
    have hk3 := (HX3.out.on ((Below.refl w3.heap.size w3).alloc (Nat.le_refl _) (.cells #[] 38))).cells.2.2.2.1
    go_upto_region 8 with (first
      | (at_builtin
         refine GG.wpList_append_any rfl _ _ 23 rfl w3.heap.size 38 j0 (.agg #[.int .i64 0, .int .u64 0]) 2 16 Tryd.underlying23 hj0 hw0 hw1 hw2 rfl (by decide) (.slice (some ⟨w3.heap.size, 0, none⟩) 0 0) 0 [] rfl (lit_rowS (heap_alloc_new w3 (.cells #[] 38)) (Nat.le_refl _)) (.slice aa args.length ac) args.length (labV args) rfl (labV_len args) ((HA.out.below (HX3.out.1.alloc HX3.out.1.size _)).src) (labV_one args) (by unfold maxLen; omega) (by omega) (by simp) ?_
         intro v4 w4 ho hg
         have HO4 := Lib.hid (own0S ho)
         have HB4 := Lib.hid (((Below.refl w3.heap.size w3).alloc (Nat.le_refl _) (.cells #[] 38)).grown hg (by simp) (fun k e => by have h1 : w3.heap.size = k := Option.some.inj e; omega))
         have HX4 := Lib.hid (HX3.out.on HB4.out)
         obtain ⟨a4, c4, rfl⟩ := SS.ownOf HO4.out
         clear ho hg hk3 hc0 hc1 hc2 hc3 hc4 hc5 hc6 hc7
         obtain ⟨hc0, hc1, hc2, hc3, hc4, hc5, hc6, hc7⟩ := HX4.out.cells)
      | (go_at_call 16; refine (HJN.out w4 HX4.out.1 HPM.out).mono ?_; rintro e w5 ⟨rfl, hb⟩; rw [HQR.out]; have HX5 := Lib.hid (HX4.out.on hb); have HB5 := Lib.hid (HB4.out.trans (hb.mono HB4.out.size)); have HO5 := Lib.hid (SS.own_of_block HO4.out (fun k e => hb.block k (HO4.out.lt k e).2)); clear hb hc0 hc1 hc2 hc3 hc4 hc5 hc6 hc7))
    have hba : Below w5.heap.size w5 (w5.alloc (.cells #[.int .i64 q1, .int .u64 q2] 38)) := (Below.refl _ _).alloc (Nat.le_refl _) _
    have HX6 := Lib.hid (HX5.out.on hba)
    have HB6 := Lib.hid (HB5.out.trans (hba.mono HB5.out.size))
    have HO6 := Lib.hid (HO5.out.alloc (.cells #[.int .i64 q1, .int .u64 q2] 38))
    have HL6 := Lib.hid (heap_alloc_new w5 (.cells #[.int .i64 q1, .int .u64 q2] 38))
    have HRB := Lib.hid (fun k (e : (Value.slice a4 args.length c4).ownBlock = some k) => (HO5.out.lt k e).2)
    generalize w5.alloc (.cells #[.int .i64 q1, .int .u64 q2] 38) = w6 at HX6 HB6 HO6 HL6 ⊢
    obtain ⟨qb, eqb⟩ : ∃ qb, qb = w5.heap.size := ⟨_, rfl⟩
    rw [← eqb] at HL6 HRB ⊢
    have HQB := Lib.hid (show w3.heap.size ≤ qb by rw [eqb]; exact HB5.out.size)
    clear hba eqb HX5 HB5 HO5 HX4 HB4 HO4 HQR
    have HM3 := Lib.hid ((HB6.out.block lb (Array.getElem?_eq_some_iff.1 HL3.out).1).trans HL3.out)
    obtain ⟨hc0, hc1, hc2, hc3, hc4, hc5, hc6, hc7⟩ := HX6.out.cells
    cases is with
    | false =>
      clear HIS HQ
      go_wp2_with (go_at_call 20; refine (HAW.out _ HX6.out.1).mono ?_; rintro e w9 ⟨rfl, hb⟩; have HF := Lib.hid (HX6.out.on hb); clear hb)
      go_ret
      exact ⟨rfl, HF.out.1⟩
    | true =>
      have his := HIS.out.symm
      rw [jB2, Bool.and_eq_true, Bool.and_eq_true] at his
      have hrl := his.2.2
      unfold labOk at hrl
      have HRK := Lib.hid (show lok xs (((r1, r2) : Int × Int).1.toNat, ((r1, r2) : Int × Int).2) from lok_of (of_decide_eq_true hrl) HRM.out)
      have HRL := Lib.hid his.2.2
      obtain ⟨e1, e2⟩ := HQ.out
      rw [if_pos rfl, join2_ret] at e1 e2
      have HQE := Lib.hid (show joinI2 xs (p1, p2) (r1, r2) = (q1, q2) by unfold joinI2; rw [e1, e2])
      have HQK := Lib.hid (show 0 ≤ q2 ∧ q2 ≤ 18446744073709551615 by
        have h := (joinI2_ok HP.out.right HX.out (lok_of HP.out.place HPM.out) HRK.out).1.2
        rw [HQE.out] at h
        exact h)
      clear his hrl e1 e2 HQ HIS
      go_upto_if 58 with fail
      go_cut [12] from 58 (fun s12 w9 => ∃ new, GrownA xs HP.out.right HX.out args new ∧ MoreB W (.slice ua xs.length uc) (.slice aa args.length ac) a m p1 p2 r1 r2 w9 ∧ w9.ownsRow w3.heap.size 38 2 (.slice a4 args.length c4) args.length (labV new) ∧ w9.heap[lb]? = some (.cells #[.int .i64 y1, .int .u64 y2] 38) ∧ w9.heap[qb]? = some (.cells #[.int .i64 q1, .int .u64 q2] 38))
      case first =>
        by_cases h0 : args.length = 0
        · have i0 : ¬ ((args.length : Int) > 0) := by omega
          have n0 : ¬ (0 < args.length) := by omega
          have j0' : decide ((args.length : Int) > 0) = false := decide_eq_false i0
          have k0' : decide ((0 : Int) < args.length) = false := decide_eq_false i0
          clear h0 i0
          go_wp2_with fail
          go_meet
          case rel => exact ⟨args, grownA_refl HP.out HX.out HWA.out, HX6.out, HO6.out, HM3.out, HL6.out⟩
        · have i0 : (args.length : Int) > 0 := by omega
          have n0 : 0 < args.length := by omega
          have j0' : decide ((args.length : Int) > 0) = true := decide_eq_true i0
          have k0' : decide ((0 : Int) < args.length) = true := decide_eq_true i0
          obtain ⟨k, g2, hk⟩ := mod_natS aq args.length (by omega)
          have HK := Lib.hid hk
          have u0 := u64_natS args.length (by omega)
          have u1 := i64_natS k (by omega)
          have u2 : ¬ (args.length : Int) = 0 := by omega
          have u3 : ¬ args = [] := by intro e; rw [e] at h0; exact h0 rfl
          have i1 : (0 : Int) ≤ k ∧ (k : Int) < args.length := by omega
          obtain ⟨gb, gc, e⟩ := SS.own_some HO6.out (by omega)
          cases e
          have hlv := labV_at (s := args) hk
          have HLV := Lib.hid hlv
          have HWK := Lib.hid (HWA.out _ (GG.getD_mem (d := s0) hk))
          have HGS := Lib.hid (grownA_set HP.out HX.out HWA.out HRK.out hk)
          obtain ⟨⟨g1, h2⟩, eg⟩ : ∃ g, g = args[k]?.getD s0 := ⟨_, rfl⟩
          have HLK := Lib.hid (show labOk xs.length (g1, h2) = true by
            rw [eg]
            unfold labOk
            exact decide_eq_true (HP.out.args k hk))
          rw [← eg] at HLV HWK HGS
          clear h0 hk hlv eg
          obtain ⟨⟨n1, n2⟩, en⟩ : ∃ n, n = joinI2 xs (g1, h2) (r1, r2) := ⟨_, rfl⟩
          rw [← en] at HGS
          have HNR := Lib.hid (show jRet (jB xs [(g1, h2), (r1, r2)]) (joinVal xs [(g1, h2), (r1, r2)] [1]) = .tuple #[.agg #[.int .i64 n1, .int .u64 n2], .bool true] by
            have e1 : jB xs [(g1, h2), (r1, r2)] = true := by rw [jB2, HP.out.right, HLK.out, HRL.out]; rfl
            unfold joinI2 at en
            simp only [Prod.mk.injEq] at en
            unfold jRet
            rw [e1, if_pos rfl, if_pos rfl, join2_ret, en.1, en.2])
          have HGB := Lib.hid (show gb < qb from HRB.out gb rfl)
          have HGL := Lib.hid (show w3.heap.size ≤ gb from (HO6.out.lt gb rfl).1)
          have HLL := Lib.hid (Array.getElem?_eq_some_iff.1 HL3.out).1
          clear en
          go_upto_region 12 with fail
          have HX7 := Lib.hid HX6.out.drew
          have HO7 := Lib.hid (show w6.drew.ownsRow w3.heap.size 38 2 (.slice (some ⟨gb, 0, none⟩) args.length c4) args.length (labV args) from HO6.out)
          have HM7 := Lib.hid (show w6.drew.heap[lb]? = some (.cells #[.int .i64 y1, .int .u64 y2] 38) from HM3.out)
          have HL7 := Lib.hid (show w6.drew.heap[qb]? = some (.cells #[.int .i64 q1, .int .u64 q2] 38) from HL6.out)
          refine wp_region_held_drew (S := (fun V => V.cell? ⟨W.heap.size, 0, none⟩ = some (.slice ua xs.length uc) ∧ V.cell? ⟨W.heap.size + 1, 0, none⟩ = some (.int .i64 r1) ∧ V.cell? ⟨W.heap.size + 1, 1, none⟩ = some (.int .u64 r2))) (by kernel_rfl) ?_ (fun hHeld => ?_)
          · exact ⟨HX7.out.cells.1, HX7.out.cells.2.2.2.2.2.2.1, HX7.out.cells.2.2.2.2.2.2.2⟩
          clear hc0 hc1 hc2 hc3 hc4 hc5 hc6 hc7 HX6 HO6 HM3 HL6 HB6
          generalize w6.drew = w0 at HX7 HO7 HM7 HL7 hHeld ⊢
          have HR0 := Lib.hid (Below.refl w0.heap.size w0)
          refine wpAnyH_take (i := 0) (v := .slice (some ⟨gb, 0, none⟩) args.length c4) rfl (by kernel_rfl) (by kernel_rfl) (by kernel_rfl) (fun _ _ _ h => h) (Or.inl ⟨by rfl, fun W hSW => ?_⟩) hHeld ?_
          · ((try dsimp only at hSW); go_split_ands; go_simp <;> with_reducible rfl)
          try simp only [List.getElem_toArray, List.getElem_cons_succ, List.getElem_cons_zero, Act.put, List.setIfInBounds_toArray, List.set_cons_zero, List.set_cons_succ]
          refine wpAnyH_take (i := 1) (v := .int .i64 k) rfl (by kernel_rfl) (by kernel_rfl) (by kernel_rfl) (fun _ _ _ h => h) (Or.inl ⟨by rfl, fun W hSW => ?_⟩) hHeld ?_
          · ((try dsimp only at hSW); go_split_ands; go_simp <;> with_reducible rfl)
          try simp only [List.getElem_toArray, List.getElem_cons_succ, List.getElem_cons_zero, Act.put, List.setIfInBounds_toArray, List.set_cons_zero, List.set_cons_succ]
          refine wpAnyH_take (i := 2) (v := .pointer (some ⟨W.heap.size, 0, none⟩)) rfl (by kernel_rfl) (by kernel_rfl) (by kernel_rfl) (fun _ _ _ h => h) (Or.inl ⟨by rfl, fun W hSW => ?_⟩) hHeld ?_
          · ((try dsimp only at hSW); go_split_ands; go_simp <;> with_reducible rfl)
          try simp only [List.getElem_toArray, List.getElem_cons_succ, List.getElem_cons_zero, Act.put, List.setIfInBounds_toArray, List.set_cons_zero, List.set_cons_succ]
          refine wpAnyH_take (i := 3) (v := .slice ua xs.length uc) rfl (by kernel_rfl) (by kernel_rfl) (by kernel_rfl) (fun _ _ _ h => h) (Or.inl ⟨by rfl, fun W hSW => ?_⟩) hHeld ?_
          · ((try dsimp only at hSW); go_split_ands; go_simp <;> with_reducible rfl)
          try simp only [List.getElem_toArray, List.getElem_cons_succ, List.getElem_cons_zero, Act.put, List.setIfInBounds_toArray, List.set_cons_zero, List.set_cons_succ]
          refine wpAnyH_take (i := 4) (v := .slice (some ⟨gb, 0, none⟩) args.length c4) rfl (by kernel_rfl) (by kernel_rfl) (by kernel_rfl) (fun _ _ _ h => h) (Or.inl ⟨by rfl, fun W hSW => ?_⟩) hHeld ?_
          · ((try dsimp only at hSW); go_split_ands; go_simp <;> with_reducible rfl)
          try simp only [List.getElem_toArray, List.getElem_cons_succ, List.getElem_cons_zero, Act.put, List.setIfInBounds_toArray, List.set_cons_zero, List.set_cons_succ]
          refine wpAnyH_take (i := 5) (v := .int .i64 k) rfl (by kernel_rfl) (by kernel_rfl) (by kernel_rfl) (fun _ _ _ h => h) (Or.inl ⟨by rfl, fun W hSW => ?_⟩) hHeld ?_
          · ((try dsimp only at hSW); go_split_ands; go_simp <;> with_reducible rfl)
          try simp only [List.getElem_toArray, List.getElem_cons_succ, List.getElem_cons_zero, Act.put, List.setIfInBounds_toArray, List.set_cons_zero, List.set_cons_succ]
          refine wpAnyH_take (i := 6) (v := .pointer (some ⟨gb, k * 2, none⟩)) rfl (by kernel_rfl) (by kernel_rfl) (by kernel_rfl) (fun _ _ _ h => h) (Or.inl ⟨by rfl, fun W hSW => ?_⟩) hHeld ?_
          · ((try dsimp only at hSW); go_split_ands; go_simp <;> with_reducible rfl)
          try simp only [List.getElem_toArray, List.getElem_cons_succ, List.getElem_cons_zero, Act.put, List.setIfInBounds_toArray, List.set_cons_zero, List.set_cons_succ]
          refine wpAnyH_take (i := 8) (v := .agg #[.int .i64 r1, .int .u64 r2]) rfl (by kernel_rfl) (by kernel_rfl) (by kernel_rfl) (fun _ _ _ h => h) (Or.inl ⟨by rfl, fun W hSW => ?_⟩) hHeld ?_
          · ((try dsimp only at hSW); go_split_ands; go_simp <;> with_reducible rfl)
          try simp only [List.getElem_toArray, List.getElem_cons_succ, List.getElem_cons_zero, Act.put, List.setIfInBounds_toArray, List.set_cons_zero, List.set_cons_succ]
          refine wpAnyH_ready (rs := [7]) (by kernel_rfl) (by simp) ?_
          refine AllReadyH.cons rfl (fun K hK => ?_) ?_
          · have hg1 := own_cellZ HO7.out HLV.out.1
            have hg2 := own_cellZ HO7.out HLV.out.2
            try simp only [List.getElem_toArray, List.getElem_cons_succ, List.getElem_cons_zero]
            go_simp
            refine hK.out _ _ ?_ (fun hHeld => ?_)
            · exact ⟨(HX7.out.on HR0.out).cells.1, (HX7.out.on HR0.out).cells.2.2.2.2.2.2.1, (HX7.out.on HR0.out).cells.2.2.2.2.2.2.2⟩
            clear hK K
            try simp only [List.getElem_toArray, List.getElem_cons_succ, List.getElem_cons_zero, Act.put, List.setIfInBounds_toArray, List.set_cons_zero, List.set_cons_succ]
            refine wpAnyH_ready (rs := [9]) (by kernel_rfl) (by simp) ?_
            refine AllReadyH.cons rfl (fun K hK => ?_) ?_
            · try simp only [List.getElem_toArray, List.getElem_cons_succ, List.getElem_cons_zero]
              go_simp
              (go_at_call 16; refine (HJN.out w0 (HX7.out.on HR0.out).1 HWK.out).mono ?_; rintro e wy1 ⟨rfl, hb⟩; rw [HNR.out])
              clear hg1 hg2
              have F1_base := Lib.hid (HR0.out.trans (hb.mono HR0.out.size))
              have F1_row := Lib.hid (SS.own_of_block HO7.out (fun k e => hb.block k (HO7.out.lt k e).2))
              have F1_lb := Lib.hid ((hb.block _ (Array.getElem?_eq_some_iff.1 HM7.out).1).trans HM7.out)
              have F1_qb := Lib.hid ((hb.block _ (Array.getElem?_eq_some_iff.1 HL7.out).1).trans HL7.out)
              clear hb
              try go_wp2_with fail
              refine hK.out _ _ ?_ (fun hHeld => ?_)
              · exact ⟨(HX7.out.on F1_base.out).cells.1, (HX7.out.on F1_base.out).cells.2.2.2.2.2.2.1, (HX7.out.on F1_base.out).cells.2.2.2.2.2.2.2⟩
              clear hK K
              try simp only [List.getElem_toArray, List.getElem_cons_succ, List.getElem_cons_zero, Act.put, List.setIfInBounds_toArray, List.set_cons_zero, List.set_cons_succ]
              refine wpAnyH_take (i := 10) (v := .tuple #[.agg #[.int .i64 n1, .int .u64 n2], .bool true]) rfl (by kernel_rfl) (by kernel_rfl) (by kernel_rfl) (fun _ _ _ h => h) (Or.inl ⟨by rfl, fun W hSW => ?_⟩) hHeld ?_
              · ((try dsimp only at hSW); go_split_ands; go_simp <;> with_reducible rfl)
              try simp only [List.getElem_toArray, List.getElem_cons_succ, List.getElem_cons_zero, Act.put, List.setIfInBounds_toArray, List.set_cons_zero, List.set_cons_succ]
              refine wpAnyH_take (i := 11) (v := .agg #[.int .i64 n1, .int .u64 n2]) rfl (by kernel_rfl) (by kernel_rfl) (by kernel_rfl) (fun _ _ _ h => h) (Or.inl ⟨by rfl, fun W hSW => ?_⟩) hHeld ?_
              · ((try dsimp only at hSW); go_split_ands; go_simp <;> with_reducible rfl)
              try simp only [List.getElem_toArray, List.getElem_cons_succ, List.getElem_cons_zero, Act.put, List.setIfInBounds_toArray, List.set_cons_zero, List.set_cons_succ]
              refine wpAnyH_take (i := 12) (v := .bool true) rfl (by kernel_rfl) (by kernel_rfl) (by kernel_rfl) (fun _ _ _ h => h) (Or.inl ⟨by rfl, fun W hSW => ?_⟩) hHeld ?_
              · ((try dsimp only at hSW); go_split_ands; go_simp <;> with_reducible rfl)
              try simp only [List.getElem_toArray, List.getElem_cons_succ, List.getElem_cons_zero, Act.put, List.setIfInBounds_toArray, List.set_cons_zero, List.set_cons_succ]
              refine wpAnyH_take (i := 13) (v := .pointer (some ⟨gb, k * 2, none⟩)) rfl (by kernel_rfl) (by kernel_rfl) (by kernel_rfl) (fun _ _ _ h => h) (Or.inl ⟨by rfl, fun W hSW => ?_⟩) hHeld ?_
              · ((try dsimp only at hSW); go_split_ands; go_simp <;> with_reducible rfl)
              try simp only [List.getElem_toArray, List.getElem_cons_succ, List.getElem_cons_zero, Act.put, List.setIfInBounds_toArray, List.set_cons_zero, List.set_cons_succ]
              refine wpAnyH_ready (rs := [14]) (by kernel_rfl) (by simp) ?_
              refine AllReadyH.cons rfl (fun K hK => ?_) ?_
              · have hs1 := own_cellZ F1_row.out HLV.out.1
                have hs2 := own_cellZ F1_row.out HLV.out.2
                have hf1 := own_freeZ F1_row.out (k * 2)
                have hf2 := own_freeZ F1_row.out (k * 2 + 1)
                have st1 := World.ownsRow.stored F1_row.out (k * 2) (.int .i64 n1)
                have st2 := (World.ownsRow.stored st1.1 (k * 2 + 1) (.int .u64 n2)).1
                rw [labV_setS HK.out (n1, n2)] at st2
                have hkp : ∀ j, j ≠ gb → ((wy1.setCell ⟨gb, k * 2, none⟩ (.int .i64 n1)).setCell ⟨gb, k * 2 + 1, none⟩ (.int .u64 n2)).heap[j]? = wy1.heap[j]? := fun j hj => (Below.heap_setCell _ _ _ _ hj).trans (Below.heap_setCell _ _ _ _ hj)
                have hxn : MoreB W (.slice ua xs.length uc) (.slice aa args.length ac) a m p1 p2 r1 r2 ((wy1.setCell ⟨gb, k * 2, none⟩ (.int .i64 n1)).setCell ⟨gb, k * 2 + 1, none⟩ (.int .u64 n2)) := by
                  have h1 := HX7.out.on F1_base.out
                  have h2 := HX3.out.1.size
                  have h3 := HX3.out.2.1
                  have h4 := HGL.out
                  exact ⟨(h1.1.setCell (p := ⟨gb, k * 2, none⟩) (by show W.heap.size ≤ gb; omega) _).setCell (p := ⟨gb, k * 2 + 1, none⟩) (by show W.heap.size ≤ gb; omega) _, by simpa using h1.2.1, (hkp _ (by omega)).trans h1.2.2.1, (hkp _ (by omega)).trans h1.2.2.2⟩
                have hln := (hkp lb (by have h1 := HLL.out; have h2 := HGL.out; omega)).trans F1_lb.out
                have hqn := (hkp qb (by have h1 := HGB.out; omega)).trans F1_qb.out
                clear st1 hkp
                try simp only [List.getElem_toArray, List.getElem_cons_succ, List.getElem_cons_zero]
                go_simp
                generalize (wy1.setCell ⟨gb, k * 2, none⟩ (.int .i64 n1)).setCell ⟨gb, k * 2 + 1, none⟩ (.int .u64 n2) = w9 at st2 hxn hln hqn ⊢
                clear hs1 hs2 hf1 hf2
                refine hK.out _ _ ?_ (fun hHeld => ?_)
                · exact ⟨hxn.cells.1, hxn.cells.2.2.2.2.2.2.1, hxn.cells.2.2.2.2.2.2.2⟩
                clear hK K
                try simp only [List.getElem_toArray, List.getElem_cons_succ, List.getElem_cons_zero, Act.put, List.setIfInBounds_toArray, List.set_cons_zero, List.set_cons_succ]
                refine wpAnyH_done (by kernel_rfl) ?_ _
                have HXN := Lib.hid hxn
                have HST := Lib.hid st2
                have HLN := Lib.hid hln
                have HQN := Lib.hid hqn
                clear hHeld hxn st2 hln hqn
                go_wp2_with fail
                go_meet
                case rel => exact ⟨_, HGS.out, HXN.out, HST.out, HLN.out, HQN.out⟩
              exact AllReadyH.nil
            exact AllReadyH.nil
          exact AllReadyH.nil
      case rest =>
        obtain ⟨new, hgr, hx9, ho9, hl9, hq9⟩ := hcut
        have HGR := Lib.hid hgr
        have HX7 := Lib.hid hx9
        have HO7 := Lib.hid ho9
        have HM7 := Lib.hid hl9
        have HL7 := Lib.hid hq9
        clear hgr hx9 ho9 hl9 hq9 hc0 hc1 hc2 hc3 hc4 hc5 hc6 hc7 HX6 HO6 HM3 HL6 HB6
        obtain ⟨hc0, hc1, hc2, hc3, hc4, hc5, hc6, hc7⟩ := HX7.out.cells
        obtain ⟨hd0, hd1⟩ := two_lab HL7.out
        have HLR := Lib.hid (show LabRow wc.heap.size wc (.slice a4 args.length c4) new by
          have h := HO7.out
          rw [← HGR.out.len] at h ⊢
          exact lab_ownV h)
        have HALL := Lib.hid (grows_all HP.out HX.out HWA.out HPM.out HM.out HRK.out HGR.out)
        rw [HQE.out, ← HE.out.1, ← HE.out.2] at HALL
        obtain ⟨⟨t1, t2⟩, et⟩ : ∃ t, t = putJ xs a m new (q1, q2) := ⟨_, rfl⟩
        have HTK := Lib.hid (show 0 ≤ t2 ∧ t2 ≤ 18446744073709551615 by
          have h := (putJ_ok (putB_iff.1 HALL.out.1) HX.out HGR.out.wide HQK.out).2
          rw [← et] at h
          exact h)
        have HTR := Lib.hid (show jRet (putB xs a m new (q1, q2)) (putJ xs a m new (q1, q2)) = .tuple #[.agg #[.int .i64 t1, .int .u64 t2], .bool true] by unfold jRet; rw [HALL.out.1, ← et, if_pos rfl, if_pos rfl])
        rw [← et] at HALL
        clear et
        go_upto_region 14 with (go_at_call 23; refine (HPUT.out wc HX7.out.1 (pc := (q1, q2)) HLR.out HGR.out.wide HQK.out (by rw [HGR.out.len]; omega)).mono ?_; rintro e w8 ⟨rfl, hb⟩; rw [HTR.out]; have HX8 := Lib.hid (HX7.out.on hb); have HM8 := Lib.hid ((hb.block _ (Array.getElem?_eq_some_iff.1 HM7.out).1).trans HM7.out); clear hb hc0 hc1 hc2 hc3 hc4 hc5 hc6 hc7 hd0 hd1)
        have hba : Below w8.heap.size w8 (w8.alloc (.cells #[.int .i64 t1, .int .u64 t2] 38)) := (Below.refl _ _).alloc (Nat.le_refl _) _
        have HX9 := Lib.hid (HX8.out.on hba)
        have HL9 := Lib.hid (heap_alloc_new w8 (.cells #[.int .i64 t1, .int .u64 t2] 38))
        have HM9 := Lib.hid ((hba.block _ (Array.getElem?_eq_some_iff.1 HM8.out).1).trans HM8.out)
        generalize w8.alloc (.cells #[.int .i64 t1, .int .u64 t2] 38) = w9 at HX9 HL9 HM9 ⊢
        clear hba HX8 HM8
        obtain ⟨hc0, hc1, hc2, hc3, hc4, hc5, hc6, hc7⟩ := HX9.out.cells
        obtain ⟨hd0, hd1⟩ := two_lab HL9.out
        obtain ⟨hl0, hl1⟩ := two_lab HM9.out
        go_wp2_with (first
          | (go_at_call 17; refine (HLQ.out w9 HX9.out.1 HYK.out HTK.out).mono ?_; rintro e w10 ⟨rfl, hb⟩; rw [HALL.out.2]; have HXA := Lib.hid (HX9.out.on hb); clear hb)
          | (go_at_call 20; refine (HAW.out _ HXA.out.1).mono ?_; rintro e w11 ⟨rfl, hb⟩; have HF := Lib.hid (HXA.out.on hb); clear hb))
        go_ret
        exact ⟨rfl, HF.out.1⟩
theorem symGrows_all {uv av : Value} {xs : List Int} {a m p1 p2 r1 r2 aq : Int} {args : List (Int × Int)} (W : World) (h : Nums .u64 W.heap.size W uv xs ∧ Wide xs ∧ xs.length ≤ big5 ∧ ∀ n c, uv = .slice none n c → c = 0) (hT : Tz W) (hav : LabRow W.heap.size W av args) (hwa : WideL args) (hal : args.length ≤ 17592186044416) (hm : 0 ≤ m ∧ m ≤ 18446744073709551615) (hpm : 0 ≤ p2 ∧ p2 ≤ 18446744073709551615) (hrm : 0 ≤ r2 ∧ r2 ≤ 18446744073709551615) :
    Calls Tryd.prog 10 #[.agg #[uv, .int .i64 a, .int .u64 m, av, .int .i64 p1, .int .u64 p2], .int .i64 aq, .agg #[.int .i64 r1, .int .u64 r2]] W fun e V => e = .returned (.bool true) ∧ Below W.heap.size W V := by
  obtain ⟨ua, uc, rfl⟩ := h.1.form
  obtain ⟨aa, ac, rfl⟩ := hav.form
  exact symGrows_walk W h.1 h.2.1 h.2.2.1 hT hav hwa hal hm hpm hrm
end Go.Proofs.YtodhoplchficpaaDoor
