import Derived.Test.YtkfojieiemgliaaGraZ
import Derived.Test.YtkfojieiemgliaaGraD
import Derived.StillTailTactics
set_option linter.unusedSimpArgs false
set_option linter.unusedVariables false
/-! GraphTurned: the walk -/
namespace Go.Proofs.Ytkfojieiemgliaa
open Go.RowKit
theorem leads_q {v : Value} {to : List (List Int)} {n₀ : Nat} {w : World} (HV : RowKit.Hid (GraphM n₀ w v to)) (HX : RowKit.Hid (Small to)) {a : Nat} {b : Int} {t : Bool} (h : RowKit.Hid (GG.leadsB to a b = t)) (ha : a < to.length) (m n : Nat) :
    Calls Try.prog 29 #[v, .int .i64 a, .int .i64 b] (w.drewN (m + n)) fun e w' => e = .returned (.bool t) ∧ ∃ k, w' = w.drewN (m + k) := by
  refine (leads_any v to n₀ (w.drewN (m + n)) (HV.out.drewN (m + n)) HX.out a b ha).mono ?_
  rintro e w' ⟨rfl, rfl⟩
  exact ⟨by rw [h.out], n, rfl⟩
theorem leads_q0 {v : Value} {to : List (List Int)} {n₀ : Nat} {w : World} (HV : RowKit.Hid (GraphM n₀ w v to)) (HX : RowKit.Hid (Small to)) {a : Nat} {b : Int} {t : Bool} (h : RowKit.Hid (GG.leadsB to a b = t)) (ha : a < to.length) (n : Nat) :
    Calls Try.prog 29 #[v, .int .i64 a, .int .i64 b] (w.drewN n) fun e w' => e = .returned (.bool t) ∧ ∃ k, w' = w.drewN k := by
  refine (leads_any v to n₀ (w.drewN n) (HV.out.drewN n) HX.out a b ha).mono ?_
  rintro e w' ⟨rfl, rfl⟩
  exact ⟨by rw [h.out], n, rfl⟩
theorem reachedL_in2 {to : List (List Int)} {k : Nat} (h : GG.rightG to = true) (hk : k < to.length) : reachedL to k = flagsL to.length (GG.reachB to (-1) k) := by
  unfold reachedL
  rw [if_pos ⟨h, decide_eq_true (by omega)⟩, Int.toNat_natCast]
/-- what the law asks of the two rows of a node -/
theorem twice_mem {to : List (List Int)} (h : GG.rightG to = true) {i k : Nat} (hi : i < to.length) (hk : k < ((GG.backG (GG.backG to))[i]?.getD []).length) : GG.leadsB to i (((GG.backG (GG.backG to))[i]?.getD [])[k]?.getD 0) = true :=
  decide_eq_true ((GG.twice_at h hi _).1 (GG.getD_mem hk))

set_option maxRecDepth 100000 in
set_option maxHeartbeats 6400000 in
theorem graphTurned_in {to : List (List Int)} {va vo vc : Nat} (x y : Int) (W : World) (HV : RowKit.Hid (GraphM W.heap.size W (.slice (some ⟨va, vo, none⟩) to.length vc) to)) (HX : RowKit.Hid (Small to)) (hl : to.length ≤ 40) (HR : RowKit.Hid (GG.rightG to = true)) :
    Calls Try.prog 7 #[.slice (some ⟨va, vo, none⟩) to.length vc, .int .i64 x, .int .i64 y] W fun e W' => e = .returned (.bool true) ∧ Below W.heap.size W W' := by
  have hlen := GG.right_len HR.out
  have HB1 := Lib.hid (show backE to = GG.backG to by unfold backE; rw [if_pos HR.out])
  have HB2 := Lib.hid (show backE (GG.backG to) = GG.backG (GG.backG to) by unfold backE; rw [if_pos (GG.right_back HR.out)])
  have HBL1 := Lib.hid (GG.back_len to)
  have HBL2 := Lib.hid ((GG.back_len (GG.backG to)).trans (GG.back_len to))
  have HXB := Lib.hid (ledBy_small to hlen.2)
  have HXBB := Lib.hid (ledBy_small (GG.backG to) (by rw [HBL1.out]; exact hlen.2))
  go_enter Try.func7, Try.ntmps7
  go_wp2_with (go_at_call 14; refine (rightG_any _ to _ HV.out HX.out).mono ?_; rintro e w' ⟨rfl, hB⟩; have HB := Lib.hid hB; clear hB; rw [HR.out])
  refine (back_any (to := to) _ (HV.out.on HB.out HB.out.size) HX.out).mono ?_
  rintro e w2 ⟨bv, rfl, hg, hb⟩
  rw [HB1.out] at hg
  obtain ⟨ba, bo, bc, hbv⟩ := hg.addr (by rw [HBL1.out]; omega)
  rw [HBL1.out] at hbv
  subst hbv
  have HG2 := Lib.hid hg
  have HBb2 := Lib.hid (bstep HB.out hb)
  clear hg hb
  go_wp2_with fail
  refine (back_any (to := GG.backG to) _ HG2.out HXB.out).mono ?_
  rintro e w3 ⟨av, rfl, hg, hb⟩
  rw [HB2.out] at hg
  obtain ⟨aa, ao, ac, hav⟩ := hg.addr (by rw [HBL2.out]; omega)
  rw [HBL2.out] at hav
  subst hav
  have HA3 := Lib.hid hg
  have HG3 := Lib.hid (HG2.out.on hb hb.size)
  have HB3 := Lib.hid (bstep HBb2.out hb)
  have HV3 := Lib.hid (HV.out.on HB3.out HB3.out.size)
  clear hg hb
  go_wp2_with fail
  go_loopw [9] (fun k wr => ∃ i d : Nat, i ≤ to.length ∧ k = .int .i64 (i : Int) ∧ wr = w3.drewN d) (fun k _ => to.length - (intOf k).toNat)
  case atStart => exact ⟨0, 0, Nat.zero_le _, rfl, rfl⟩
  case round =>
    obtain ⟨i, d, hi, rfl, rfl⟩ := hrel
    by_cases hlt : i < to.length
    · obtain ⟨ra, rac, hx1, hrx⟩ := HV3.out.at hlt
      obtain ⟨sa, sac, hx2, hsx⟩ := HA3.out.at (show i < (GG.backG (GG.backG to)).length by rw [HBL2.out]; exact hlt)
      have i1 : (0 : Int) ≤ i ∧ (i : Int) < to.length := by omega
      have HTL := Lib.hid (GG.twice_len HR.out hlt)
      have HTM := Lib.hid (fun k hk => twice_mem (k := k) HR.out hlt hk)
      have HTU := Lib.hid (fun k hk => GG.twice_up (to := to) (k := k) hlt hk)
      have b1 : (to[i]?.getD []).length ≤ 17592186044416 := by have := GG.row_len (GG.right_at HR.out hlt); omega
      obtain ⟨s, es⟩ : ∃ s, s = (GG.backG (GG.backG to))[i]?.getD [] := ⟨_, rfl⟩
      rw [← es] at hx2 hsx HTL HTM HTU
      have HSX := Lib.hid hsx
      rw [← HTL.out] at hx1 b1
      have hn1 : ((to.length : Int) != (to.length : Int)) = false := bne_self_eq_false _
      have hn2 : ((s.length : Int) != (s.length : Int)) = false := bne_self_eq_false _
      clear es hsx hrx
      go_wp2_with fail
      go_quiet (fail)
      go_wp2_with fail
      go_loopw [10] (fun k wr => ∃ q d : Nat, q ≤ s.length ∧ k = .int .i64 (q : Int) ∧ wr = w3.drewN d) (fun k _ => s.length - (intOf k).toNat)
      case atStart => exact ⟨0, _, Nat.zero_le _, rfl, (by first | rfl | exact World.drewN_drewN _ _ _)⟩
      case round =>
        obtain ⟨q, d', hq, rfl, rfl⟩ := hrel
        by_cases hqt : q < s.length
        · obtain ⟨sb, so, e2, hc2⟩ := HSX.out.cellAt hqt
          subst e2
          have i3 : (0 : Int) ≤ q ∧ (q : Int) < s.length := by omega
          have HL := Lib.hid (HTM.out q hqt)
          have HV4 := Lib.hid (HV3.out.drewN d')
          obtain ⟨c, ec⟩ : ∃ c, c = s[q]?.getD 0 := ⟨_, rfl⟩
          rw [← ec] at hc2 HL
          by_cases h0 : 0 < q
          · obtain ⟨p, hp⟩ : ∃ p, q = p + 1 := ⟨q - 1, by omega⟩
            obtain ⟨sb', so', e3, hc3⟩ := HSX.out.cellAt (show p < s.length by omega)
            cases e3
            have hlt2 := HTU.out p (by omega)
            rw [← hp, ← ec] at hlt2
            obtain ⟨d0, ed⟩ : ∃ d0, d0 = s[p]?.getD 0 := ⟨_, rfl⟩
            rw [← ed] at hc3 hlt2
            have hg : decide (c ≤ d0) = false := decide_eq_false (by omega)
            have w1 : IntKind.i64.wrap ((q : Int) - 1) = (q : Int) - 1 := IntWalk.i64_in _ (by omega)
            have w2 : (0 : Int) ≤ (q : Int) - 1 := by omega
            have w2' : (1 : Int) ≤ (q : Int) := by omega
            have w3' : (q : Int) - 1 < s.length := by omega
            have w4 : ((q : Int) - 1).toNat = p := by omega
            have w5 : decide ((0 : Int) < (q : Int)) = true := decide_eq_true (by omega)
            have w6 : decide (0 < q) = true := decide_eq_true h0
            have HQ := Lib.hid hp
            clear hp ec ed hlt2 hn2
            go_wp2_with fail
            go_quiet ((go_at_call 29; first | exact leads_q HV3 HX HL hlt _ _ | exact leads_q0 HV4 HX HL hlt _))
            clear w1 w2 w2' w3' w4 w5 w6 hg
            go_wp2_with fail
            go_roundw
            case rel => exact ⟨q + 1, _, by omega, by go_num, (by first | rfl | exact World.drewN_drewN _ _ _)⟩
            case measure => simp [intOf]; omega
          · have w5 : decide ((0 : Int) < (q : Int)) = false := decide_eq_false (by omega)
            have w6 : decide (0 < q) = false := decide_eq_false h0
            clear ec hn2
            go_wp2_with fail
            go_quiet ((go_at_call 29; first | exact leads_q HV3 HX HL hlt _ _ | exact leads_q0 HV4 HX HL hlt _))
            clear w5 w6
            go_wp2_with fail
            go_roundw
            case rel => exact ⟨q + 1, _, by omega, by go_num, (by first | rfl | exact World.drewN_drewN _ _ _)⟩
            case measure => simp [intOf]; omega
        · clear HSX hn2
          go_wp2_with fail
          go_roundw
          case rel => exact ⟨i + 1, _, by omega, by go_num, rfl⟩
          case measure => simp [intOf]; omega
    · have HV4 := Lib.hid (HV3.out.drewN d)
      have HG4 := Lib.hid (HG3.out.drewN d)
      have HB4 := Lib.hid (below_dN HB3.out d)
      by_cases hx0 : 0 ≤ x
      · by_cases hy0 : 0 ≤ y
        · by_cases hx1 : x < to.length
          · by_cases hy1 : y < to.length
            · obtain ⟨a, rfl⟩ : ∃ a : Nat, x = (a : Int) := ⟨x.toNat, by omega⟩
              obtain ⟨b, rfl⟩ : ∃ b : Nat, y = (b : Int) := ⟨y.toNat, by omega⟩
              have ha : a < to.length := by omega
              have hb : b < to.length := by omega
              have HRA := Lib.hid (reachedL_in2 HR.out ha)
              have HRB := Lib.hid (reachedL_in2 (GG.right_back HR.out) (show b < (GG.backG to).length by rw [HBL1.out]; exact hb))
              have HEQ := Lib.hid (GG.reach_turned HR.out ha hb)
              go_wp2_with fail
              refine (reached_any (to := to) (a : Int) (w3.drewN d) HV4.out HX.out).mono ?_
              rintro e w5 ⟨tv, rfl, ht, hbb⟩
              rw [HRA.out] at ht
              obtain ⟨ta, tc, htv⟩ := ht.form
              rw [flagsL_len] at htv
              subst htv
              have HT5 := Lib.hid ht
              have HG5 := Lib.hid (HG4.out.on hbb hbb.size)
              have HB5 := Lib.hid (bstep HB4.out hbb)
              clear ht hbb
              go_wp2_with fail
              refine (reached_any (to := GG.backG to) (b : Int) _ HG5.out HXB.out).mono ?_
              rintro e w6 ⟨hv, rfl, hh, hbb⟩
              rw [HRB.out, HBL1.out] at hh
              obtain ⟨ha', hc', hhv⟩ := hh.form
              rw [flagsL_len] at hhv
              subst hhv
              have HH6 := Lib.hid hh
              have HT6 := Lib.hid (HT5.out.on hbb hbb.size)
              have HB6 := Lib.hid (bstep HB5.out hbb)
              clear hh hbb
              obtain ⟨tb, to', e1, hct⟩ := HT6.out.cellAt (show b < (flagsL to.length (GG.reachB to (-1) a)).length by rw [flagsL_len]; exact hb)
              subst e1
              obtain ⟨hb', ho', e2, hch⟩ := HH6.out.cellAt (show a < (flagsL to.length (GG.reachB (GG.backG to) (-1) b)).length by rw [flagsL_len]; exact ha)
              subst e2
              rw [flagsL_at hb, Option.getD_some] at hct
              rw [flagsL_at ha, Option.getD_some, ← HEQ.out] at hch
              generalize GG.reachB to (-1) a b = z at hct hch
              have i5 : (0 : Int) ≤ (b : Int) ∧ (b : Int) < to.length := by omega
              have i6 : (0 : Int) ≤ (a : Int) ∧ (a : Int) < to.length := by omega
              have hn3 : ((to.length : Int) == (to.length : Int)) = true := beq_self_eq_true _
              have hn4 : (z == z) = true := beq_self_eq_true z
              go_wp2_with fail
              go_still_tail 24, (by kernel_rfl)
              change wpList _ _ _ _ _ w6.drew
              go_wp2_with fail
              refine (awakeG_any _).mono ?_
              rintro e w7 ⟨rfl, hbb⟩
              have HB7 := Lib.hid (bstep (below_dN HB6.out 1) hbb)
              clear hbb
              go_wp2_with fail
              go_ret
              exact ⟨rfl, HB7.out⟩
            · go_wp2_with fail
              refine (awakeG_any _).mono ?_
              rintro e w4 ⟨rfl, hb⟩
              have HB7 := Lib.hid (bstep HB4.out hb)
              clear hb
              go_wp2_with fail
              go_ret
              exact ⟨rfl, HB7.out⟩
          · go_wp2_with fail
            refine (awakeG_any _).mono ?_
            rintro e w4 ⟨rfl, hb⟩
            have HB7 := Lib.hid (bstep HB4.out hb)
            clear hb
            go_wp2_with fail
            go_ret
            exact ⟨rfl, HB7.out⟩
        · go_wp2_with fail
          refine (awakeG_any _).mono ?_
          rintro e w4 ⟨rfl, hb⟩
          have HB7 := Lib.hid (bstep HB4.out hb)
          clear hb
          go_wp2_with fail
          go_ret
          exact ⟨rfl, HB7.out⟩
      · go_wp2_with fail
        refine (awakeG_any _).mono ?_
        rintro e w4 ⟨rfl, hb⟩
        have HB7 := Lib.hid (bstep HB4.out hb)
        clear hb
        go_wp2_with fail
        go_ret
        exact ⟨rfl, HB7.out⟩

set_option maxRecDepth 100000 in
set_option maxHeartbeats 3200000 in
theorem graphTurned_walk {v : Value} {to : List (List Int)} (x y : Int) (W : World) (hv : GraphM W.heap.size W v to) (hx : Small to) :
    Calls Try.prog 7 #[v, .int .i64 x, .int .i64 y] W fun e W' => e = .returned (.bool true) ∧ Below W.heap.size W W' := by
  by_cases hl : to.length ≤ 40
  · cases hr : GG.rightG to
    · have HV := Lib.hid hv
      have HX := Lib.hid hx
      have HR := Lib.hid hr
      obtain ⟨va, vc, rfl⟩ := hv.form
      clear hv hx hr
      go_enter Try.func7, Try.ntmps7
      go_wp2_with (go_at_call 14; refine (rightG_any _ to _ HV.out HX.out).mono ?_; rintro e w' ⟨rfl, hB⟩; have HB := Lib.hid hB; clear hB; rw [HR.out])
      refine (awakeG_any _).mono ?_
      rintro e w2 ⟨rfl, hb⟩
      have HB2 := Lib.hid (bstep HB.out hb)
      clear hb
      go_wp2_with fail
      go_ret
      exact ⟨rfl, HB2.out⟩
    · have hlen := GG.right_len hr
      obtain ⟨va, vo, vc, rfl⟩ := hv.addr (by omega)
      exact graphTurned_in x y W (Lib.hid hv) (Lib.hid hx) hl (Lib.hid hr)
  · have hx0 := hx.1
    obtain ⟨va, vc, rfl⟩ := hv.form
    clear hv hx
    go_enter Try.func7, Try.ntmps7
    go_wp2_with fail
    refine (awakeG_any _).mono ?_
    rintro e w2 ⟨rfl, hb⟩
    have HB2 := Lib.hid hb
    clear hb
    go_wp2_with fail
    go_ret
    exact ⟨rfl, HB2.out⟩
end Go.Proofs.Ytkfojieiemgliaa
