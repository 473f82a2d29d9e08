import Derived.Test.YtbelhoeailjkkaaCalN
set_option linter.unusedSimpArgs false
set_option linter.unusedVariables false
/-! calls: Entries, the walk -/
namespace Go.Proofs.Ytbelhoeailjkkaa
open Go.RowKit CC
theorem ent_no {to : List (List Int)} {main : Int} (h : ¬ (GG.rightG to = true ∧ GG.inB to.length main = true)) : entL to main = [] := by unfold entL; rw [if_neg h]
/-- the rows of the groups, turned round -/
def RowsR (B : Nat) (w : World) (vs : List Value) (gs : List (List Nat)) : Prop :=
  ∀ t, t < gs.length → ∃ a c, vs[t]? = some (.slice a (gs[t]?.getD []).length c) ∧ w.ownsRow B 3 1 (.slice a (gs[t]?.getD []).length c) (gs[t]?.getD []).length (intsV ((gs[t]?.getD []).map Int.ofNat))
theorem rows_turned {B n : Nat} {w3 w4 : World} {gv : Value} {vs : List Value} {gs : List (List Nat)} (hl : vs.length = gs.length) (h : GG.Rows B w3 vs (gsI gs)) (ho : w3.ownsRow B 28 1 gv n vs) (hg : w3.grownBy w4 gv.ownBlock) : RowsR B w4 vs.reverse gs.reverse := by
  intro t ht
  rw [List.length_reverse] at ht
  have hk : gs.length - 1 - t < gs.length := by omega
  obtain ⟨r, e, g⟩ := (h.kept ho (by decide) hg).2 (gs.length - 1 - t) (by rw [gsI_len]; exact hk)
  have e1 : (gsI gs)[gs.length - 1 - t]?.getD [] = (gs.reverse[t]?.getD []).map Int.ofNat := by
    unfold gsI
    rw [List.getElem?_map, List.getElem?_reverse ht, List.getElem?_eq_getElem hk]
    rfl
  rw [e1, List.length_map] at g
  obtain ⟨a, c, rfl⟩ := CC.ownOf g
  refine ⟨a, c, ?_, g⟩
  rw [List.getElem?_reverse (by omega), hl]
  exact e

set_option maxRecDepth 100000 in
set_option maxHeartbeats 12800000 in
theorem centries_any {v : Value} {to : List (List Int)} (main : Int) (W : World) (hv : GraphM W.heap.size W v to) (hx : Small to) :
    Calls Try.prog 13 #[v, .int .i64 main] W fun e W' => ∃ u, e = .returned u ∧ Row W'.heap.size W' u (entL to main) ∧ Below W.heap.size W W' := by
  have hx0 := hx.1
  have HV := Lib.hid hv
  have HX := Lib.hid hx
  obtain ⟨va, vc, rfl⟩ := hv.form
  clear hv hx
  by_cases c1 : main < 0
  · have HE := Lib.hid (ent_no (to := to) (main := main) (fun h => by have := of_decide_eq_true h.2; omega))
    have t1 : decide (main < 0) = true := decide_eq_true c1
    go_enter Try.func13, Try.ntmps13
    go_wp2_with fail
    go_ret
    exact ⟨_, rfl, by rw [HE.out]; exact cells_empty _ _ _ _ (fun _ => rfl), Below.refl _ _⟩
  · have t1 : decide (main < 0) = false := decide_eq_false c1
    by_cases c2 : (to.length : Int) ≤ main
    · have HE := Lib.hid (ent_no (to := to) (main := main) (fun h => by have := of_decide_eq_true h.2; omega))
      have t2 : decide ((to.length : Int) ≤ main) = true := decide_eq_true c2
      go_enter Try.func13, Try.ntmps13
      go_wp2_with fail
      go_ret
      exact ⟨_, rfl, by rw [HE.out]; exact cells_empty _ _ _ _ (fun _ => rfl), Below.refl _ _⟩
    · have t2 : decide ((to.length : Int) ≤ main) = false := decide_eq_false c2
      obtain ⟨m, rfl⟩ : ∃ m : Nat, main = (m : Int) := ⟨main.toNat, by omega⟩
      have hmn : m < to.length := by omega
      have t3 : decide (to.length ≤ m) = false := decide_eq_false (by omega)
      cases hr : GG.rightG to
      · have HR := Lib.hid hr
        have HE := Lib.hid (ent_no (to := to) (main := (m : Int)) (fun h => by rw [hr] at h; exact absurd h.1 (by decide)))
        clear hr
        go_enter Try.func13, Try.ntmps13
        go_wp2_with (go_at_call 15; refine (rightG_any _ to _ HV.out HX.out).mono ?_; rintro e w1 ⟨rfl, hb⟩; rw [HR.out]; have HB1 := Lib.hid hb; clear hb)
        go_ret
        exact ⟨_, rfl, by rw [HE.out]; exact cells_empty _ _ _ _ (fun _ => rfl), HB1.out⟩
      · have HR := Lib.hid hr
        have hlen := GG.right_len hr
        have HE := Lib.hid (show entL to (m : Int) = (List.range to.length).map (entriesL to m) by unfold entL; rw [if_pos ⟨hr, decide_eq_true (by omega)⟩, Int.toNat_natCast])
        have HM := Lib.hid (groups_many hr)
        clear hr
        go_enter Try.func13, Try.ntmps13
        go_wp2_with fail
        refine (rightG_any _ to _ HV.out HX.out).mono ?_
        rintro e w1 ⟨rfl, hb⟩
        rw [HR.out]
        have HB1 := Lib.hid hb
        clear hb
        have HI1 := Lib.hid (show IntsC (w1.alloc (.cells (madeCells #[.int .i64 0] to.length) 3)) w1.heap.size to.length (fun _ => 0) from World.rowIs_made w1 (.int .i64 0) to.length 3)
        have hc1 := World.rowIs.cell HI1.out hmn
        have hf1 := World.rowIs.frozen HI1.out m
        have i1 : (0 : Int) ≤ m ∧ (m : Int) < to.length := by omega
        have hmk := run_make_row' (P := Try.prog) 28 3 (.int .i64 0) 8 (by kernel_rfl) Try.infoGInt rfl .i64 .i64 to.length (by omega) (by omega)
        obtain ⟨W2, eW2⟩ : ∃ W2, W2 = w1.alloc (.cells ((madeCells #[.int .i64 0] to.length).setIfInBounds m (.int .i64 1)) 3) := ⟨_, rfl⟩
        have HI2 := Lib.hid (show IntsC W2 w1.heap.size to.length (CC.startE m) by
          have h := HI1.out.set (f' := CC.startE m) m 1 (fun j => rfl)
          rw [World.setCell_alloc_at _ _ _ _ _ rfl] at h
          rw [eW2]; exact h)
        have HB2 := Lib.hid (show Below W.heap.size W W2 by rw [eW2]; exact HB1.out.alloc HB1.out.size _)
        have hs2 : W2.heap.size = w1.heap.size + 1 := by rw [eW2]; simp
        have EW2 := Lib.hid eW2
        clear eW2
        go_wp2_with fail
        clear hmk
        rw [← EW2.out]
        refine (cgroups_any (to := to) W2 (HV.out.on HB2.out HB2.out.size) HX.out).mono ?_
        rintro e w3 ⟨gv, vs, rfl, hown, hrows, hb3⟩
        rw [gsI_len] at hown
        have hvl : vs.length = (groupsL to).length := by have := hown.1; omega
        obtain ⟨ga, gc, rfl⟩ := CC.ownOf hown
        have HOWN := Lib.hid hown
        have HROWS := Lib.hid hrows
        have HB3 := Lib.hid (HB2.out.trans (hb3.mono HB2.out.size))
        have HI3 := Lib.hid (HI2.out.of (hb3.block _ (by omega)))
        have hs3 := hb3.size
        clear hown hrows hb3 hc1 hf1
        go_wp2_with fail
        refine (creverse_any HOWN.out (by have := HM.out; omega) (fun k hk => by
          obtain ⟨r, e, g⟩ := HROWS.out.2 k (by rw [gsI_len]; exact hk)
          obtain ⟨a, c, rfl⟩ := CC.ownOf g
          exact ⟨a, _, c, e⟩)).mono ?_
        rintro e w4 ⟨rfl, hown4, hg4⟩
        have HR4 := Lib.hid (rows_turned hvl HROWS.out HOWN.out hg4)
        have HO4 := Lib.hid hown4
        have HB4 := Lib.hid (HB3.out.grown hg4 HB3.out.size (fun k e => by have := (HOWN.out.lt k e).1; have := HB2.out.size; omega))
        have HI4 := Lib.hid (HI3.out.of (hg4.block _ (by omega) (fun e => by have := (HOWN.out.lt _ e.symm).1; omega)))
        have hs4 := hg4.size
        obtain ⟨gs, hgs⟩ : ∃ gs, gs = (groupsL to).reverse := ⟨_, rfl⟩
        have hgl : (groupsL to).length = gs.length := by rw [hgs, List.length_reverse]
        have HGM := Lib.hid (show ∀ t, t < gs.length → gs[t]?.getD [] ∈ groupsL to from fun t ht => by rw [hgs]; exact List.mem_reverse.1 (GG.getD_mem (by rw [← hgs]; exact ht)))
        have HSU := Lib.hid (show ∀ t, t < gs.length → entT to m (t + 1) = CC.stepE (GG.adjOf to) (entT to m t) (gs[t]?.getD []) from fun t ht => by rw [hgs]; exact entT_succ m (by rw [← hgs]; exact ht))
        have HBD := Lib.hid (show ∀ t, t ≤ gs.length → ∀ x, x < to.length → -1 ≤ entT to m t x ∧ entT to m t x ≤ 1 + 65536 * (t : Int) from fun t ht => entT_bd HR.out m t (by rw [← hgs]; exact ht))
        have HALL := Lib.hid (show entT to m gs.length = entriesL to m from entT_all to m (by rw [← hgs]; exact Nat.le_refl _))
        have hm256 : gs.length ≤ 256 := by have := HM.out; omega
        rw [hgl] at HO4
        rw [← hgs] at HR4
        rw [hgl]
        clear hown4 hg4 hgs hgl hvl HOWN HROWS HI3 HI2 EW2 HI1
        go_wp2_with fail
        go_loopw [38] (fun k wr => ∃ t : Nat, t ≤ gs.length ∧ k = .int .i64 (t : Int) ∧ RowKit.Hid (IntsC wr w1.heap.size to.length (entT to m t) ∧ Kept w1.heap.size w4 wr)) (fun k _ => gs.length - (intOf k).toNat)
        case atStart => exact ⟨0, by omega, rfl, Lib.hid ⟨by rw [entT_zero]; exact HI4.out, Kept.refl _ _⟩⟩
        case round =>
          obtain ⟨w5, rfl⟩ : ∃ w5, w5 = wr := ⟨_, rfl⟩
          obtain ⟨t, ht, rfl, HH⟩ := hrel
          by_cases hlt : t < gs.length
          · have HG := Lib.hid (group_is HR.out (HGM.out t hlt))
            have HST := Lib.hid (HSU.out t hlt)
            have HBT := Lib.hid (HBD.out t ht)
            obtain ⟨xa, xc, hxr, hxo⟩ := HR4.out t hlt
            have hO5 := HH.out.2.own HO4.out (by omega)
            have HXO := Lib.hid hxo
            obtain ⟨g, eg⟩ : ∃ g, g = gs[t]?.getD [] := ⟨_, rfl⟩
            rw [← eg] at HG HST hxr HXO
            obtain ⟨gb, e1⟩ : ∃ gb, ga = some ⟨gb, 0, none⟩ := by
              rcases hO5.2 with ⟨_, e2⟩ | ⟨q, cap, cur, e2, _⟩
              · omega
              · cases e2; exact ⟨q, rfl⟩
            subst e1
            have hcg := own_cell hO5 hxr
            have i2 : (0 : Int) ≤ t ∧ (t : Int) < gs.length := by omega
            have HRW := Lib.hid (fun (V : World) (hk : Kept w1.heap.size w4 V) => show Row V.heap.size V (.slice xa g.length xc) (g.map Int.ofNat) from cells_of_row (hk.own HXO.out (by omega)))
            obtain ⟨E, hE⟩ : ∃ E, E = entT to m t := ⟨_, rfl⟩
            rw [← hE] at HH HST HBT
            have HIB := Lib.hid (fun q => inT_bd HR.out (by omega) HG.out.2.2 HBT.out q)
            have HGR := Lib.hid (fun (V : World) (hk : Kept w1.heap.size w4 V) => hk.below HB4.out HB1.out.size HB4.out.size)
            have hg256 := HG.out.2.1
            clear eg hxo hxr hO5 hE
            go_wp2_with fail
            refine (ccircle_any w5 (HV.out.on (HGR.out w5 HH.out.2) (HGR.out w5 HH.out.2).size) HR.out (HRW.out w5 HH.out.2) HG.out.1 HG.out.2.1 HG.out.2.2).mono ?_
            rintro e w6 ⟨rfl, d, rfl⟩
            have HK6 := Lib.hid (HH.out.2.drewN d)
            have HI6 := Lib.hid (show IntsC (w5.drewN d) w1.heap.size to.length E from HH.out.1.of rfl)
            clear HH
            generalize w5.drewN d = w6 at HK6 HI6 ⊢
            cases hc : CC.circB (GG.adjOf to) g
            · have HS7 := Lib.hid (show IntsC w6 w1.heap.size to.length (inT (GG.adjOf to) E g 0) by unfold inT; rw [hc]; exact HI6.out)
              clear hc
              go_wp2_with fail
              go_loopw [62] (fun k wr => ∃ q : Nat, q ≤ g.length ∧ k = .int .i64 (q : Int) ∧ RowKit.Hid (IntsC wr w1.heap.size to.length (inT (GG.adjOf to) E g q) ∧ Kept w1.heap.size w4 wr)) (fun k _ => g.length - (intOf k).toNat)
              case atStart => exact ⟨0, by omega, rfl, Lib.hid ⟨HS7.out, HK6.out⟩⟩
              case round =>
                obtain ⟨w9, rfl⟩ : ∃ w9, w9 = wr := ⟨_, rfl⟩
                obtain ⟨q, hq, rfl, HH⟩ := hrel
                by_cases hqg : q < g.length
                · have hgq : q < (g.map Int.ofNat).length := by rw [List.length_map]; exact hqg
                  obtain ⟨rb, rf, e1, hrc⟩ := Row.cellAt (show Row w9.heap.size w9 (.slice xa g.length xc) (g.map Int.ofNat) from HRW.out w9 HH.out.2) hgq
                  cases e1
                  have HQG := Lib.hid hqg
                  clear hgq
                  obtain ⟨x, ex⟩ : ∃ x, x = g[q]?.getD 0 := ⟨_, rfl⟩
                  have hxv : (g.map Int.ofNat)[q]?.getD 0 = (x : Int) := by rw [ex, List.getElem?_map, List.getElem?_eq_getElem hqg]; rfl
                  rw [hxv] at hrc
                  have hxn : x < to.length := HG.out.2.2 x (by rw [ex]; exact GG.getD_mem hqg)
                  have i3 : (0 : Int) ≤ q ∧ (q : Int) < g.length := by omega
                  have i4 : (0 : Int) ≤ x ∧ (x : Int) < to.length := by omega
                  have HVW := Lib.hid (HV.out.below (HGR.out w9 HH.out.2))
                  obtain ⟨vb, vf, vc2, e1⟩ := HVW.out.addr (by omega)
                  cases e1
                  obtain ⟨ra, rac, hx1, hrx⟩ := HVW.out.at hxn
                  have hrl := GG.row_len (GG.right_at HR.out hxn)
                  have HRI := Lib.hid (fun y hy => GG.row_in (GG.right_at HR.out hxn) y hy)
                  have HN := Lib.hid (show inT (GG.adjOf to) E g (q + 1) = CC.leadF (inT (GG.adjOf to) E g q) x ((to[x]?.getD []).map Int.toNat) by rw [inT_succ (GG.adjOf to) E hqg, ← ex]; rfl)
                  obtain ⟨r, er⟩ : ∃ r, r = to[x]?.getD [] := ⟨_, rfl⟩
                  rw [← er] at hx1 hrx hrl HRI HN
                  have HRX := Lib.hid hrx
                  have HBQ := Lib.hid (HIB.out q)
                  clear ex hxv er hrx
                  go_wp2_with fail
                  refine (clead_any HH.out.1 hxn HRX.out HB1.out.size HRI.out (by omega) hlen.2 HBQ.out (by omega) (by omega)).mono ?_
                  rintro e wz ⟨rfl, hi9, hk9⟩
                  have H9 := Lib.hid (show IntsC wz w1.heap.size to.length (inT (GG.adjOf to) E g (q + 1)) ∧ Kept w1.heap.size w4 wz from ⟨by rw [HN.out]; exact hi9, HH.out.2.trans hk9⟩)
                  clear hi9 hk9
                  go_wp2_with fail
                  go_roundw
                  case rel => exact ⟨q + 1, by have := HQG.out; omega, by go_num, H9⟩
                  case measure => have := HQG.out; simp [intOf]; omega
                · have HF := Lib.hid (show IntsC w9 w1.heap.size to.length (entT to m (t + 1)) ∧ Kept w1.heap.size w4 w9 from ⟨by
                    have h1 := HH.out.1
                    rw [inT_all _ _ (by omega)] at h1
                    rw [HST.out]
                    exact h1, HH.out.2⟩)
                  clear HH
                  go_wp2_with fail
                  go_roundw
                  case rel => exact ⟨t + 1, by omega, by go_num, HF⟩
                  case measure => simp [intOf]; omega
            · have HC := Lib.hid hc
              clear hc
              go_wp2_with fail
              refine (creached_any (HRW.out w6 HK6.out) HG.out.2.1 HG.out.2.2 HI6.out).mono ?_
              rintro e w7 ⟨rfl, hb7⟩
              have HK7 := Lib.hid (HK6.out.trans ⟨hb7.os, hb7.tape, hb7.output, hb7.size, fun k hk _ => hb7.block k hk⟩)
              have HI7 := Lib.hid (HI6.out.of (hb7.block _ (World.rowIs.lt HI6.out)))
              clear hb7
              cases hh : CC.hasB E g
              · have HS7 := Lib.hid (show IntsC w7 w1.heap.size to.length (inT (GG.adjOf to) E g 0) by unfold inT; rw [HC.out, hh]; exact HI7.out)
                clear hh
                go_wp2_with fail
                go_loopw [62] (fun k wr => ∃ q : Nat, q ≤ g.length ∧ k = .int .i64 (q : Int) ∧ RowKit.Hid (IntsC wr w1.heap.size to.length (inT (GG.adjOf to) E g q) ∧ Kept w1.heap.size w4 wr)) (fun k _ => g.length - (intOf k).toNat)
                case atStart => exact ⟨0, by omega, rfl, Lib.hid ⟨HS7.out, HK7.out⟩⟩
                case round =>
                  obtain ⟨w9, rfl⟩ : ∃ w9, w9 = wr := ⟨_, rfl⟩
                  obtain ⟨q, hq, rfl, HH⟩ := hrel
                  by_cases hqg : q < g.length
                  · have hgq : q < (g.map Int.ofNat).length := by rw [List.length_map]; exact hqg
                    obtain ⟨rb, rf, e1, hrc⟩ := Row.cellAt (show Row w9.heap.size w9 (.slice xa g.length xc) (g.map Int.ofNat) from HRW.out w9 HH.out.2) hgq
                    cases e1
                    have HQG := Lib.hid hqg
                    clear hgq
                    obtain ⟨x, ex⟩ : ∃ x, x = g[q]?.getD 0 := ⟨_, rfl⟩
                    have hxv : (g.map Int.ofNat)[q]?.getD 0 = (x : Int) := by rw [ex, List.getElem?_map, List.getElem?_eq_getElem hqg]; rfl
                    rw [hxv] at hrc
                    have hxn : x < to.length := HG.out.2.2 x (by rw [ex]; exact GG.getD_mem hqg)
                    have i3 : (0 : Int) ≤ q ∧ (q : Int) < g.length := by omega
                    have i4 : (0 : Int) ≤ x ∧ (x : Int) < to.length := by omega
                    have HVW := Lib.hid (HV.out.below (HGR.out w9 HH.out.2))
                    obtain ⟨vb, vf, vc2, e1⟩ := HVW.out.addr (by omega)
                    cases e1
                    obtain ⟨ra, rac, hx1, hrx⟩ := HVW.out.at hxn
                    have hrl := GG.row_len (GG.right_at HR.out hxn)
                    have HRI := Lib.hid (fun y hy => GG.row_in (GG.right_at HR.out hxn) y hy)
                    have HN := Lib.hid (show inT (GG.adjOf to) E g (q + 1) = CC.leadF (inT (GG.adjOf to) E g q) x ((to[x]?.getD []).map Int.toNat) by rw [inT_succ (GG.adjOf to) E hqg, ← ex]; rfl)
                    obtain ⟨r, er⟩ : ∃ r, r = to[x]?.getD [] := ⟨_, rfl⟩
                    rw [← er] at hx1 hrx hrl HRI HN
                    have HRX := Lib.hid hrx
                    have HBQ := Lib.hid (HIB.out q)
                    clear ex hxv er hrx
                    go_wp2_with fail
                    refine (clead_any HH.out.1 hxn HRX.out HB1.out.size HRI.out (by omega) hlen.2 HBQ.out (by omega) (by omega)).mono ?_
                    rintro e wz ⟨rfl, hi9, hk9⟩
                    have H9 := Lib.hid (show IntsC wz w1.heap.size to.length (inT (GG.adjOf to) E g (q + 1)) ∧ Kept w1.heap.size w4 wz from ⟨by rw [HN.out]; exact hi9, HH.out.2.trans hk9⟩)
                    clear hi9 hk9
                    go_wp2_with fail
                    go_roundw
                    case rel => exact ⟨q + 1, by have := HQG.out; omega, by go_num, H9⟩
                    case measure => have := HQG.out; simp [intOf]; omega
                  · have HF := Lib.hid (show IntsC w9 w1.heap.size to.length (entT to m (t + 1)) ∧ Kept w1.heap.size w4 w9 from ⟨by
                      have h1 := HH.out.1
                      rw [inT_all _ _ (by omega)] at h1
                      rw [HST.out]
                      exact h1, HH.out.2⟩)
                    clear HH
                    go_wp2_with fail
                    go_roundw
                    case rel => exact ⟨t + 1, by omega, by go_num, HF⟩
                    case measure => simp [intOf]; omega
              · have HHB := Lib.hid hh
                clear hh
                go_wp2_with fail
                go_loopw [52] (fun k wr => ∃ q : Nat, q ≤ g.length ∧ k = .int .i64 (q : Int) ∧ RowKit.Hid (IntsC wr w1.heap.size to.length (CC.downF E (g.take q)) ∧ Kept w1.heap.size w4 wr)) (fun k _ => g.length - (intOf k).toNat)
                case atStart => exact ⟨0, by omega, rfl, Lib.hid ⟨World.rowIs.congr HI7.out (fun i _ => by simp [CC.downF]), HK7.out⟩⟩
                case round =>
                  obtain ⟨w8, rfl⟩ : ∃ w8, w8 = wr := ⟨_, rfl⟩
                  obtain ⟨q, hq, rfl, HH⟩ := hrel
                  by_cases hqg : q < g.length
                  · have hgq : q < (g.map Int.ofNat).length := by rw [List.length_map]; exact hqg
                    obtain ⟨rb, rf, e1, hrc⟩ := Row.cellAt (show Row w8.heap.size w8 (.slice xa g.length xc) (g.map Int.ofNat) from HRW.out w8 HH.out.2) hgq
                    cases e1
                    have HQG := Lib.hid hqg
                    clear hgq
                    obtain ⟨x, ex⟩ : ∃ x, x = g[q]?.getD 0 := ⟨_, rfl⟩
                    have hxv : (g.map Int.ofNat)[q]?.getD 0 = (x : Int) := by rw [ex, List.getElem?_map, List.getElem?_eq_getElem hqg]; rfl
                    rw [hxv] at hrc
                    have hxn : x < to.length := HG.out.2.2 x (by rw [ex]; exact GG.getD_mem hqg)
                    have HTK := Lib.hid (show g.take (q + 1) = g.take q ++ [x] by rw [List.take_succ_eq_append_getElem hqg, ex, List.getElem?_eq_getElem hqg]; rfl)
                    have hcx := World.rowIs.cell HH.out.1 hxn
                    have hfx := World.rowIs.frozen HH.out.1 x
                    have i3 : (0 : Int) ≤ q ∧ (q : Int) < g.length := by omega
                    have i4 : (0 : Int) ≤ x ∧ (x : Int) < to.length := by omega
                    have HN := Lib.hid (show IntsC (w8.setCell ⟨w1.heap.size, x, none⟩ (.int .i64 (-1))) w1.heap.size to.length (CC.downF E (g.take (q + 1))) ∧ Kept w1.heap.size w4 (w8.setCell ⟨w1.heap.size, x, none⟩ (.int .i64 (-1))) from ⟨HH.out.1.set x (-1) (fun j => by
                      rw [HTK.out]
                      unfold CC.downF
                      by_cases e2 : j = x
                      · rw [if_pos e2, if_pos (by rw [e2]; simp)]
                      · rw [if_neg e2]
                        by_cases e3 : j ∈ g.take q
                        · rw [if_pos e3, if_pos (List.mem_append.2 (.inl e3))]
                        · rw [if_neg e3, if_neg (fun h => by rcases List.mem_append.1 h with h | h; exact e3 h; exact e2 (List.mem_singleton.1 h))]), HH.out.2.set x _⟩)
                    clear ex hxv
                    go_wp2_with fail
                    go_roundw
                    case rel => exact ⟨q + 1, by have := HQG.out; omega, by go_num, HN⟩
                    case measure => have := HQG.out; simp [intOf]; omega
                  · have HS7 := Lib.hid (show IntsC w8 w1.heap.size to.length (inT (GG.adjOf to) E g 0) by
                      have h1 := HH.out.1
                      rw [List.take_of_length_le (by omega)] at h1
                      unfold inT
                      rw [HC.out, HHB.out]
                      exact h1)
                    have HK8 := Lib.hid HH.out.2
                    clear HH
                    go_wp2_with fail
                    go_loopw [62] (fun k wr => ∃ q : Nat, q ≤ g.length ∧ k = .int .i64 (q : Int) ∧ RowKit.Hid (IntsC wr w1.heap.size to.length (inT (GG.adjOf to) E g q) ∧ Kept w1.heap.size w4 wr)) (fun k _ => g.length - (intOf k).toNat)
                    case atStart => exact ⟨0, by omega, rfl, Lib.hid ⟨HS7.out, HK8.out⟩⟩
                    case round =>
                      obtain ⟨w9, rfl⟩ : ∃ w9, w9 = wr := ⟨_, rfl⟩
                      obtain ⟨q, hq, rfl, HH⟩ := hrel
                      by_cases hqg : q < g.length
                      · have hgq : q < (g.map Int.ofNat).length := by rw [List.length_map]; exact hqg
                        obtain ⟨rb, rf, e1, hrc⟩ := Row.cellAt (show Row w9.heap.size w9 (.slice xa g.length xc) (g.map Int.ofNat) from HRW.out w9 HH.out.2) hgq
                        cases e1
                        have HQG := Lib.hid hqg
                        clear hgq
                        obtain ⟨x, ex⟩ : ∃ x, x = g[q]?.getD 0 := ⟨_, rfl⟩
                        have hxv : (g.map Int.ofNat)[q]?.getD 0 = (x : Int) := by rw [ex, List.getElem?_map, List.getElem?_eq_getElem hqg]; rfl
                        rw [hxv] at hrc
                        have hxn : x < to.length := HG.out.2.2 x (by rw [ex]; exact GG.getD_mem hqg)
                        have i3 : (0 : Int) ≤ q ∧ (q : Int) < g.length := by omega
                        have i4 : (0 : Int) ≤ x ∧ (x : Int) < to.length := by omega
                        have HVW := Lib.hid (HV.out.below (HGR.out w9 HH.out.2))
                        obtain ⟨vb, vf, vc2, e1⟩ := HVW.out.addr (by omega)
                        cases e1
                        obtain ⟨ra, rac, hx1, hrx⟩ := HVW.out.at hxn
                        have hrl := GG.row_len (GG.right_at HR.out hxn)
                        have HRI := Lib.hid (fun y hy => GG.row_in (GG.right_at HR.out hxn) y hy)
                        have HN := Lib.hid (show inT (GG.adjOf to) E g (q + 1) = CC.leadF (inT (GG.adjOf to) E g q) x ((to[x]?.getD []).map Int.toNat) by rw [inT_succ (GG.adjOf to) E hqg, ← ex]; rfl)
                        obtain ⟨r, er⟩ : ∃ r, r = to[x]?.getD [] := ⟨_, rfl⟩
                        rw [← er] at hx1 hrx hrl HRI HN
                        have HRX := Lib.hid hrx
                        have HBQ := Lib.hid (HIB.out q)
                        clear ex hxv er hrx
                        go_wp2_with fail
                        refine (clead_any HH.out.1 hxn HRX.out HB1.out.size HRI.out (by omega) hlen.2 HBQ.out (by omega) (by omega)).mono ?_
                        rintro e wz ⟨rfl, hi9, hk9⟩
                        have H9 := Lib.hid (show IntsC wz w1.heap.size to.length (inT (GG.adjOf to) E g (q + 1)) ∧ Kept w1.heap.size w4 wz from ⟨by rw [HN.out]; exact hi9, HH.out.2.trans hk9⟩)
                        clear hi9 hk9
                        go_wp2_with fail
                        go_roundw
                        case rel => exact ⟨q + 1, by have := HQG.out; omega, by go_num, H9⟩
                        case measure => have := HQG.out; simp [intOf]; omega
                      · have HF := Lib.hid (show IntsC w9 w1.heap.size to.length (entT to m (t + 1)) ∧ Kept w1.heap.size w4 w9 from ⟨by
                          have h1 := HH.out.1
                          rw [inT_all _ _ (by omega)] at h1
                          rw [HST.out]
                          exact h1, HH.out.2⟩)
                        clear HH
                        go_wp2_with fail
                        go_roundw
                        case rel => exact ⟨t + 1, by omega, by go_num, HF⟩
                        case measure => simp [intOf]; omega
          · have HF := Lib.hid (show IntsC w5 w1.heap.size to.length (entriesL to m) by
              have h1 := HH.out.1
              rwa [show t = gs.length by omega, HALL.out] at h1)
            have HBF := Lib.hid (HH.out.2.below HB4.out HB1.out.size HB4.out.size)
            clear HH
            go_wp2_with fail
            go_ret
            exact ⟨_, rfl, by rw [HE.out]; exact HF.out.row, HBF.out⟩
end Go.Proofs.Ytbelhoeailjkkaa
