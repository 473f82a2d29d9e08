import Derived.Test.YtbdmpilaeoclgaaPostR
import Derived.Deep.RegionHeld3
set_option linter.unusedSimpArgs false
set_option linter.unusedVariables false
/-! post: the reference's Tree -/
namespace Go.Proofs.Ytbdmpilaeoclgaa
open Go.RowKit
/-- what is asked of each other node: it does not come behind b, or it comes behind a -/
def isP2 (to : List (List Int)) (b a k : Nat) : Bool := decide (k = b) || decide (k = a) || !DD.behB to k b || DD.behB to k a
def isT2 (to : List (List Int)) (b a : Nat) : Bool := decide (a ≠ b) && DD.behB to a b
theorem isT2_succ {to : List (List Int)} {b a q : Nat} {t : Bool} (h : t = (isT2 to b a && (List.range q).all (isP2 to b a))) : (t && isP2 to b a q) = (isT2 to b a && (List.range (q + 1)).all (isP2 to b a)) := by
  rw [h, List.range_succ, List.all_append, Bool.and_assoc]; simp
theorem isM_no {to : List (List Int)} {b a q : Nat} (hq : q ≤ to.length) (h : false = (isT2 to b a && (List.range q).all (isP2 to b a))) : DD.isM to b a = false := by
  show (isT2 to b a && (List.range to.length).all (isP2 to b a)) = false
  rcases Bool.and_eq_false_iff.1 h.symm with e | e
  · rw [e, Bool.false_and]
  · obtain ⟨k, hk, hkp⟩ := List.all_eq_false.1 e
    have : (List.range to.length).all (isP2 to b a) = false := List.all_eq_false.2 ⟨k, List.mem_range.2 (by have := List.mem_range.1 hk; omega), hkp⟩
    rw [this, Bool.and_false]
/-- the meeting, as far as the nodes below a tell -/
def meetU (to : List (List Int)) (b a : Nat) : Int := let x := DD.lastN (DD.isM to b) a; if x < 0 then (to.length : Int) else x
theorem meetU_yes {to : List (List Int)} {b a : Nat} (h : DD.isM to b a = true) : meetU to b (a + 1) = (a : Int) := by
  unfold meetU; simp only [DD.lastN, h, if_true]; rw [if_neg (by omega)]
theorem meetU_no {to : List (List Int)} {b a : Nat} (h : DD.isM to b a = false) : meetU to b (a + 1) = meetU to b a := by
  unfold meetU; simp [DD.lastN, h]
theorem meetU_zero (to : List (List Int)) (b : Nat) : meetU to b 0 = (to.length : Int) := by
  unfold meetU; simp [DD.lastN]
set_option maxRecDepth 100000 in
set_option maxHeartbeats 3200000 in
theorem rtree12_any {v : Value} {to : List (List Int)} (W : World) (hv : GraphM W.heap.size W v to) (hx : Small to) :
    Calls Try.prog 30 #[v] W fun e W' => NewInts W.heap.size (DD.postL to) e W W' := by
  have hx0 := hx.1
  have HV := Lib.hid hv
  have HX := Lib.hid hx
  obtain ⟨va, vc, rfl⟩ := hv.form
  clear hv hx
  cases hp : DD.postOk to
  · have HP := Lib.hid hp
    have HE := Lib.hid (DD.postL_no hp)
    clear hp
    go_enter Try.func30, Try.ntmps30
    go_wp2_with (go_at_call 57; refine (rright12_any (to := to) _ HV.out HX.out).mono ?_; rintro e w' ⟨rfl, hB⟩; have HB := Lib.hid hB; clear hB; rw [HP.out])
    go_ret
    exact ⟨_, rfl, by rw [HE.out]; exact cells_empty _ _ _ _ (fun _ => rfl), HB.out⟩
  · have HP := Lib.hid hp
    have HR := Lib.hid (DD.postOk_iff.1 hp).2.1
    have hlen := GG.right_len HR.out
    have HE := Lib.hid (DD.postL_yes hp)
    obtain ⟨va', vo, vc', e1⟩ := HV.out.addr (by omega)
    cases e1
    have hmk := run_make_row' (P := Try.prog) 50 45 (.slice none 0 0) 24 (by kernel_rfl) Try.infoGBRow rfl .i64 .i64 to.length (by omega) (by omega)
    clear hp
    go_enter Try.func30, Try.ntmps30
    go_wp2_with (go_at_call 57; refine (rright12_any (to := to) _ HV.out HX.out).mono ?_; rintro e w2 ⟨rfl, hB⟩; have HB := Lib.hid hB; clear hB; rw [HP.out])
    have H0 := Lib.hid (ovT_new w2 to.length (fun _ _ => false) (fun _ => 0))
    have HB0 := Lib.hid (HB.out.alloc HB.out.size (.cells (madeCells #[.slice none 0 0] to.length) 45))
    have hmk2 := run_make_row' (P := Try.prog) 45 4 (.bool false) 1 (by kernel_rfl) Try.infoGBool rfl .i64 .i64 to.length (by omega) (by omega)
    clear hmk
    go_loopw [5] (fun k wr => ∃ (a : Nat) (F : Nat → Nat → Bool) (gs : Nat → Nat), a ≤ to.length ∧ k = .int .i64 (a : Int) ∧ OvT w2.heap.size to.length a F gs wr ∧ Below W.heap.size W wr ∧ RowKit.Hid (∀ j, j < a → ∀ b, b < to.length → F j b = DD.behB to j b)) (fun k _ => to.length - (intOf k).toNat)
    case atStart => exact ⟨0, _, _, Nat.zero_le _, rfl, H0.out, HB0.out, Lib.hid (fun j hj => absurd hj (Nat.not_lt_zero _))⟩
    case round =>
      obtain ⟨a, F, gs, hak, rfl, hO, hB, HF⟩ := hrel
      have HO := Lib.hid hO
      have HBW := Lib.hid hB
      clear hO hB H0 HB0
      by_cases hlt : a < to.length
      · have HGL := Lib.hid (World.rowIs.lt HO.out.tab)
        have i1 : (0 : Int) ≤ a ∧ (a : Int) < to.length := by omega
        have hba : Below wr.heap.size wr (wr.alloc (.cells (madeCells #[.bool false] to.length) 4)) := (Below.refl _ _).alloc (Nat.le_refl _) _
        have hct := (HO.out.on hba).nil_at (Nat.lt_irrefl a) hlt
        have hft := World.rowIs.frozen (HO.out.on hba).tab a
        have HO5 := Lib.hid (HO.out.add hlt)
        have HB5 := Lib.hid ((HBW.out.alloc HBW.out.size (.cells (madeCells #[.bool false] to.length) 4)).setCell (p := ⟨w2.heap.size, a, none⟩) (by have := HB.out.size; simp; omega) (.slice (some ⟨wr.heap.size, 0, none⟩) to.length to.length))
        go_wp2_with fail
        go_loopw [6] (fun k wq => ∃ (b : Nat) (F : Nat → Nat → Bool) (gs : Nat → Nat), b ≤ to.length ∧ k = .int .i64 (b : Int) ∧ OvT w2.heap.size to.length (a + 1) F gs wq ∧ Below W.heap.size W wq ∧ RowKit.Hid ((∀ j, j < a → ∀ b, b < to.length → F j b = DD.behB to j b) ∧ ∀ x, x < b → F a x = DD.behB to a x)) (fun k _ => to.length - (intOf k).toNat)
        case atStart => exact ⟨0, _, _, Nat.zero_le _, rfl, HO5.out, HB5.out, Lib.hid ⟨fun j hj x hx => by simp only [if_neg (show j ≠ a by omega)]; exact HF.out j hj x hx, fun x hx => absurd hx (Nat.not_lt_zero _)⟩⟩
        case round =>
          obtain ⟨b, F2, gs2, hbk, rfl, hO2, hB2, HF2⟩ := hrel
          have HO2 := Lib.hid hO2
          have HBQ := Lib.hid hB2
          clear HF HO HO5 hct hft hba HB5 HBW
          clear hO2 hB2
          by_cases hbt : b < to.length
          · have hc1 := HO2.out.at_ (Nat.lt_succ_self a) hlt
            have hc1' : wr.drew.cell? ⟨w2.heap.size, a, none⟩ = some (.slice (some ⟨gs2 a, 0, none⟩) to.length to.length) := hc1
            have i2 : (0 : Int) ≤ b ∧ (b : Int) < to.length := by omega
            have HPUT := Lib.hid (fun (w3 : World) (hb : Below wr.heap.size wr w3) x => (HO2.out.on hb).put (Nat.lt_succ_self a) b x)
            have HC3 := Lib.hid (fun (w3 : World) (hb : Below wr.heap.size wr w3) => (HO2.out.on hb).cell (Nat.lt_succ_self a) hbt)
            have HFZ := Lib.hid (fun (w3 : World) (hb : Below wr.heap.size wr w3) => World.rowIs.frozen ((HO2.out.on hb).rows a (Nat.lt_succ_self a)).2 b)
            have HGT := Lib.hid (World.rowIs.lt HO2.out.tab)
            have HGA := Lib.hid (HO2.out.rows a (Nat.lt_succ_self a)).1
            have HBP := Lib.hid (fun (w3 : World) (hb : Below wr.heap.size wr w3) x => (bstep HBQ.out hb).setCell (p := ⟨gs2 a, b, none⟩) (by have := (HO2.out.rows a (Nat.lt_succ_self a)).1; have := HB.out.size; simp; omega) (.bool x))
            have HFN := Lib.hid (show (∀ j, j < a → ∀ k, k < to.length → (if j = a then (fun k => if k = b then DD.behB to a b else F2 a k) else F2 j) k = DD.behB to j k) ∧ ∀ y, y < b + 1 → (if a = a then (fun k => if k = b then DD.behB to a b else F2 a k) else F2 a) y = DD.behB to a y from
              ⟨fun j hj k hk => by rw [if_neg (show j ≠ a by omega)]; exact HF2.out.1 j hj k hk, fun y hy => by
                rw [if_pos rfl]
                by_cases e : y = b
                · subst e; simp only [if_true]
                · simp only [if_neg e]; exact HF2.out.2 y (by omega)⟩)
            generalize hgs : gs2 a = ga at *
            go_wp2_with fail
            go_region_held3 (fun V => V.cell? ⟨w2.heap.size, a, none⟩ = some (.slice (some ⟨ga, 0, none⟩) to.length to.length))
              (first
                | (go_keep; done)
                | exact (hb2.cell (p := ⟨w2.heap.size, a, none⟩) HGT.out).trans hc1
                | exact (World.cell?_setCell_other _ _ _ _ (fun e => by have := HGA.out; simp only [Addr.mk.injEq] at e; omega)).trans ((hb2.cell (p := ⟨w2.heap.size, a, none⟩) HGT.out).trans hc1))
              ((go_at_call 37; refine (rbehind_any (to := to) a b _ (HV.out.on HBQ.out.drew HBQ.out.drew.size) HX.out HR.out hbt).mono ?_; rintro e w3 ⟨rfl, hb2'⟩; have hb2 : Below wr.heap.size wr w3 := (Below.refl wr.heap.size wr).drew.trans hb2'; have hc3 := HC3.out w3 hb2; have hfz := HFZ.out w3 hb2; clear hb2'))
            have HB2 := Lib.hid hb2
            clear hb2
            go_wp2_with fail
            go_roundw
            case rel => exact ⟨b + 1, (fun i => if i = a then (fun k => if k = b then DD.behB to a b else F2 a k) else F2 i), gs2, by omega, by go_num, by rw [← hgs] at HPUT ⊢; exact HPUT.out _ HB2.out _, HBP.out _ HB2.out _, Lib.hid (by have h := HFN.out; simpa using h)⟩
            case measure => simp [intOf]; omega
          · have HFA := Lib.hid (show ∀ j, j < a + 1 → ∀ x, x < to.length → F2 j x = DD.behB to j x from fun j hj x hx => (Nat.lt_succ_iff_lt_or_eq.1 hj).elim (fun h => HF2.out.1 j h x hx) (fun e => by rw [e]; exact HF2.out.2 x (by omega)))
            go_wp2_with fail
            go_roundw
            case rel => exact ⟨a + 1, F2, gs2, by omega, by go_num, HO2.out, HBQ.out, HFA⟩
            case measure => simp [intOf]; omega
      · have HOD := Lib.hid (show OvT w2.heap.size to.length to.length (fun j x => DD.behB to j x) gs wr by
          have h := HO.out
          rw [show a = to.length by omega] at h
          exact h.congr (fun j hj x hx => HF.out j (by omega) x hx))
        clear HO HF
        obtain ⟨wo, ewo⟩ : ∃ wo : World, wo = wr := ⟨_, rfl⟩
        rw [← ewo]
        rw [← ewo] at HOD HBW
        clear ewo
        have hmk3 := run_make_row' (P := Try.prog) 24 3 (.int .i64 0) 8 (by kernel_rfl) Try.infoGInt rfl .i64 .i64 to.length (by omega) (by omega)
        go_wp2_with fail
        clear hmk3
        have HI0 := Lib.hid (show IntsN (wo.alloc (.cells (madeCells #[.int .i64 0] to.length) 3)) wo.heap.size to.length (fun _ => 0) from World.rowIs_made wo (.int .i64 0) to.length 3)
        have HBZ := Lib.hid ((Below.refl wo.heap.size wo).alloc (Nat.le_refl _) (.cells (madeCells #[.int .i64 0] to.length) 3))
        go_loopw [8] (fun k wr => ∃ (b : Nat) (f : Nat → Int), b ≤ to.length ∧ k = .int .i64 (b : Int) ∧ IntsN wr wo.heap.size to.length f ∧ Below wo.heap.size wo wr ∧ RowKit.Hid (∀ j, j < b → f j = DD.meetI to j)) (fun k _ => to.length - (intOf k).toNat)
        case atStart => exact ⟨0, _, Nat.zero_le _, rfl, HI0.out, HBZ.out, Lib.hid (fun j hj => absurd hj (Nat.not_lt_zero _))⟩
        case round =>
          obtain ⟨b, f, hbk, rfl, hI, hB3, HF⟩ := hrel
          have HI := Lib.hid hI
          have HB3 := Lib.hid hB3
          clear hI hB3 HI0 HBZ
          by_cases hbt : b < to.length
          · have hcb := World.rowIs.cell HI.out hbt
            have hfb := World.rowIs.frozen HI.out b
            have i1 : (0 : Int) ≤ b ∧ (b : Int) < to.length := by omega
            have HI2 := Lib.hid (HI.out.set b (to.length : Int))
            have HB4 := Lib.hid (HB3.out.setCell (p := ⟨wo.heap.size, b, none⟩) (Nat.le_refl _) (.int .i64 (to.length : Int)))
            go_wp2_with fail
            clear hcb hfb
            go_loopw [9] (fun k wq => ∃ (a : Nat) (c : Int), a ≤ to.length ∧ k = .int .i64 (a : Int) ∧ IntsN wq wo.heap.size to.length (DD.setI f b c) ∧ Below wo.heap.size wo wq ∧ RowKit.Hid (c = meetU to b a)) (fun k _ => to.length - (intOf k).toNat)
            case atStart => exact ⟨0, (to.length : Int), Nat.zero_le _, rfl, HI2.out, HB4.out, Lib.hid (meetU_zero to b).symm⟩
            case round =>
              obtain ⟨a, c, hak, rfl, hI3, hB5, HC⟩ := hrel
              have HI3 := Lib.hid hI3
              have HB5 := Lib.hid hB5
              clear hI3 hB5 HI2 HB4 HI HB3
              by_cases hat : a < to.length
              · have HO5 := Lib.hid (HOD.out.on HB5.out)
                have i2 : (0 : Int) ≤ a ∧ (a : Int) < to.length := by omega
                have hca := HO5.out.at_ hat hat
                have hcab := HO5.out.cell hat hbt
                have HPS := Lib.hid (fun (q : Nat) (t : Bool) (h : t = (isT2 to b a && (List.range q).all (isP2 to b a))) => isT2_succ (to := to) (b := b) (a := a) h)
                have HIS := Lib.hid (fun (q : Nat) (hq : q ≤ to.length) (h : false = (isT2 to b a && (List.range q).all (isP2 to b a))) => isM_no (to := to) (b := b) (a := a) hq h)
                have HIY := Lib.hid (fun (t : Bool) (h : t = (isT2 to b a && (List.range to.length).all (isP2 to b a))) => (show t = DD.isM to b a from h))
                have HTB := Lib.hid (show isT2 to b a = (decide (a ≠ b) && DD.behB to a b) from rfl)
                have hcI := World.rowIs.cell HI3.out hbt
                have hfI := World.rowIs.frozen HI3.out b
                have HSET := Lib.hid (show IntsN (wr.setCell ⟨wo.heap.size, b, none⟩ (.int .i64 (a : Int))) wo.heap.size to.length (DD.setI f b (a : Int)) from (HI3.out.set b (a : Int)).congr (fun i _ => by unfold DD.setI; split <;> rfl))
                have HB6 := Lib.hid (HB5.out.setCell (p := ⟨wo.heap.size, b, none⟩) (Nat.le_refl _) (.int .i64 (a : Int)))
                have HLY := Lib.hid (fun (h : DD.isM to b a = true) => (meetU_yes h).symm)
                have HLN := Lib.hid (fun (h : DD.isM to b a = false) => (HC.out.trans (meetU_no h).symm))
                have HT0 : ∃ t0 : Bool, t0 = isT2 to b a := ⟨_, rfl⟩
                obtain ⟨t0, ht0⟩ := HT0
                have HZ := Lib.hid (show t0 = (isT2 to b a && (List.range 0).all (isP2 to b a)) by rw [ht0]; simp)
                have key : ((a : Int) != (b : Int)) = decide (a ≠ b) ∧ (decide (a ≠ b) = true → DD.behB to a b = t0) ∧ (decide (a ≠ b) = false → t0 = false) := by
                  rw [ht0, HTB.out]
                  by_cases e : a = b
                  · subst e; exact ⟨by simp, fun h => by simp at h, fun _ => by simp⟩
                  · exact ⟨by rw [decide_eq_true e]; exact bne_iff_ne.2 (by omega), fun _ => by rw [decide_eq_true e, Bool.true_and], fun h => by rw [decide_eq_true e] at h; cases h⟩
                obtain ⟨hq1, hq2, hq3⟩ := key
                have K2 := Lib.hid hq2
                have K3 := Lib.hid hq3
                clear hq2 hq3 ht0
                cases hd : decide (a ≠ b)
                all_goals
                  rw [hd] at hq1 K2 K3
                · have HT := Lib.hid (K3.out rfl)
                  clear K2 K3 hd hca hcab
                  rw [HT.out] at HZ
                  clear HT
                  go_wp2_with fail
                  go_loop [10, 11] (fun u k => ∃ (q : Nat) (t : Bool), q ≤ to.length ∧ u = .bool t ∧ k = .int .i64 (q : Int) ∧ RowKit.Hid (t = (isT2 to b a && (List.range q).all (isP2 to b a)))) (fun _ k => to.length - (intOf k).toNat)
                  case atStart => exact ⟨0, _, Nat.zero_le _, rfl, rfl, HZ⟩
                  case round =>
                    obtain ⟨q, t, hq, rfl, rfl, HQ⟩ := hrel
                    cases t
                    · have HNO := Lib.hid (HLN.out (HIS.out q hq HQ.out))
                      by_cases hqt : q < to.length
                      · go_wp2_with fail
                        go_roundw
                        case rel => exact ⟨a + 1, c, by omega, by go_num, HI3.out, HB5.out, HNO⟩
                        case measure => simp [intOf]; omega
                      · go_wp2_with fail
                        go_roundw
                        case rel => exact ⟨a + 1, c, by omega, by go_num, HI3.out, HB5.out, HNO⟩
                        case measure => simp [intOf]; omega
                    · by_cases hqt : q < to.length
                      · have hk1 := HO5.out.at_ hqt hqt
                        have hk2 := HO5.out.cell hqt hbt
                        have hk3 := HO5.out.cell hqt hat
                        have i4 : (0 : Int) ≤ q ∧ (q : Int) < to.length := by omega
                        have HQ2 := Lib.hid (HPS.out q true HQ.out)
                        by_cases hqb : q = b
                        · subst hqb
                          have hbb : ((q : Int) == (q : Int)) = true := beq_self_eq_true _
                          have HN := Lib.hid (show true = (isT2 to q a && (List.range (q + 1)).all (isP2 to q a)) by rw [← HQ2.out]; unfold isP2; simp)
                          go_wp2_with fail
                          go_round
                          case rel => exact ⟨q + 1, true, by omega, rfl, by go_num, HN⟩
                          case measure => simp [intOf]; omega
                        · have hbb : ((q : Int) == (b : Int)) = false := beq_eq_false_iff_ne.2 (by omega)
                          by_cases hqa : q = a
                          · subst hqa
                            have haa : ((q : Int) == (q : Int)) = true := beq_self_eq_true _
                            have HN := Lib.hid (show true = (isT2 to b q && (List.range (q + 1)).all (isP2 to b q)) by rw [← HQ2.out]; unfold isP2; simp)
                            go_wp2_with fail
                            go_round
                            case rel => exact ⟨q + 1, true, by omega, rfl, by go_num, HN⟩
                            case measure => simp [intOf]; omega
                          · have haa : ((q : Int) == (a : Int)) = false := beq_eq_false_iff_ne.2 (by omega)
                            cases hv : DD.behB to q b
                            · have HN := Lib.hid (show true = (isT2 to b a && (List.range (q + 1)).all (isP2 to b a)) by rw [← HQ2.out]; unfold isP2; rw [hv]; simp)
                              rw [hv] at hk2
                              clear hv
                              go_wp2_with fail
                              go_round
                              case rel => exact ⟨q + 1, true, by omega, rfl, by go_num, HN⟩
                              case measure => simp [intOf]; omega
                            · have HN := Lib.hid (show DD.behB to q a = (isT2 to b a && (List.range (q + 1)).all (isP2 to b a)) by rw [← HQ2.out]; unfold isP2; rw [hv, decide_eq_false hqb, decide_eq_false hqa]; simp)
                              rw [hv] at hk2
                              clear hv
                              go_wp2_with fail
                              go_round
                              case rel => exact ⟨q + 1, _, by omega, rfl, by go_num, HN⟩
                              case measure => simp [intOf]; omega
                      · have HYS := Lib.hid (HLY.out (HIY.out true (by have h := HQ.out; rwa [show q = to.length by omega] at h)).symm)
                        go_wp2_with fail
                        go_roundw
                        case rel => exact ⟨a + 1, (a : Int), by omega, by go_num, HSET.out, HB6.out, HYS⟩
                        case measure => simp [intOf]; omega
                · have HT := Lib.hid (K2.out rfl)
                  clear K2 K3 hd
                  rw [HT.out] at hcab
                  clear HT
                  go_wp2_with fail
                  clear hca hcab
                  go_loop [10, 11] (fun u k => ∃ (q : Nat) (t : Bool), q ≤ to.length ∧ u = .bool t ∧ k = .int .i64 (q : Int) ∧ RowKit.Hid (t = (isT2 to b a && (List.range q).all (isP2 to b a)))) (fun _ k => to.length - (intOf k).toNat)
                  case atStart => exact ⟨0, _, Nat.zero_le _, rfl, rfl, HZ⟩
                  case round =>
                    obtain ⟨q, t, hq, rfl, rfl, HQ⟩ := hrel
                    cases t
                    · have HNO := Lib.hid (HLN.out (HIS.out q hq HQ.out))
                      by_cases hqt : q < to.length
                      · go_wp2_with fail
                        go_roundw
                        case rel => exact ⟨a + 1, c, by omega, by go_num, HI3.out, HB5.out, HNO⟩
                        case measure => simp [intOf]; omega
                      · go_wp2_with fail
                        go_roundw
                        case rel => exact ⟨a + 1, c, by omega, by go_num, HI3.out, HB5.out, HNO⟩
                        case measure => simp [intOf]; omega
                    · by_cases hqt : q < to.length
                      · have hk1 := HO5.out.at_ hqt hqt
                        have hk2 := HO5.out.cell hqt hbt
                        have hk3 := HO5.out.cell hqt hat
                        have i4 : (0 : Int) ≤ q ∧ (q : Int) < to.length := by omega
                        have HQ2 := Lib.hid (HPS.out q true HQ.out)
                        by_cases hqb : q = b
                        · subst hqb
                          have hbb : ((q : Int) == (q : Int)) = true := beq_self_eq_true _
                          have HN := Lib.hid (show true = (isT2 to q a && (List.range (q + 1)).all (isP2 to q a)) by rw [← HQ2.out]; unfold isP2; simp)
                          go_wp2_with fail
                          go_round
                          case rel => exact ⟨q + 1, true, by omega, rfl, by go_num, HN⟩
                          case measure => simp [intOf]; omega
                        · have hbb : ((q : Int) == (b : Int)) = false := beq_eq_false_iff_ne.2 (by omega)
                          by_cases hqa : q = a
                          · subst hqa
                            have haa : ((q : Int) == (q : Int)) = true := beq_self_eq_true _
                            have HN := Lib.hid (show true = (isT2 to b q && (List.range (q + 1)).all (isP2 to b q)) by rw [← HQ2.out]; unfold isP2; simp)
                            go_wp2_with fail
                            go_round
                            case rel => exact ⟨q + 1, true, by omega, rfl, by go_num, HN⟩
                            case measure => simp [intOf]; omega
                          · have haa : ((q : Int) == (a : Int)) = false := beq_eq_false_iff_ne.2 (by omega)
                            cases hv : DD.behB to q b
                            · have HN := Lib.hid (show true = (isT2 to b a && (List.range (q + 1)).all (isP2 to b a)) by rw [← HQ2.out]; unfold isP2; rw [hv]; simp)
                              rw [hv] at hk2
                              clear hv
                              go_wp2_with fail
                              go_round
                              case rel => exact ⟨q + 1, true, by omega, rfl, by go_num, HN⟩
                              case measure => simp [intOf]; omega
                            · have HN := Lib.hid (show DD.behB to q a = (isT2 to b a && (List.range (q + 1)).all (isP2 to b a)) by rw [← HQ2.out]; unfold isP2; rw [hv, decide_eq_false hqb, decide_eq_false hqa]; simp)
                              rw [hv] at hk2
                              clear hv
                              go_wp2_with fail
                              go_round
                              case rel => exact ⟨q + 1, _, by omega, rfl, by go_num, HN⟩
                              case measure => simp [intOf]; omega
                      · have HYS := Lib.hid (HLY.out (HIY.out true (by have h := HQ.out; rwa [show q = to.length by omega] at h)).symm)
                        go_wp2_with fail
                        go_roundw
                        case rel => exact ⟨a + 1, (a : Int), by omega, by go_num, HSET.out, HB6.out, HYS⟩
                        case measure => simp [intOf]; omega
              · have HDN := Lib.hid (show ∀ j, j < b + 1 → DD.setI f b c j = DD.meetI to j from fun j hj => by
                  unfold DD.setI
                  by_cases e : j = b
                  · subst e
                    rw [if_pos rfl, HC.out, show a = to.length by omega]; rfl
                  · rw [if_neg e]; exact HF.out j (by omega))
                go_wp2_with fail
                go_roundw
                case rel => exact ⟨b + 1, _, by omega, by go_num, HI3.out, HB5.out, HDN⟩
                case measure => simp [intOf]; omega
          · have HRW := Lib.hid (show Row wr.heap.size wr (.slice (some ⟨wo.heap.size, 0, none⟩) to.length to.length) (DD.postL to) by
              rw [HE.out]
              exact (HI.out.congr (fun j hj => HF.out j (by omega))).row)
            go_wp2_with fail
            go_ret
            exact ⟨_, rfl, HRW.out, HBW.out.trans (HB3.out.mono HBW.out.size)⟩
end Go.Proofs.Ytbdmpilaeoclgaa
