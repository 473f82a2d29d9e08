import Derived.Test.YtjadckmdkkeopaaDoorSolMo
set_option linter.unusedSimpArgs false
set_option linter.unusedVariables false
/-! layer 17's reference: Solve -/
namespace Go.Proofs.YtjadckmdkkeopaaDoor
open Go.RowKit
open SV (Lab SysOk Least labs sumOf mu sumP at' natsL askT fanN cntN lok Bnd val valT)
theorem labV_labI (s : List Lab) : labV (labI s) = labC s := by
  unfold labV labI labC
  rw [List.flatMap_map]
theorem labC_set {l : List Lab} {i : Nat} (h : i < l.length) (p : Lab) : ((labC l).set (i * 2) (.int .i64 (p.1 : Int))).set (i * 2 + 1) (.int .u64 p.2) = labC (l.set i p) := by
  induction l generalizing i with
  | nil => simp at h
  | cons e l ih =>
    cases i with
    | zero => simp [labC]
    | succ i =>
      have := ih (i := i) (by simpa using h)
      have e1 : (i + 1) * 2 = i * 2 + 2 := by omega
      rw [e1]
      unfold labC at this ⊢
      rw [List.flatMap_cons, List.set_cons_succ, List.flatMap_cons]
      simpa using this
theorem lab_put {W : World} {B n sc sb o : Nat} {ss : List Lab} (h : W.ownsRow B 43 2 (.slice (some ⟨sb, 0, none⟩) n sc) n (labC ss)) (ho : o < ss.length) (p : Lab) :
    ((W.setCell ⟨sb, o * 2, none⟩ (.int .i64 (p.1 : Int))).setCell ⟨sb, o * 2 + 1, none⟩ (.int .u64 p.2)).ownsRow B 43 2 (.slice (some ⟨sb, 0, none⟩) n sc) n (labC (ss.set o p)) := by
  have q1 := World.ownsRow.stored h (o * 2) (.int .i64 (p.1 : Int))
  have q2 := (World.ownsRow.stored q1.1 (o * 2 + 1) (.int .u64 p.2)).1
  rw [labC_set ho p] at q2
  exact q2
def RSolE (xs : List Int) (c : List (Int × Int)) (tq : List (List Int)) (hr : LL.rightB xs = true) (hx : Wide xs) (W : World) (e : Ending) (V : World) : Prop :=
  ∃ sol a cap, e = .returned (.slice a c.length cap) ∧ V.ownsRow W.heap.size 43 2 (.slice a c.length cap) c.length (labC sol) ∧ Least (labs xs hr hx) (sysL c tq) sol ∧ Below W.heap.size W V
set_option maxRecDepth 100000 in
set_option maxHeartbeats 6400000 in
theorem rsolve17_any {uv cv nv : Value} {xs : List Int} {c : List (Int × Int)} {tq : List (List Int)} (W : World) (hu : Nums .u64 W.heap.size W uv xs) (hx : Wide xs) (hr : LL.rightB xs = true) (hv : LabRow W.heap.size W cv c) (hwc : WideL c) (hg : GraphM W.heap.size W nv tq) (hs : Small tq) (hin : ∀ j, j < c.length → 0 ≤ (c[j]?.getD s0).1 ∧ (c[j]?.getD s0).1 < xs.length) (hti : ∀ a : Nat, ∀ x ∈ tq[a]?.getD [], 0 ≤ x ∧ x < tq.length) (htn : tq.length = c.length) (hcl : c.length ≤ 4294967296) :
    Calls Tryd.prog 25 #[uv, cv, nv] W fun e V => RSolE xs c tq hr hx W e V := by
  obtain ⟨ua, uc, rfl⟩ := hu.form
  obtain ⟨ca, cc, rfl⟩ := hv.form
  obtain ⟨na, nc, rfl⟩ := hg.form
  obtain ⟨i0, hi0, hz0, hz1, hz2⟩ := info_parts infoLab
  have HU := Lib.hid hu
  have HX := Lib.hid hx
  show Calls Tryd.prog 25 _ W fun e V => RSolE xs c tq hr HX.out W e V
  have HS := Lib.hid (sys_ok hr HX.out hwc htn hin hti)
  have HC := Lib.hid hv
  have HVAL := Lib.hid (fun (t : List Lab) (htl : t.length = c.length) (htk : ∀ i, i < c.length → lok xs (at' t i)) w (hb : Below W.heap.size W w) {lv : Value} (hl : LabRow w.heap.size w lv (labI t)) (i : Nat) (hi : i < c.length) =>
    rvalue_any (l := labI t) w ((HU.out.below hb).mono hb.size) HX.out hr ((HC.out.below hb).mono hb.size) ((hg.below hb).mono hb.size) hs hl HS.out hin hti (labI_ok (fun i hi => htk i (by rw [← htl]; exact hi))).2 (labI_ok (fun i hi => htk i (by rw [← htl]; exact hi))).1 (by rw [labI_len]; exact htl) htn (by omega) i hi)
  have HLC := Lib.hid (show labV c = labC (natL c) by
    rw [← labV_labI, labI_natL (n := xs.length) (lab_yes hin)])
  have HWS := Lib.hid (SV.way_start HS.out)
  have HCN := Lib.hid (natL_len c)
  have b0 : (c.length : Int) ≤ 4294967296 := by omega
  clear hu hx hv hwc hg hs hin hti htn
  have HL0 := Lib.hid (show (W.alloc (.cells #[] 43)).ownsRow W.heap.size 43 2 (.slice (some ⟨W.heap.size, 0, none⟩) 0 0) 0 [] from lit_rowS (heap_alloc_new _ _) (Nat.le_refl _))
  have HB0 := Lib.hid (show Below W.heap.size W (W.alloc (.cells #[] 43)) from (Below.refl _ _).alloc (Nat.le_refl _) _)
  go_enter Tryd.func25, Tryd.ntmps25
  go_wp2_with (at_builtin
               refine GG.wpList_append_any rfl _ _ 23 rfl W.heap.size 43 i0 (.agg #[.int .i64 0, .int .u64 0]) 2 16 Tryd.underlying23 hi0 hz0 hz1 hz2 rfl (by decide) (.slice (some ⟨W.heap.size, 0, none⟩) 0 0) 0 [] rfl HL0.out (.slice ca c.length cc) c.length (labV c) rfl (labV_len c) (HC.out.below HB0.out).src (labV_one c) (by unfold maxLen; omega) (by omega) HB0.out.size ?_
               intro v1 w1 ho hg
               have HO1 := Lib.hid (own0S ho)
               have HB1 := Lib.hid (HB0.out.grown hg HB0.out.size (fun k e => by have h1 : W.heap.size = k := Option.some.inj e; omega))
               clear ho hg)
  obtain ⟨la, lc, rfl⟩ := SS.ownOf HO1.out
  go_loopg [8] (2 * sumP (labs xs hr HX.out) (natL c) + 1) (fun gn s wr => ∃ (t : List Lab) (b : Bool), s = .bool b ∧ Below W.heap.size W wr ∧ wr.ownsRow W.heap.size 43 2 (.slice la c.length lc) c.length (labC t) ∧ RowKit.Hid (SV.Way (labs xs hr HX.out) (sysL c tq) t ∧ (b = false → ∀ i, i < (sysL c tq).C.length → val (labs xs hr HX.out) (sysL c tq) t i = at' t i) ∧ gn = 2 * sumP (labs xs hr HX.out) t + (if b then 1 else 0)))
  case atStart => exact ⟨natL c, true, rfl, HB1.out, by rw [← HLC.out]; exact HO1.out, Lib.hid ⟨HWS.out, (fun h => by cases h), rfl⟩⟩
  case round =>
    obtain ⟨t, b, rfl, hb, ho, HW⟩ := hrel
    have HB := Lib.hid hb
    have HO := Lib.hid ho
    clear hb ho HO1 HB1
    cases b with
    | false =>
      have HF := Lib.hid (SV.way_end HS.out HW.out.1 (HW.out.2.1 rfl))
      go_wp2_with fail
      go_ret
      exact ⟨t, la, lc, rfl, HO.out, HF.out, HB.out⟩
    | true =>
      have HGN := Lib.hid HW.out.2.2
      go_wp2_with fail
      obtain ⟨wo, ewo⟩ : ∃ wo : World, wo = wr := ⟨_, rfl⟩
      rw [← ewo]
      rw [← ewo] at HB HO
      clear ewo
      go_loopw [8, 9] (fun s k wr => ∃ (i : Nat) (t2 : List Lab) (b : Bool), i ≤ c.length ∧ k = .int .i64 (i : Int) ∧ s = .bool b ∧ Below W.heap.size W wr ∧ wr.ownsRow W.heap.size 43 2 (.slice la c.length lc) c.length (labC t2) ∧ RowKit.Hid (SV.Way (labs xs hr HX.out) (sysL c tq) t2 ∧ (b = true → sumP (labs xs hr HX.out) t2 < sumP (labs xs hr HX.out) t) ∧ (b = false → t2 = t ∧ ∀ a, a < i → val (labs xs hr HX.out) (sysL c tq) t a = at' t a))) (fun _ k _ => c.length - (intOf k).toNat)
      case atStart => exact ⟨0, t, false, Nat.zero_le _, rfl, rfl, HB.out, HO.out, Lib.hid ⟨HW.out.1, (fun h => by cases h), fun _ => ⟨rfl, fun a ha => absurd ha (Nat.not_lt_zero _)⟩⟩⟩
      case round =>
        obtain ⟨i, t2, b, hi, rfl, rfl, hb, ho, HW2⟩ := hrel
        have HB2 := Lib.hid hb
        have HO2 := Lib.hid ho
        clear hb ho HB HO
        by_cases hit : i < c.length
        · have i1 : (0 : Int) ≤ i ∧ (i : Int) < c.length := by omega
          have HIC := Lib.hid hit
          have HT2L := Lib.hid (show t2.length = c.length from HW2.out.1.len.trans HCN.out)
          have HT2K := Lib.hid (fun j (hj : j < c.length) => show lok xs (at' t2 j) from HW2.out.1.ok j (by rw [show (sysL c tq).C.length = c.length from HCN.out]; exact hj))
          have HRL := Lib.hid (lab_own (by rw [HT2L.out]; exact HO2.out))
          obtain ⟨lb, lbc, e1⟩ := SS.own_some HO2.out (by omega)
          cases e1
          obtain ⟨⟨p1, p2⟩, ep⟩ : ∃ p, p = at' t2 i := ⟨_, rfl⟩
          have hcl2 := labC_at (s := t2) (i := i) (by rw [HT2L.out]; exact hit)
          rw [labI_at (by rw [HT2L.out]; exact hit), ← ep] at hcl2
          simp only at hcl2
          have HEP := Lib.hid ep
          clear ep
          obtain ⟨⟨v1, v2⟩, ev⟩ : ∃ v, v = val (labs xs hr HX.out) (sysL c tq) t2 i := ⟨_, rfl⟩
          have HEV := Lib.hid ev
          clear ev
          go_upto_region 9 with (go_at_call 28; refine (HVAL.out t2 HT2L.out HT2K.out _ HB2.out HRL.out i HIC.out).mono ?_; rintro e w5 ⟨rfl, hb5⟩; rw [natL_labI, ← HEV.out]; have HB5 := Lib.hid (HB2.out.trans (hb5.mono HB2.out.size)); have HO5 := Lib.hid (SS.own_of_block HO2.out (fun k e => hb5.block k (HO2.out.lt k e).2)); clear hb5)
          have HB6 := Lib.hid (HB5.out.alloc HB5.out.size (.cells #[.int .i64 (v1 : Int), .int .u64 v2] 43))
          have HO6 := Lib.hid (HO5.out.alloc (.cells #[.int .i64 (v1 : Int), .int .u64 v2] 43))
          have HV6 := Lib.hid (heap_alloc_new w5 (.cells #[.int .i64 (v1 : Int), .int .u64 v2] 43))
          have HNE := Lib.hid (show lb ≠ w5.heap.size from by have := (HO5.out.lt lb rfl).2; omega)
          obtain ⟨N, eN⟩ : ∃ N, N = w5.heap.size := ⟨_, rfl⟩
          rw [← eN] at HV6 HNE ⊢
          clear eN
          generalize w5.alloc (.cells #[.int .i64 (v1 : Int), .int .u64 v2] 43) = w6 at HB6 HO6 HV6 ⊢
          have hv1 := (one_lab HV6.out).1
          have hv2 := (one_lab HV6.out).2.1
          have hl1 := own_cellZ HO6.out hcl2.1
          have hl2 := own_cellZ HO6.out hcl2.2
          by_cases hvp : (v1, v2) = (p1, p2)
          · have h1 : v1 = p1 := congrArg Prod.fst hvp
            have h2 : v2 = p2 := congrArg Prod.snd hvp
            have hE : ∀ w, (Op.equalIn 10000 43 (.agg #[.int .i64 (v1 : Int), .int .u64 v2]) (.agg #[.int .i64 (p1 : Int), .int .u64 p2])).run Tryd.prog w = .ok true w := fun w => by rw [eq_lab, h1, h2]; simp
            have HNX := Lib.hid (show b = false → t2 = t ∧ ∀ a, a < i + 1 → val (labs xs hr HX.out) (sysL c tq) t a = at' t a from fun h => by
              obtain ⟨g1, g2⟩ := HW2.out.2.2 h
              refine ⟨g1, fun a ha => ?_⟩
              by_cases e : a = i
              · subst e
                rw [← g1, ← HEV.out, ← HEP.out, hvp]
              · exact g2 a (by omega))
            clear h1 h2 hvp
            go_quiet (fail)
            have HB7 := Lib.hid (bel_dN HB6.out nq)
            have HO7 := Lib.hid (show (w6.drewN nq).ownsRow _ _ _ _ _ _ from SS.own_of_block HO6.out (fun k e => rfl))
            clear hv1 hv2 hl1 hl2 hE
            go_wp2_with fail
            go_roundw
            case rel => exact ⟨i + 1, t2, b, by omega, by go_num, rfl, HB7.out, HO7.out, Lib.hid ⟨HW2.out.1, HW2.out.2.1, HNX.out⟩⟩
            case measure => simp [intOf]; omega
          · have hE : ∀ w, (Op.equalIn 10000 43 (.agg #[.int .i64 (v1 : Int), .int .u64 v2]) (.agg #[.int .i64 (p1 : Int), .int .u64 p2])).run Tryd.prog w = .ok false w := fun w => by
              rw [eq_lab]
              by_cases h1 : (v1 : Int) = p1
              · have h2 : ¬ v2 = p2 := fun e => hvp (Prod.ext (by omega) e)
                rw [decide_eq_false h2, Bool.and_false]
              · rw [decide_eq_false h1, Bool.false_and]
            have HST := Lib.hid (SV.way_step HS.out HW2.out.1 (i := i) (by rw [show (sysL c tq).C.length = c.length from HCN.out]; exact HIC.out) (fun e => hvp (by rw [HEV.out, HEP.out, e])))
            have HLT := Lib.hid (show sumP (labs xs hr HX.out) (t2.set i (v1, v2)) < sumP (labs xs hr HX.out) t by
              have h1 := HST.out.2
              rw [← HEV.out] at h1
              cases b with
              | true => exact Nat.lt_trans h1 (HW2.out.2.1 rfl)
              | false => rw [(HW2.out.2.2 rfl).1] at h1 ⊢; exact h1)
            have HWN := Lib.hid (show SV.Way (labs xs hr HX.out) (sysL c tq) (t2.set i (v1, v2)) by rw [HEV.out]; exact HST.out.1)
            clear hvp
            go_quiet (fail)
            have HB7 := Lib.hid (bel_dN HB6.out nq)
            have HO7 := Lib.hid (show (w6.drewN nq).ownsRow _ _ _ _ _ _ from SS.own_of_block HO6.out (fun k e => rfl))
            have HV7 := Lib.hid (show (w6.drewN nq).heap[N]? = _ from HV6.out)
            clear hv1 hv2 hl1 hl2 hE
            generalize w6.drewN nq = w8 at HB7 HO7 HV7 ⊢
            have hv1 := (one_lab HV7.out).1
            have hv2 := (one_lab HV7.out).2.1
            have hl1 := own_cellZ HO7.out hcl2.1
            have hl2 := own_cellZ HO7.out hcl2.2
            have hf1 := SS.own_free HO7.out (i * 2)
            have hf2 := SS.own_free HO7.out (i * 2 + 1)
            have HPN := Lib.hid (lab_put HO7.out (show i < t2.length by rw [HT2L.out]; exact HIC.out) (v1, v2))
            have HBN := Lib.hid ((HB7.out.setCell (p := ⟨lb, i * 2, none⟩) (HO7.out.lt lb rfl).1 (.int .i64 (v1 : Int))).setCell (p := ⟨lb, i * 2 + 1, none⟩) (HO7.out.lt lb rfl).1 (.int .u64 v2))
            go_wp2_with fail
            go_roundw
            case rel => exact ⟨i + 1, _, true, by omega, by go_num, rfl, HBN.out, HPN.out, Lib.hid ⟨HWN.out, fun _ => HLT.out, fun h => by cases h⟩⟩
            case measure => simp [intOf]; omega
        · have hiz : ¬ ((i : Int) < c.length) := by omega
          go_wp2_with fail
          cases b with
          | true =>
            go_roundg (2 * sumP (labs xs hr HX.out) t2 + 1)
            case measure => have h1 := HW2.out.2.1 rfl; have h2 := HGN.out; rw [show ∀ p : Decidable True, (@ite Nat True p 1 0) = 1 from fun _ => if_pos trivial] at h2; omega
            case rel => exact ⟨t2, true, rfl, HB2.out, HO2.out, Lib.hid ⟨HW2.out.1, (fun h => by cases h), rfl⟩⟩
          | false =>
            go_roundg (2 * sumP (labs xs hr HX.out) t2)
            case measure => have h1 := (HW2.out.2.2 rfl).1; have h2 := HGN.out; rw [show ∀ p : Decidable True, (@ite Nat True p 1 0) = 1 from fun _ => if_pos trivial] at h2; rw [h1]; omega
            case rel => exact ⟨t2, false, rfl, HB2.out, HO2.out, Lib.hid ⟨HW2.out.1, fun _ j hj => by rw [(HW2.out.2.2 rfl).1]; exact (HW2.out.2.2 rfl).2 j (by rw [show (sysL c tq).C.length = c.length from HCN.out] at hj; omega), rfl⟩⟩
end Go.Proofs.YtjadckmdkkeopaaDoor
