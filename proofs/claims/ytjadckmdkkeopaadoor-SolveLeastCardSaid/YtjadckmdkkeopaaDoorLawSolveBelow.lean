import Derived.Test.YtjadckmdkkeopaaDoorOpenS
import Derived.Test.YtjadckmdkkeopaaDoorDoorZ
set_option linter.unusedSimpArgs false
set_option linter.unusedVariables false
/-! SolveBelow, walked -/
namespace Go.Proofs.YtjadckmdkkeopaaDoor
open Go.RowKit
open SV (Lab SysOk Least labs sumOf mu sumP at' natsL askT askI fanN lok Bnd val valT)
theorem sol_ok {xs : List Int} {hr : LL.rightB xs = true} {hw : Wide xs} {c : List (Int × Int)} {to : List (List Int)} {s : List Lab} (h : Bnd (labs xs hr hw) (sysL c to) s) : s.length = c.length ∧ ∀ i, i < s.length → lok xs (at' s i) := by
  have e : s.length = c.length := h.len.trans (natL_len c)
  exact ⟨e, fun i hi => h.ok i (by have : (sysL c to).C.length = c.length := natL_len c; omega)⟩
theorem bndz_sol {xs : List Int} {hr : LL.rightB xs = true} {hw : Wide xs} {c : List (Int × Int)} {to : List (List Int)} {s : List Lab} {z : Bool} (hs : sysB xs c to = true) (h : Least (labs xs hr hw) (sysL c to) s) (hz : BoundZ xs c to (labI s) z) : z = true := by
  have h1 := sol_ok h.1
  refine hz.2 ⟨hs, by rw [labI_len]; exact h1.1, (labI_ok h1.2).1, hr, hw, by rw [natL_labI]; exact h.1⟩
theorem bndz_no {xs : List Int} {c l : List (Int × Int)} {to : List (List Int)} {z : Bool} (hs : sysB xs c to = false) (hz : BoundZ xs c to l z) : z = false := by
  cases z with
  | false => rfl
  | true => have h := (hz.1 rfl).1; rw [hs] at h; cases h
set_option maxRecDepth 100000 in
set_option maxHeartbeats 6400000 in
theorem solveBelow_walk {uv cv nv lv : Value} {xs : List Int} {c l : List (Int × Int)} {to : List (List Int)} (W : World) (hu : Nums .u64 W.heap.size W uv xs) (hx : Wide xs) (hxl : xs.length ≤ big5) (hT : Tz W) (hv : LabRow W.heap.size W cv c) (hwc : WideL c) (hg : GraphM W.heap.size W nv to) (hs : Small to) (hl : LabRow W.heap.size W lv l) (hwl : WideL l) (hcl : c.length ≤ 17592186044416) (hll : l.length ≤ 17592186044416) :
    Calls Tryd.prog 5 #[uv, .agg #[cv, nv], lv] W fun e V => e = .returned (.bool true) ∧ Below W.heap.size W V := by
  obtain ⟨ua, uc, rfl⟩ := hu.form
  obtain ⟨ca, cc, rfl⟩ := hv.form
  obtain ⟨na, nc, rfl⟩ := hg.form
  obtain ⟨la, lc, rfl⟩ := hl.form
  have HU := Lib.hid hu
  have HX := Lib.hid hx
  have HC := Lib.hid hv
  have HG := Lib.hid hg
  have HL := Lib.hid hl
  have HWL := Lib.hid hwl
  have HS0 := Lib.hid (sysAt_start W (.slice ca c.length cc) (.slice na to.length nc))
  have HFEW := Lib.hid (few_any (ca := ca) (cc := cc) (l := c) _ ((HG.out.below HS0.out.1).mono HS0.out.1.size) hcl hs)
  have HAW := Lib.hid (fun w (hb : Below W.heap.size W w) => awake17_any w (hT.on hb))
  have HSV := Lib.hid (fun (hf : fewB c to = true) w (hb : Below W.heap.size W w) => solve_any w ((HU.out.below hb).mono hb.size) hx hxl (hT.on hb) ((HC.out.below hb).mono hb.size) hwc ((HG.out.below hb).mono hb.size) (by omega) (by have := (few_parts hf).2.1; omega) (fun a => by have := (few_parts hf).2.2 a; omega))
  have HBD := Lib.hid (fun (hf : fewB c to = true) w (hb : Below W.heap.size W w) {v : Value} {m : List (Int × Int)} (hm : LabRow w.heap.size w v m) (hwm : WideL m) (hml : m.length ≤ 17592186044416) => bounds_any w ((HU.out.below hb).mono hb.size) hx hxl (hT.on hb) ((HC.out.below hb).mono hb.size) hwc ((HG.out.below hb).mono hb.size) hm hwm (by have := (few_parts hf).1; omega) hml (by have := (few_parts hf).2.1; omega) (fun a => by have := (few_parts hf).2.2 a; omega))
  have HLL := Lib.hid hll
  have b0 : (c.length : Int) ≤ 17592186044416 := by omega
  have b1 : (l.length : Int) ≤ 17592186044416 := by omega
  have b2 : (xs.length : Int) ≤ 17592186044416 := by have := hxl; unfold big5 at this; omega
  obtain ⟨z, ez⟩ : ∃ z, z = fewB c to := ⟨_, rfl⟩
  have HZ := Lib.hid ez
  clear hu hx hxl hT hv hwc hg hs hl hwl hcl hll ez
  cases z with
  | false =>
    go_enter Tryd.func5, Tryd.ntmps5
    go_wp2_with (go_at_call 15; refine HFEW.out.mono ?_; rintro e w2 ⟨rfl, hb2⟩; rw [← HZ.out]; have HS2 := Lib.hid (HS0.out.on hb2); clear hb2)
    go_ret
    exact ⟨rfl, HS2.out.1⟩
  | true =>
    by_cases h8 : (8 : Int) < xs.length
    · go_enter Tryd.func5, Tryd.ntmps5
      go_wp2_with (go_at_call 15; refine HFEW.out.mono ?_; rintro e w2 ⟨rfl, hb2⟩; rw [← HZ.out]; have HS2 := Lib.hid (HS0.out.on hb2); clear hb2)
      go_ret
      exact ⟨rfl, HS2.out.1⟩
    · cases hsy : sysB xs c to with
      | false =>
        have HSY := Lib.hid hsy
        clear hsy
        go_enter Tryd.func5, Tryd.ntmps5
        go_wp2_with (first
          | (go_at_call 15; refine HFEW.out.mono ?_; rintro e w2 ⟨rfl, hb2⟩; rw [← HZ.out]; have HS2 := Lib.hid (HS0.out.on hb2); have hc0 := HS2.out.2.2.1; have hc1 := HS2.out.2.2.2; clear hb2)
          | (go_at_call 16; refine (HSV.out HZ.out.symm _ HS2.out.1).mono ?_; intro e w3 hse; obtain ⟨hb3, rfl⟩ := solveE_no hse HSY.out; have HS3 := Lib.hid (HS2.out.on hb3); clear hse hb3 hc0 hc1; have hc0 := HS3.out.2.2.1; have hc1 := HS3.out.2.2.2)
          | (go_at_call 29; refine (HBD.out HZ.out.symm _ HS3.out.1 ((HL.out.below HS3.out.1).mono HS3.out.1.size) HWL.out (by have := HLL.out; omega)).mono ?_; rintro e w4 ⟨hb4, z, rfl, hz⟩; obtain rfl : z = false := bndz_no HSY.out hz; have HS4 := Lib.hid (HS3.out.on hb4); clear hb4 hz hc0 hc1)
          | (go_at_call 21; refine (HAW.out _ HS4.out.1).mono ?_; rintro e w5 ⟨rfl, hb5⟩; have HS5 := Lib.hid (HS4.out.on hb5); clear hb5))
        go_ret
        exact ⟨rfl, HS5.out.1⟩
      | true =>
        have HSY := Lib.hid hsy
        have HR := Lib.hid (sys_parts hsy).2.2.1
        clear hsy
        have hq2 : ((c.length : Int) != (c.length : Int)) = false := bne_self_eq_false _
        go_enter Tryd.func5, Tryd.ntmps5
        go_wp2_with (first
          | (go_at_call 15; refine HFEW.out.mono ?_; rintro e w2 ⟨rfl, hb2⟩; rw [← HZ.out]; have HS2 := Lib.hid (HS0.out.on hb2); have hc0 := HS2.out.2.2.1; have hc1 := HS2.out.2.2.2; clear hb2)
          | (go_at_call 16; refine (HSV.out HZ.out.symm _ HS2.out.1).mono ?_; intro e w3 hse; obtain ⟨hb3, sol, kk, ma, mc, rfl, hown, hL, hsl, hok, hk1, hk2⟩ := solveE_yes hse HSY.out HR.out HX.out; have HS3 := Lib.hid (HS2.out.on hb3); have HM := Lib.hid (lab_own (by rw [hsl]; exact hown)); have HLS := Lib.hid hL; have HSL := Lib.hid hsl; have HOK := Lib.hid hok; clear hse hb3 hc0 hc1 hown hL hsl hok hk1 hk2; have hc0 := HS3.out.2.2.1; have hc1 := HS3.out.2.2.2))
        refine (HBD.out HZ.out.symm _ HS3.out.1 HM.out (labI_ok (fun i hi => HOK.out i (by rw [← HSL.out]; exact hi))).2 (by rw [labI_len, HSL.out]; omega)).mono ?_
        rintro e w4 ⟨hb4, z, rfl, hz⟩
        obtain rfl : z = true := bndz_sol HSY.out HLS.out hz
        have HS4 := Lib.hid (HS3.out.on hb4)
        have HM4 := Lib.hid ((HM.out.below hb4).mono hb4.size)
        clear hb4 hz hc0 hc1
        have hc0 := HS4.out.2.2.1
        have hc1 := HS4.out.2.2.2
        go_wp2_with fail
        refine (HBD.out HZ.out.symm _ HS4.out.1 ((HL.out.below HS4.out.1).mono HS4.out.1.size) HWL.out (by have := HLL.out; omega)).mono ?_
        rintro e w5 ⟨hb5, z, rfl, hz⟩
        have HS5 := Lib.hid (HS4.out.on hb5)
        have HM5 := Lib.hid ((HM4.out.below hb5).mono hb5.size)
        clear hb5 hc0 hc1
        cases z with
        | false =>
          clear hz
          go_wp2_with (go_at_call 21; refine (HAW.out _ HS5.out.1).mono ?_; rintro e w6 ⟨rfl, hb6⟩; have HS6 := Lib.hid (HS5.out.on hb6); clear hb6)
          go_ret
          exact ⟨rfl, HS6.out.1⟩
        | true =>
          obtain ⟨_, hlc, hal, hr', hw', hbnd⟩ := hz.1 rfl
          have HLC := Lib.hid hlc
          have HAL := Lib.hid hal
          have HLE := Lib.hid (fun i (hi : i < c.length) => (le_iff HR.out HX.out (HOK.out i hi) (lok_at HWL.out hal (by rw [hlc]; exact hi))).1 (HLS.out.2 (natL l) hbnd i (by have : (sysL c to).C.length = c.length := natL_len c; omega)))
          clear hz hlc hal hbnd
          go_wp2_with fail
          go_loopw [10] (fun k wr => ∃ j : Nat, j ≤ l.length ∧ k = .int .i64 (j : Int) ∧ Below w5.heap.size w5 wr) (fun k _ => l.length - (intOf k).toNat)
          case atStart => exact ⟨0, Nat.zero_le _, rfl, Below.refl _ _⟩
          case round =>
            obtain ⟨j, hj, rfl, hb⟩ := hrel
            have HB := Lib.hid hb
            have HS6 := Lib.hid (HS5.out.on hb)
            clear hb
            by_cases hjt : j < l.length
            · have HJC := Lib.hid (show j < c.length by have := HLC.out; omega)
              obtain ⟨mb, mo, rfl, _, hm1, hm2⟩ := ((HM5.out.below HB.out).mono HB.out.size).at (show j < (labI sol).length by rw [labI_len, HSL.out]; exact HJC.out)
              obtain ⟨lb, lo, rfl, _, hl1, hl2⟩ := ((HL.out.below HS6.out.1).mono HS6.out.1.size).at hjt
              have i1 : (0 : Int) ≤ j ∧ (j : Int) < l.length := by omega
              have i2 : (0 : Int) ≤ j ∧ (j : Int) < c.length := by have := HJC.out; omega
              have HAX := Lib.hid (HOK.out j HJC.out).1
              have HLJ := Lib.hid (HLE.out j HJC.out)
              have e1 := labI_at (s := sol) (i := j) (by rw [HSL.out]; exact HJC.out)
              have e2 : (l[j]?.getD s0).1 = ((at' (natL l) j).1 : Int) := by
                rw [natL_at hjt]
                have := lab_yes2 HAL.out hjt
                simp only
                omega
              have e3 : (l[j]?.getD s0).2 = (at' (natL l) j).2 := by rw [natL_at hjt]
              rw [e1] at hm1 hm2
              rw [e2] at hl1
              rw [e3] at hl2
              simp only at hm1 hm2
              clear e1 e2 e3
              obtain ⟨⟨p1, p2⟩, ep⟩ : ∃ p, p = at' sol j := ⟨_, rfl⟩
              obtain ⟨⟨r1, r2⟩, er⟩ : ∃ r, r = at' (natL l) j := ⟨_, rfl⟩
              rw [← ep] at hm1 hm2 HAX HLJ
              rw [← er] at hl1 hl2 HLJ
              clear ep er
              simp only at hm1 hm2 hl1 hl2
              go_upto_region 13 with fail
              have HB7 := Lib.hid (show Below w5.heap.size w5 wr.drew from HB.out.drew)
              have hh : wr.drew.cell? ⟨mb, mo + j * 2, none⟩ = some (.int .i64 p1) ∧ wr.drew.cell? ⟨mb, mo + j * 2 + 1, none⟩ = some (.int .u64 p2) ∧ wr.drew.cell? ⟨lb, lo + j * 2, none⟩ = some (.int .i64 r1) ∧ wr.drew.cell? ⟨lb, lo + j * 2 + 1, none⟩ = some (.int .u64 r2) := ⟨hm1, hm2, hl1, hl2⟩
              have HMB := Lib.hid (show mb < wr.drew.heap.size from by assumption)
              have HLB := Lib.hid (show lb < wr.drew.heap.size from by assumption)
              have HS7 := Lib.hid (show SysAt W _ _ wr.drew from HS6.out.drewN 1)
              refine wp_region_held_drew (S := (fun V => V.cell? ⟨mb, mo + j * 2, none⟩ = some (.int .i64 p1) ∧ V.cell? ⟨mb, mo + j * 2 + 1, none⟩ = some (.int .u64 p2) ∧ V.cell? ⟨lb, lo + j * 2, none⟩ = some (.int .i64 r1) ∧ V.cell? ⟨lb, lo + j * 2 + 1, none⟩ = some (.int .u64 r2))) (by kernel_rfl) ?_ (fun hHeld => ?_)
              · exact hh
              clear hm1 hm2 hl1 hl2 hh
              generalize wr.drew = w7 at HB7 HMB HLB HS7 hHeld ⊢
              refine wpAnyH_take (i := 0) (v := .slice ua xs.length uc) rfl (by kernel_rfl) (by kernel_rfl) (by kernel_rfl) (fun _ _ _ h => h) (Or.inl ⟨by rfl, fun W hSW => ?_⟩) hHeld ?_
              · ((try dsimp only at hSW); go_split_ands; go_simp <;> with_reducible rfl)
              try simp only [List.getElem_toArray, List.getElem_cons_succ, List.getElem_cons_zero, Act.put, List.setIfInBounds_toArray, List.set_cons_zero, List.set_cons_succ]
              refine wpAnyH_take (i := 1) (v := .slice (some ⟨mb, mo, none⟩) c.length mc) rfl (by kernel_rfl) (by kernel_rfl) (by kernel_rfl) (fun _ _ _ h => h) (Or.inl ⟨by rfl, fun W hSW => ?_⟩) hHeld ?_
              · ((try dsimp only at hSW); go_split_ands; go_simp <;> with_reducible rfl)
              try simp only [List.getElem_toArray, List.getElem_cons_succ, List.getElem_cons_zero, Act.put, List.setIfInBounds_toArray, List.set_cons_zero, List.set_cons_succ]
              refine wpAnyH_take (i := 2) (v := .int .i64 j) rfl (by kernel_rfl) (by kernel_rfl) (by kernel_rfl) (fun _ _ _ h => h) (Or.inl ⟨by rfl, fun W hSW => ?_⟩) hHeld ?_
              · ((try dsimp only at hSW); go_split_ands; go_simp <;> with_reducible rfl)
              try simp only [List.getElem_toArray, List.getElem_cons_succ, List.getElem_cons_zero, Act.put, List.setIfInBounds_toArray, List.set_cons_zero, List.set_cons_succ]
              refine wpAnyH_take (i := 3) (v := .pointer (some ⟨mb, mo + j * 2, none⟩)) rfl (by kernel_rfl) (by kernel_rfl) (by kernel_rfl) (fun _ _ _ h => h) (Or.inl ⟨by rfl, fun W hSW => ?_⟩) hHeld ?_
              · ((try dsimp only at hSW); go_split_ands; go_simp <;> with_reducible rfl)
              try simp only [List.getElem_toArray, List.getElem_cons_succ, List.getElem_cons_zero, Act.put, List.setIfInBounds_toArray, List.set_cons_zero, List.set_cons_succ]
              refine wpAnyH_take (i := 4) (v := .agg #[.int .i64 p1, .int .u64 p2]) rfl (by kernel_rfl) (by kernel_rfl) (by kernel_rfl) (fun _ _ _ h => h) (Or.inl ⟨by rfl, fun W hSW => ?_⟩) hHeld ?_
              · ((try dsimp only at hSW); go_split_ands; go_simp <;> with_reducible rfl)
              try simp only [List.getElem_toArray, List.getElem_cons_succ, List.getElem_cons_zero, Act.put, List.setIfInBounds_toArray, List.set_cons_zero, List.set_cons_succ]
              refine wpAnyH_take (i := 5) (v := .slice (some ⟨lb, lo, none⟩) l.length lc) rfl (by kernel_rfl) (by kernel_rfl) (by kernel_rfl) (fun _ _ _ h => h) (Or.inl ⟨by rfl, fun W hSW => ?_⟩) hHeld ?_
              · ((try dsimp only at hSW); go_split_ands; go_simp <;> with_reducible rfl)
              try simp only [List.getElem_toArray, List.getElem_cons_succ, List.getElem_cons_zero, Act.put, List.setIfInBounds_toArray, List.set_cons_zero, List.set_cons_succ]
              refine wpAnyH_take (i := 6) (v := .int .i64 j) rfl (by kernel_rfl) (by kernel_rfl) (by kernel_rfl) (fun _ _ _ h => h) (Or.inl ⟨by rfl, fun W hSW => ?_⟩) hHeld ?_
              · ((try dsimp only at hSW); go_split_ands; go_simp <;> with_reducible rfl)
              try simp only [List.getElem_toArray, List.getElem_cons_succ, List.getElem_cons_zero, Act.put, List.setIfInBounds_toArray, List.set_cons_zero, List.set_cons_succ]
              refine wpAnyH_take (i := 7) (v := .pointer (some ⟨lb, lo + j * 2, none⟩)) rfl (by kernel_rfl) (by kernel_rfl) (by kernel_rfl) (fun _ _ _ h => h) (Or.inl ⟨by rfl, fun W hSW => ?_⟩) hHeld ?_
              · ((try dsimp only at hSW); go_split_ands; go_simp <;> with_reducible rfl)
              try simp only [List.getElem_toArray, List.getElem_cons_succ, List.getElem_cons_zero, Act.put, List.setIfInBounds_toArray, List.set_cons_zero, List.set_cons_succ]
              refine wpAnyH_take (i := 8) (v := .agg #[.int .i64 r1, .int .u64 r2]) rfl (by kernel_rfl) (by kernel_rfl) (by kernel_rfl) (fun _ _ _ h => h) (Or.inl ⟨by rfl, fun W hSW => ?_⟩) hHeld ?_
              · ((try dsimp only at hSW); go_split_ands; go_simp <;> with_reducible rfl)
              try simp only [List.getElem_toArray, List.getElem_cons_succ, List.getElem_cons_zero, Act.put, List.setIfInBounds_toArray, List.set_cons_zero, List.set_cons_succ]
              refine wpAnyH_ready (rs := [9]) (by kernel_rfl) (by simp) ?_
              refine AllReadyH.cons rfl (fun K hK => ?_) AllReadyH.nil
              try simp only [List.getElem_toArray, List.getElem_cons_succ, List.getElem_cons_zero]
              go_simp
              (go_at_call 27; refine (rleq17_any _ xs w7.heap.size p1 r1 p2 r2 w7 ((HU.out.below HS7.out.1).mono HS7.out.1.size) (Nat.le_refl _) HX.out HAX.out).mono ?_; rintro e w8 ⟨rfl, hb8⟩; rw [HLJ.out])
              try go_wp2_with fail
              refine hK.out _ _ ?_ (fun hHeld => ?_)
              · exact ⟨(hb8.cell (p := ⟨mb, mo + j * 2, none⟩) HMB.out).trans hHeld.1, (hb8.cell (p := ⟨mb, mo + j * 2 + 1, none⟩) HMB.out).trans hHeld.2.1, (hb8.cell (p := ⟨lb, lo + j * 2, none⟩) HLB.out).trans hHeld.2.2.1, (hb8.cell (p := ⟨lb, lo + j * 2 + 1, none⟩) HLB.out).trans hHeld.2.2.2⟩
              clear hK K
              try simp only [List.getElem_toArray, List.getElem_cons_succ, List.getElem_cons_zero, Act.put, List.setIfInBounds_toArray, List.set_cons_zero, List.set_cons_succ]
              have HB8 := Lib.hid (HB7.out.trans (hb8.mono HB7.out.size))
              refine wpAnyH_take (i := 10) (v := .bool false) rfl (by kernel_rfl) (by kernel_rfl) (by kernel_rfl) (fun _ _ _ h => h) (Or.inl ⟨by rfl, fun W hSW => ?_⟩) hHeld ?_
              · ((try dsimp only at hSW); go_split_ands; go_simp <;> with_reducible rfl)
              try simp only [List.getElem_toArray, List.getElem_cons_succ, List.getElem_cons_zero, Act.put, List.setIfInBounds_toArray, List.set_cons_zero, List.set_cons_succ]
              refine wpAnyH_done (by kernel_rfl) ?_ _
              clear hHeld hb8
              go_wp2_with fail
              go_roundw
              case rel => exact ⟨j + 1, by omega, by go_num, HB8.out⟩
              case measure => simp [intOf]; omega
            · have hjz : ¬ ((j : Int) < l.length) := by omega
              go_wp2_with (go_at_call 21; refine (HAW.out _ HS6.out.1).mono ?_; rintro e w6 ⟨rfl, hb6⟩; have HS7 := Lib.hid (HS6.out.on hb6); clear hb6)
              go_ret
              exact ⟨rfl, HS7.out.1⟩
end Go.Proofs.YtjadckmdkkeopaaDoor
