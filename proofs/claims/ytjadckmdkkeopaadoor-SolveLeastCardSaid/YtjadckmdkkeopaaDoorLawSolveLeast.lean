import Derived.Test.YtjadckmdkkeopaaDoorSolRs
import Derived.Test.YtjadckmdkkeopaaDoorLawSolveBounds
import Derived.Test.YtjadckmdkkeopaaDoorLawSolveBelow
set_option linter.unusedSimpArgs false
set_option linter.unusedVariables false
/-! SolveLeast, walked -/
namespace Go.Proofs.YtjadckmdkkeopaaDoor
open Go.RowKit
open SV (Lab SysOk Least labs sumOf mu sumP at' natsL askT askI fanN lok Bnd val valT)
set_option maxRecDepth 100000 in
set_option maxHeartbeats 12800000 in
theorem solveLeast_walk {ua : Option Addr} {uc : Nat} {cv nv : Value} {xs : List Int} {c : List (Int × Int)} {tq : List (List Int)} (W : World) (hu : Nums .u64 W.heap.size W (.slice ua xs.length uc) xs) (hun : ua = none → uc = 0) (hx : Wide xs) (hxl : xs.length ≤ big5) (hT : Tz W) (hv : LabRow W.heap.size W cv c) (hwc : WideL c) (hg : GraphM W.heap.size W nv tq) (hs : Small tq) (hcl : c.length ≤ 17592186044416) :
    Calls Tryd.prog 3 #[.slice ua xs.length uc, .agg #[cv, nv]] W fun e V => e = .returned (.bool true) ∧ Below W.heap.size W V := by
  obtain ⟨ca, cc, rfl⟩ := hv.form
  obtain ⟨na, nc, rfl⟩ := hg.form
  obtain ⟨i0, hi0, hz0, hz1, hz2⟩ := info_parts infoLab
  obtain ⟨j0, hj0, hy0, hy1, hy2⟩ := info_parts infoU64
  have HU := Lib.hid hu
  have HUN := Lib.hid hun
  have HX := Lib.hid hx
  have HXL := Lib.hid hxl
  have HT := Lib.hid hT
  have HC := Lib.hid hv
  have HWC := Lib.hid hwc
  have HG := Lib.hid hg
  have HSM := Lib.hid hs
  have HCL := Lib.hid hcl
  have HS0 := Lib.hid (sysAt_start W (.slice ca c.length cc) (.slice na tq.length nc))
  have HFEW := Lib.hid (few_any (ca := ca) (cc := cc) (l := c) _ ((HG.out.below HS0.out.1).mono HS0.out.1.size) hcl hs)
  have HAW := Lib.hid (fun w (hb : Below W.heap.size W w) => awake17_any w (hT.on hb))
  have HRR := Lib.hid (fun w (hb : Below W.heap.size W w) => rright17_any w ((HU.out.below hb).mono hb.size) hx hxl ((HC.out.below hb).mono hb.size) ((HG.out.below hb).mono hb.size) hcl hs)
  have b0 : (c.length : Int) ≤ 17592186044416 := by omega
  have b2 : (xs.length : Int) ≤ 17592186044416 := by have := hxl; unfold big5 at this; omega
  obtain ⟨z, ez⟩ : ∃ z, z = fewB c tq := ⟨_, rfl⟩
  have HZ := Lib.hid ez
  clear hu hun hx hxl hT hv hwc hg hs hcl ez
  cases z with
  | false =>
    go_enter Tryd.func3, Tryd.ntmps3
    go_wp2_with (go_at_call 15; refine HFEW.out.mono ?_; rintro e w2 ⟨rfl, hb2⟩; rw [← HZ.out]; have HS2 := Lib.hid (HS0.out.on hb2); clear hb2)
    go_ret
    exact ⟨rfl, HS2.out.1⟩
  | true =>
    by_cases h8 : (8 : Int) < xs.length
    · go_enter Tryd.func3, Tryd.ntmps3
      go_wp2_with (go_at_call 15; refine HFEW.out.mono ?_; rintro e w2 ⟨rfl, hb2⟩; rw [← HZ.out]; have HS2 := Lib.hid (HS0.out.on hb2); clear hb2)
      go_ret
      exact ⟨rfl, HS2.out.1⟩
    · obtain ⟨f1, f2, f3⟩ := few_parts HZ.out.symm
      have HTM := Lib.hid (fun a => Nat.le_trans (f3 a) (show 60 ≤ 1000000 by decide))
      have HTK := Lib.hid (fun a => Nat.le_trans (f3 a) (show 60 ≤ 1000 by decide))
      have HSZ := Lib.hid (show xs.length ≤ 8 ∧ c.length ≤ 60 ∧ tq.length ≤ 60 from ⟨by omega, f1, f2⟩)
      clear f1 f2 f3
      cases hsy : sysB xs c tq with
      | false =>
        have HSY := Lib.hid hsy
        clear hsy
        go_enter Tryd.func3, Tryd.ntmps3
        go_upto_region 3 with (go_at_call 15; refine HFEW.out.mono ?_; rintro e w2 ⟨rfl, hb2⟩; rw [← HZ.out]; have HS2 := Lib.hid (HS0.out.on hb2); clear hb2)
        have HY0a := Lib.hid (show SysAt W (.slice ca c.length cc) (.slice na tq.length nc) w2.drew from HS2.out.drewN 1)
        refine wp_region_held_drew (S := (fun V => V.cell? ⟨W.heap.size, 0, none⟩ = some (.slice ca c.length cc) ∧ V.cell? ⟨W.heap.size, 1, none⟩ = some (.slice na tq.length nc))) (by kernel_rfl) ?_ (fun hHeld => ?_)
        · exact HY0a.out.2.2
        generalize w2.drew = x0a at HY0a hHeld ⊢
        refine wpAnyH_take (i := 1) (v := .slice ua xs.length uc) rfl (by kernel_rfl) (by kernel_rfl) (by kernel_rfl) (fun _ _ _ h => h) (Or.inl ⟨by rfl, fun W hSW => ?_⟩) hHeld ?_
        · ((try dsimp only at hSW); go_split_ands; go_simp <;> with_reducible rfl)
        try simp only [List.getElem_toArray, List.getElem_cons_succ, List.getElem_cons_zero, Act.put, List.setIfInBounds_toArray, List.set_cons_zero, List.set_cons_succ]
        refine wpAnyH_take (i := 3) (v := .agg #[.slice ca c.length cc, .slice na tq.length nc]) rfl (by kernel_rfl) (by kernel_rfl) (by kernel_rfl) (fun _ _ _ h => h) (Or.inl ⟨by rfl, fun W hSW => ?_⟩) hHeld ?_
        · ((try dsimp only at hSW); go_split_ands; go_simp <;> with_reducible rfl)
        try simp only [List.getElem_toArray, List.getElem_cons_succ, List.getElem_cons_zero, Act.put, List.setIfInBounds_toArray, List.set_cons_zero, List.set_cons_succ]
        refine wpAnyH_ready (rs := [0]) (by kernel_rfl) (by simp) ?_
        refine AllReadyH.cons rfl (fun K hK => ?_) AllReadyH.nil
        try simp only [List.getElem_toArray, List.getElem_cons_succ, List.getElem_cons_zero]
        go_simp
        have HY1a := Lib.hid (show SysAt W (.slice ca c.length cc) (.slice na tq.length nc) (x0a.alloc (.cells #[] 41)) from HY0a.out.on ((Below.refl _ _).alloc (Nat.le_refl _) _))
        have HEa := Lib.hid (show (x0a.alloc (.cells #[] 41)).ownsRow x0a.heap.size 41 1 (.slice (some ⟨x0a.heap.size, 0, none⟩) 0 0) 0 [] from lit_rowS (heap_alloc_new _ _) (Nat.le_refl _))
        generalize (x0a.alloc (.cells #[] 41)) = x1a at HY1a HEa ⊢
        try go_wp2_with fail
        refine hK.out _ _ ?_ (fun hHeld => ?_)
        · exact HY1a.out.2.2
        clear hK K
        try simp only [List.getElem_toArray, List.getElem_cons_succ, List.getElem_cons_zero, Act.put, List.setIfInBounds_toArray, List.set_cons_zero, List.set_cons_succ]
        refine wpAnyH_ready (rs := [2]) (by kernel_rfl) (by simp) ?_
        refine AllReadyH.cons rfl (fun K hK => ?_) AllReadyH.nil
        refine step_append_anyS rfl (.tmp 20) (.tmp 21) 22 rfl x0a.heap.size 41 j0 (.int .u64 0) 1 8 Tryd.underlying22 hj0 hy0 hy1 hy2 rfl (by decide) (.slice (some ⟨x0a.heap.size, 0, none⟩) 0 0) 0 [] (by rfl) HEa.out (.slice ua xs.length uc) xs.length (xs.map (Value.int .u64)) (by rfl) (by rw [List.length_map, Nat.mul_one]) (numS_src (HU.out.below HY1a.out.1) HUN.out) (numS_one xs) (by have := HSZ.out; unfold maxLen; omega) (by have := HSZ.out; omega) (Nat.le_of_lt (HEa.out.lt _ rfl).2) ?_
        intro v2 x2a ho hg
        have HY2a := Lib.hid (HY1a.out.grown hg (fun k e => by have h1 : x0a.heap.size = k := Option.some.inj e; have h2 := HY0a.out.2.1; omega))
        have HU2a := Lib.hid (own0S ho)
        obtain ⟨paa, pba, rfl⟩ := SS.ownOf HU2a.out
        clear ho hg
        refine hK.out _ _ ?_ (fun hHeld => ?_)
        · exact HY2a.out.2.2
        clear hK K
        try simp only [List.getElem_toArray, List.getElem_cons_succ, List.getElem_cons_zero, Act.put, List.setIfInBounds_toArray, List.set_cons_zero, List.set_cons_succ]
        refine wpAnyH_ready (rs := [4]) (by kernel_rfl) (by simp) ?_
        refine AllReadyH.cons rfl (fun K hK => ?_) AllReadyH.nil
        try simp only [List.getElem_toArray, List.getElem_cons_succ, List.getElem_cons_zero]
        go_simp
        (go_at_call 17; refine (copied_any x2a ((HC.out.below HY2a.out.1).mono HY2a.out.1.size) ((HG.out.below HY2a.out.1).mono HY2a.out.1.size) HSM.out (by have := HSZ.out; omega) (by have := HSZ.out; omega)).mono ?_; rintro e x4a ⟨saa, sba, gaa, gba, vsa, rfl, hco, hgo, hgr, hb⟩; have HY4a := Lib.hid (HY2a.out.on hb))
        try go_wp2_with fail
        refine hK.out _ _ ?_ (fun hHeld => ?_)
        · exact HY4a.out.2.2
        clear hK K
        try simp only [List.getElem_toArray, List.getElem_cons_succ, List.getElem_cons_zero, Act.put, List.setIfInBounds_toArray, List.set_cons_zero, List.set_cons_succ]
        have HN4a := Lib.hid (nums_of_row (SS.own_of_block HU2a.out (fun k e => hb.block k (HU2a.out.lt k e).2)))
        have HL4a := Lib.hid (lab_ownV hco)
        have HG4a := Lib.hid (hgr.graph hgo)
        clear hco hgo hgr hb
        refine wpAnyH_ready (rs := [5]) (by kernel_rfl) (by simp) ?_
        refine AllReadyH.cons rfl (fun K hK => ?_) AllReadyH.nil
        try simp only [List.getElem_toArray, List.getElem_cons_succ, List.getElem_cons_zero]
        go_simp
        (go_at_call 16; refine (solve_any x4a HN4a.out HX.out HXL.out (HT.out.on HY4a.out.1) HL4a.out HWC.out HG4a.out (by have := HSZ.out; omega) (by have := HSZ.out; omega) HTM.out).mono ?_; intro e x5a hse; obtain ⟨hb5, rfl⟩ := solveE_no hse HSY.out; have HY5a := Lib.hid (HY4a.out.on hb5); clear hse hb5)
        try go_wp2_with fail
        refine hK.out _ _ ?_ (fun hHeld => ?_)
        · exact HY5a.out.2.2
        clear hK K
        try simp only [List.getElem_toArray, List.getElem_cons_succ, List.getElem_cons_zero, Act.put, List.setIfInBounds_toArray, List.set_cons_zero, List.set_cons_succ]
        refine wpAnyH_take (i := 6) (v := .tuple #[.slice none 0 0, .int .i64 0, .int .i64 1]) rfl (by kernel_rfl) (by kernel_rfl) (by kernel_rfl) (fun _ _ _ h => h) (Or.inl ⟨by rfl, fun W hSW => ?_⟩) hHeld ?_
        · ((try dsimp only at hSW); go_split_ands; go_simp <;> with_reducible rfl)
        try simp only [List.getElem_toArray, List.getElem_cons_succ, List.getElem_cons_zero, Act.put, List.setIfInBounds_toArray, List.set_cons_zero, List.set_cons_succ]
        refine wpAnyH_take (i := 7) (v := .slice none 0 0) rfl (by kernel_rfl) (by kernel_rfl) (by kernel_rfl) (fun _ _ _ h => h) (Or.inl ⟨by rfl, fun W hSW => ?_⟩) hHeld ?_
        · ((try dsimp only at hSW); go_split_ands; go_simp <;> with_reducible rfl)
        try simp only [List.getElem_toArray, List.getElem_cons_succ, List.getElem_cons_zero, Act.put, List.setIfInBounds_toArray, List.set_cons_zero, List.set_cons_succ]
        refine wpAnyH_take (i := 8) (v := .int .i64 0) rfl (by kernel_rfl) (by kernel_rfl) (by kernel_rfl) (fun _ _ _ h => h) (Or.inl ⟨by rfl, fun W hSW => ?_⟩) hHeld ?_
        · ((try dsimp only at hSW); go_split_ands; go_simp <;> with_reducible rfl)
        try simp only [List.getElem_toArray, List.getElem_cons_succ, List.getElem_cons_zero, Act.put, List.setIfInBounds_toArray, List.set_cons_zero, List.set_cons_succ]
        refine wpAnyH_take (i := 9) (v := .int .i64 1) rfl (by kernel_rfl) (by kernel_rfl) (by kernel_rfl) (fun _ _ _ h => h) (Or.inl ⟨by rfl, fun W hSW => ?_⟩) hHeld ?_
        · ((try dsimp only at hSW); go_split_ands; go_simp <;> with_reducible rfl)
        try simp only [List.getElem_toArray, List.getElem_cons_succ, List.getElem_cons_zero, Act.put, List.setIfInBounds_toArray, List.set_cons_zero, List.set_cons_succ]
        refine wpAnyH_take (i := 10) (v := .slice none 0 0) rfl (by kernel_rfl) (by kernel_rfl) (by kernel_rfl) (fun _ _ _ h => h) (Or.inl ⟨by rfl, fun W hSW => ?_⟩) hHeld ?_
        · ((try dsimp only at hSW); go_split_ands; go_simp <;> with_reducible rfl)
        try simp only [List.getElem_toArray, List.getElem_cons_succ, List.getElem_cons_zero, Act.put, List.setIfInBounds_toArray, List.set_cons_zero, List.set_cons_succ]
        refine wpAnyH_take (i := 11) (v := .int .i64 0) rfl (by kernel_rfl) (by kernel_rfl) (by kernel_rfl) (fun _ _ _ h => h) (Or.inl ⟨by rfl, fun W hSW => ?_⟩) hHeld ?_
        · ((try dsimp only at hSW); go_split_ands; go_simp <;> with_reducible rfl)
        try simp only [List.getElem_toArray, List.getElem_cons_succ, List.getElem_cons_zero, Act.put, List.setIfInBounds_toArray, List.set_cons_zero, List.set_cons_succ]
        refine wpAnyH_take (i := 12) (v := .int .i64 1) rfl (by kernel_rfl) (by kernel_rfl) (by kernel_rfl) (fun _ _ _ h => h) (Or.inl ⟨by rfl, fun W hSW => ?_⟩) hHeld ?_
        · ((try dsimp only at hSW); go_split_ands; go_simp <;> with_reducible rfl)
        try simp only [List.getElem_toArray, List.getElem_cons_succ, List.getElem_cons_zero, Act.put, List.setIfInBounds_toArray, List.set_cons_zero, List.set_cons_succ]
        refine wpAnyH_done (by kernel_rfl) ?_ _
        clear hHeld
        have hc0 := HY5a.out.2.2.1
        have hc1 := HY5a.out.2.2.2
        go_upto_region 5 with (go_at_call 18; refine (HRR.out _ HY5a.out.1).mono ?_; rintro e w3 ⟨rfl, hb3⟩; rw [HSY.out]; have HS3 := Lib.hid (HY5a.out.on hb3); clear hb3 hc0 hc1)
        have HY0b := Lib.hid (show SysAt W (.slice ca c.length cc) (.slice na tq.length nc) w3.drew from HS3.out.drewN 1)
        refine wp_region_held_drew (S := (fun V => V.cell? ⟨W.heap.size, 0, none⟩ = some (.slice ca c.length cc) ∧ V.cell? ⟨W.heap.size, 1, none⟩ = some (.slice na tq.length nc))) (by kernel_rfl) ?_ (fun hHeld => ?_)
        · exact HY0b.out.2.2
        generalize w3.drew = x0b at HY0b hHeld ⊢
        refine wpAnyH_take (i := 1) (v := .slice ua xs.length uc) rfl (by kernel_rfl) (by kernel_rfl) (by kernel_rfl) (fun _ _ _ h => h) (Or.inl ⟨by rfl, fun W hSW => ?_⟩) hHeld ?_
        · ((try dsimp only at hSW); go_split_ands; go_simp <;> with_reducible rfl)
        try simp only [List.getElem_toArray, List.getElem_cons_succ, List.getElem_cons_zero, Act.put, List.setIfInBounds_toArray, List.set_cons_zero, List.set_cons_succ]
        refine wpAnyH_take (i := 3) (v := .agg #[.slice ca c.length cc, .slice na tq.length nc]) rfl (by kernel_rfl) (by kernel_rfl) (by kernel_rfl) (fun _ _ _ h => h) (Or.inl ⟨by rfl, fun W hSW => ?_⟩) hHeld ?_
        · ((try dsimp only at hSW); go_split_ands; go_simp <;> with_reducible rfl)
        try simp only [List.getElem_toArray, List.getElem_cons_succ, List.getElem_cons_zero, Act.put, List.setIfInBounds_toArray, List.set_cons_zero, List.set_cons_succ]
        refine wpAnyH_ready (rs := [0]) (by kernel_rfl) (by simp) ?_
        refine AllReadyH.cons rfl (fun K hK => ?_) AllReadyH.nil
        try simp only [List.getElem_toArray, List.getElem_cons_succ, List.getElem_cons_zero]
        go_simp
        have HY1b := Lib.hid (show SysAt W (.slice ca c.length cc) (.slice na tq.length nc) (x0b.alloc (.cells #[] 41)) from HY0b.out.on ((Below.refl _ _).alloc (Nat.le_refl _) _))
        have HEb := Lib.hid (show (x0b.alloc (.cells #[] 41)).ownsRow x0b.heap.size 41 1 (.slice (some ⟨x0b.heap.size, 0, none⟩) 0 0) 0 [] from lit_rowS (heap_alloc_new _ _) (Nat.le_refl _))
        generalize (x0b.alloc (.cells #[] 41)) = x1b at HY1b HEb ⊢
        try go_wp2_with fail
        refine hK.out _ _ ?_ (fun hHeld => ?_)
        · exact HY1b.out.2.2
        clear hK K
        try simp only [List.getElem_toArray, List.getElem_cons_succ, List.getElem_cons_zero, Act.put, List.setIfInBounds_toArray, List.set_cons_zero, List.set_cons_succ]
        refine wpAnyH_ready (rs := [2]) (by kernel_rfl) (by simp) ?_
        refine AllReadyH.cons rfl (fun K hK => ?_) AllReadyH.nil
        refine step_append_anyS rfl (.tmp 35) (.tmp 36) 22 rfl x0b.heap.size 41 j0 (.int .u64 0) 1 8 Tryd.underlying22 hj0 hy0 hy1 hy2 rfl (by decide) (.slice (some ⟨x0b.heap.size, 0, none⟩) 0 0) 0 [] (by rfl) HEb.out (.slice ua xs.length uc) xs.length (xs.map (Value.int .u64)) (by rfl) (by rw [List.length_map, Nat.mul_one]) (numS_src (HU.out.below HY1b.out.1) HUN.out) (numS_one xs) (by have := HSZ.out; unfold maxLen; omega) (by have := HSZ.out; omega) (Nat.le_of_lt (HEb.out.lt _ rfl).2) ?_
        intro v2 x2b ho hg
        have HY2b := Lib.hid (HY1b.out.grown hg (fun k e => by have h1 : x0b.heap.size = k := Option.some.inj e; have h2 := HY0b.out.2.1; omega))
        have HU2b := Lib.hid (own0S ho)
        obtain ⟨pab, pbb, rfl⟩ := SS.ownOf HU2b.out
        clear ho hg
        refine hK.out _ _ ?_ (fun hHeld => ?_)
        · exact HY2b.out.2.2
        clear hK K
        try simp only [List.getElem_toArray, List.getElem_cons_succ, List.getElem_cons_zero, Act.put, List.setIfInBounds_toArray, List.set_cons_zero, List.set_cons_succ]
        refine wpAnyH_ready (rs := [4]) (by kernel_rfl) (by simp) ?_
        refine AllReadyH.cons rfl (fun K hK => ?_) AllReadyH.nil
        try simp only [List.getElem_toArray, List.getElem_cons_succ, List.getElem_cons_zero]
        go_simp
        (go_at_call 17; refine (copied_any x2b ((HC.out.below HY2b.out.1).mono HY2b.out.1.size) ((HG.out.below HY2b.out.1).mono HY2b.out.1.size) HSM.out (by have := HSZ.out; omega) (by have := HSZ.out; omega)).mono ?_; rintro e x4b ⟨sab, sbb, gab, gbb, vsb, rfl, hco, hgo, hgr, hb⟩; have HY4b := Lib.hid (HY2b.out.on hb))
        try go_wp2_with fail
        refine hK.out _ _ ?_ (fun hHeld => ?_)
        · exact HY4b.out.2.2
        clear hK K
        try simp only [List.getElem_toArray, List.getElem_cons_succ, List.getElem_cons_zero, Act.put, List.setIfInBounds_toArray, List.set_cons_zero, List.set_cons_succ]
        have HN4b := Lib.hid (nums_of_row (SS.own_of_block HU2b.out (fun k e => hb.block k (HU2b.out.lt k e).2)))
        have HL4b := Lib.hid (lab_ownV hco)
        have HG4b := Lib.hid (hgr.graph hgo)
        clear hco hgo hgr hb
        refine wpAnyH_ready (rs := [5]) (by kernel_rfl) (by simp) ?_
        refine AllReadyH.cons rfl (fun K hK => ?_) AllReadyH.nil
        try simp only [List.getElem_toArray, List.getElem_cons_succ, List.getElem_cons_zero]
        go_simp
        (go_at_call 19; refine (most_any x4b HN4b.out HX.out HXL.out (HT.out.on HY4b.out.1) HL4b.out HG4b.out (by have := HSZ.out; omega) (by have := HSZ.out; omega) HTK.out).mono ?_; rintro e x5b ⟨rfl, hb5⟩; rw [HSY.out, if_neg Bool.false_ne_true]; have HY5b := Lib.hid (HY4b.out.on hb5); clear hb5)
        try go_wp2_with fail
        refine hK.out _ _ ?_ (fun hHeld => ?_)
        · exact HY5b.out.2.2
        clear hK K
        try simp only [List.getElem_toArray, List.getElem_cons_succ, List.getElem_cons_zero, Act.put, List.setIfInBounds_toArray, List.set_cons_zero, List.set_cons_succ]
        refine wpAnyH_take (i := 6) (v := .int .i64 0) rfl (by kernel_rfl) (by kernel_rfl) (by kernel_rfl) (fun _ _ _ h => h) (Or.inl ⟨by rfl, fun W hSW => ?_⟩) hHeld ?_
        · ((try dsimp only at hSW); go_split_ands; go_simp <;> with_reducible rfl)
        try simp only [List.getElem_toArray, List.getElem_cons_succ, List.getElem_cons_zero, Act.put, List.setIfInBounds_toArray, List.set_cons_zero, List.set_cons_succ]
        refine wpAnyH_done (by kernel_rfl) ?_ _
        clear hHeld
        go_upto_region 6 with fail
        have HY0d := Lib.hid (show SysAt W (.slice ca c.length cc) (.slice na tq.length nc) x5b.drew from HY5b.out.drewN 1)
        refine wp_region_held_drew (S := (fun V => V.cell? ⟨W.heap.size, 0, none⟩ = some (.slice ca c.length cc) ∧ V.cell? ⟨W.heap.size, 1, none⟩ = some (.slice na tq.length nc))) (by kernel_rfl) ?_ (fun hHeld => ?_)
        · exact HY0d.out.2.2
        generalize x5b.drew = x0d at HY0d hHeld ⊢
        refine wpAnyH_take (i := 6) (v := .bool false) rfl (by kernel_rfl) (by kernel_rfl) (by kernel_rfl) (fun _ _ _ h => h) (Or.inl ⟨by rfl, fun W hSW => ?_⟩) hHeld ?_
        · ((try dsimp only at hSW); go_split_ands; go_simp <;> with_reducible rfl)
        try simp only [List.getElem_toArray, List.getElem_cons_succ, List.getElem_cons_zero, Act.put, List.setIfInBounds_toArray, List.set_cons_zero, List.set_cons_succ]
        refine wpAnyH_take (i := 1) (v := .slice ua xs.length uc) rfl (by kernel_rfl) (by kernel_rfl) (by kernel_rfl) (fun _ _ _ h => h) (Or.inl ⟨by rfl, fun W hSW => ?_⟩) hHeld ?_
        · ((try dsimp only at hSW); go_split_ands; go_simp <;> with_reducible rfl)
        try simp only [List.getElem_toArray, List.getElem_cons_succ, List.getElem_cons_zero, Act.put, List.setIfInBounds_toArray, List.set_cons_zero, List.set_cons_succ]
        refine wpAnyH_take (i := 3) (v := .agg #[.slice ca c.length cc, .slice na tq.length nc]) rfl (by kernel_rfl) (by kernel_rfl) (by kernel_rfl) (fun _ _ _ h => h) (Or.inl ⟨by rfl, fun W hSW => ?_⟩) hHeld ?_
        · ((try dsimp only at hSW); go_split_ands; go_simp <;> with_reducible rfl)
        try simp only [List.getElem_toArray, List.getElem_cons_succ, List.getElem_cons_zero, Act.put, List.setIfInBounds_toArray, List.set_cons_zero, List.set_cons_succ]
        refine wpAnyH_ready (rs := [0]) (by kernel_rfl) (by simp) ?_
        refine AllReadyH.cons rfl (fun K hK => ?_) AllReadyH.nil
        try simp only [List.getElem_toArray, List.getElem_cons_succ, List.getElem_cons_zero]
        go_simp
        have HY1d := Lib.hid (show SysAt W (.slice ca c.length cc) (.slice na tq.length nc) (x0d.alloc (.cells #[] 41)) from HY0d.out.on ((Below.refl _ _).alloc (Nat.le_refl _) _))
        have HEd := Lib.hid (show (x0d.alloc (.cells #[] 41)).ownsRow x0d.heap.size 41 1 (.slice (some ⟨x0d.heap.size, 0, none⟩) 0 0) 0 [] from lit_rowS (heap_alloc_new _ _) (Nat.le_refl _))
        generalize (x0d.alloc (.cells #[] 41)) = x1d at HY1d HEd ⊢
        try go_wp2_with fail
        refine hK.out _ _ ?_ (fun hHeld => ?_)
        · exact HY1d.out.2.2
        clear hK K
        try simp only [List.getElem_toArray, List.getElem_cons_succ, List.getElem_cons_zero, Act.put, List.setIfInBounds_toArray, List.set_cons_zero, List.set_cons_succ]
        refine wpAnyH_ready (rs := [2]) (by kernel_rfl) (by simp) ?_
        refine AllReadyH.cons rfl (fun K hK => ?_) AllReadyH.nil
        refine step_append_anyS rfl (.tmp 41) (.tmp 42) 22 rfl x0d.heap.size 41 j0 (.int .u64 0) 1 8 Tryd.underlying22 hj0 hy0 hy1 hy2 rfl (by decide) (.slice (some ⟨x0d.heap.size, 0, none⟩) 0 0) 0 [] (by rfl) HEd.out (.slice ua xs.length uc) xs.length (xs.map (Value.int .u64)) (by rfl) (by rw [List.length_map, Nat.mul_one]) (numS_src (HU.out.below HY1d.out.1) HUN.out) (numS_one xs) (by have := HSZ.out; unfold maxLen; omega) (by have := HSZ.out; omega) (Nat.le_of_lt (HEd.out.lt _ rfl).2) ?_
        intro v2 x2d ho hg
        have HY2d := Lib.hid (HY1d.out.grown hg (fun k e => by have h1 : x0d.heap.size = k := Option.some.inj e; have h2 := HY0d.out.2.1; omega))
        have HU2d := Lib.hid (own0S ho)
        obtain ⟨pad, pbd, rfl⟩ := SS.ownOf HU2d.out
        clear ho hg
        refine hK.out _ _ ?_ (fun hHeld => ?_)
        · exact HY2d.out.2.2
        clear hK K
        try simp only [List.getElem_toArray, List.getElem_cons_succ, List.getElem_cons_zero, Act.put, List.setIfInBounds_toArray, List.set_cons_zero, List.set_cons_succ]
        refine wpAnyH_ready (rs := [4]) (by kernel_rfl) (by simp) ?_
        refine AllReadyH.cons rfl (fun K hK => ?_) AllReadyH.nil
        try simp only [List.getElem_toArray, List.getElem_cons_succ, List.getElem_cons_zero]
        go_simp
        (go_at_call 17; refine (copied_any x2d ((HC.out.below HY2d.out.1).mono HY2d.out.1.size) ((HG.out.below HY2d.out.1).mono HY2d.out.1.size) HSM.out (by have := HSZ.out; omega) (by have := HSZ.out; omega)).mono ?_; rintro e x4d ⟨sad, sbd, gad, gbd, vsd, rfl, hco, hgo, hgr, hb⟩; have HY4d := Lib.hid (HY2d.out.on hb))
        try go_wp2_with fail
        refine hK.out _ _ ?_ (fun hHeld => ?_)
        · exact HY4d.out.2.2
        clear hK K
        try simp only [List.getElem_toArray, List.getElem_cons_succ, List.getElem_cons_zero, Act.put, List.setIfInBounds_toArray, List.set_cons_zero, List.set_cons_succ]
        have HN4d := Lib.hid (nums_of_row (SS.own_of_block HU2d.out (fun k e => hb.block k (HU2d.out.lt k e).2)))
        have HL4d := Lib.hid (lab_ownV hco)
        have HG4d := Lib.hid (hgr.graph hgo)
        clear hco hgo hgr hb
        refine wpAnyH_ready (rs := [5]) (by kernel_rfl) (by simp) ?_
        refine AllReadyH.cons rfl (fun K hK => ?_) AllReadyH.nil
        try simp only [List.getElem_toArray, List.getElem_cons_succ, List.getElem_cons_zero]
        go_simp
        (go_at_call 20; refine (sright_any x4d HN4d.out HX.out HXL.out (HT.out.on HY4d.out.1) HL4d.out HG4d.out (by have := HSZ.out; omega) (by have := HSZ.out; omega) (fun a => Nat.le_trans (HTK.out a) (by decide))).mono ?_; rintro e x5d ⟨rfl, hb5⟩; rw [HSY.out]; have HY5d := Lib.hid (HY4d.out.on hb5); clear hb5)
        try go_wp2_with fail
        refine hK.out _ _ ?_ (fun hHeld => ?_)
        · exact HY5d.out.2.2
        clear hK K
        try simp only [List.getElem_toArray, List.getElem_cons_succ, List.getElem_cons_zero, Act.put, List.setIfInBounds_toArray, List.set_cons_zero, List.set_cons_succ]
        refine wpAnyH_take (i := 7) (v := .bool false) rfl (by kernel_rfl) (by kernel_rfl) (by kernel_rfl) (fun _ _ _ h => h) (Or.inl ⟨by rfl, fun W hSW => ?_⟩) hHeld ?_
        · ((try dsimp only at hSW); go_split_ands; go_simp <;> with_reducible rfl)
        try simp only [List.getElem_toArray, List.getElem_cons_succ, List.getElem_cons_zero, Act.put, List.setIfInBounds_toArray, List.set_cons_zero, List.set_cons_succ]
        refine wpAnyH_done (by kernel_rfl) ?_ _
        clear hHeld
        go_wp2_with (go_at_call 21; refine (HAW.out _ HY5d.out.1).mono ?_; rintro e w6 ⟨rfl, hb6⟩; have HS6 := Lib.hid (HY5d.out.on hb6); clear hb6)
        go_ret
        exact ⟨rfl, HS6.out.1⟩
      | true =>
        have HSY := Lib.hid hsy
        obtain ⟨hln, htn, hr, hin, hti⟩ := sys_parts hsy
        have HRB := Lib.hid hr
        have HTI := Lib.hid hti
        have HRS := Lib.hid (fun w (hb : Below W.heap.size W w) => rsolve17_any w ((HU.out.below hb).mono hb.size) HX.out HRB.out ((HC.out.below hb).mono hb.size) HWC.out ((HG.out.below hb).mono hb.size) HSM.out hin hti htn (by have := HSZ.out; omega))
        have HHT := Lib.hid (fun w (hb : Below W.heap.size W w) => rheight_any (.slice ua xs.length uc) xs w.heap.size w ((HU.out.below hb).mono hb.size) (Nat.le_refl _) HX.out (LL.right_ord hr))
        have HFN := Lib.hid (fun w (hb : Below W.heap.size W w) => rfan17_any w ((HG.out.below hb).mono hb.size) (by have := HSZ.out; omega) HTK.out hti)
        have h64 := height_bd hr HX.out
        have hfb : fanN (natsL tq) ≤ 1001000 := by rw [← fan_all]; exact maxUp_bd fun k => Nat.le_trans (cntQ_len HTK.out _ _ k) (by have := HSZ.out; omega)
        have bn : c.length ≤ 60 := HSZ.out.2.1
        obtain ⟨R, eR⟩ : ∃ R : Int, R = ((c.length + c.length * fanN (natsL tq) * (LL.heightN xs + 64) : Nat) : Int) := ⟨_, rfl⟩
        have k1 : c.length * fanN (natsL tq) ≤ 60 * 1001000 := Nat.mul_le_mul bn hfb
        have k2 : c.length * fanN (natsL tq) * (LL.heightN xs + 64) ≤ 60 * 1001000 * 128 := Nat.mul_le_mul k1 (by omega)
        obtain ⟨f, ef⟩ : ∃ f : Int, f = (fanN (natsL tq) : Int) := ⟨_, rfl⟩
        obtain ⟨g, eg⟩ : ∃ g : Int, g = (LL.heightN xs : Int) := ⟨_, rfl⟩
        obtain ⟨P, eP⟩ : ∃ P : Int, P = ((c.length * fanN (natsL tq) : Nat) : Int) := ⟨_, rfl⟩
        obtain ⟨Q, eQ⟩ : ∃ Q : Int, Q = ((c.length * fanN (natsL tq) * (LL.heightN xs + 64) : Nat) : Int) := ⟨_, rfl⟩
        have m1 : (c.length : Int) * f = P := by rw [ef, eP]; simp
        have m2 : P * (g + 64) = Q := by rw [eP, eg, eQ]; simp
        have m3 : (c.length : Int) + Q = R := by rw [eQ, eR]; simp
        have EF := Lib.hid ef
        have EG := Lib.hid eg
        have ER := Lib.hid eR
        have d1 : 0 ≤ P ∧ P ≤ 1001000000 := by rw [eP]; omega
        have d2 : 0 ≤ Q ∧ Q ≤ 128128000000 := by rw [eQ]; omega
        have d3 : 0 ≤ g ∧ g ≤ 64 := by rw [eg]; omega
        have HW1 := Lib.hid (show wrap64 ((c.length : Int) * f) = P by rw [m1]; unfold wrap64; omega)
        have HW4 := Lib.hid (show wrap64 (g + 64) = g + 64 by unfold wrap64; omega)
        have HW2 := Lib.hid (show wrap64 (P * (g + 64)) = Q by rw [m2]; unfold wrap64; omega)
        have HW3 := Lib.hid (show wrap64 ((c.length : Int) + Q) = R by rw [m3]; unfold wrap64; omega)
        have HD3 := Lib.hid d3
        clear hsy hln htn hr hin hti ef eg eP eQ eR k1 k2 h64 hfb bn m1 m2 m3 d1 d2 d3
        go_enter Tryd.func3, Tryd.ntmps3
        go_upto_region 3 with (go_at_call 15; refine HFEW.out.mono ?_; rintro e w2 ⟨rfl, hb2⟩; rw [← HZ.out]; have HS2 := Lib.hid (HS0.out.on hb2); clear hb2)
        have HY0a := Lib.hid (show SysAt W (.slice ca c.length cc) (.slice na tq.length nc) w2.drew from HS2.out.drewN 1)
        refine wp_region_held_drew (S := (fun V => V.cell? ⟨W.heap.size, 0, none⟩ = some (.slice ca c.length cc) ∧ V.cell? ⟨W.heap.size, 1, none⟩ = some (.slice na tq.length nc))) (by kernel_rfl) ?_ (fun hHeld => ?_)
        · exact HY0a.out.2.2
        generalize w2.drew = x0a at HY0a hHeld ⊢
        refine wpAnyH_take (i := 1) (v := .slice ua xs.length uc) rfl (by kernel_rfl) (by kernel_rfl) (by kernel_rfl) (fun _ _ _ h => h) (Or.inl ⟨by rfl, fun W hSW => ?_⟩) hHeld ?_
        · ((try dsimp only at hSW); go_split_ands; go_simp <;> with_reducible rfl)
        try simp only [List.getElem_toArray, List.getElem_cons_succ, List.getElem_cons_zero, Act.put, List.setIfInBounds_toArray, List.set_cons_zero, List.set_cons_succ]
        refine wpAnyH_take (i := 3) (v := .agg #[.slice ca c.length cc, .slice na tq.length nc]) rfl (by kernel_rfl) (by kernel_rfl) (by kernel_rfl) (fun _ _ _ h => h) (Or.inl ⟨by rfl, fun W hSW => ?_⟩) hHeld ?_
        · ((try dsimp only at hSW); go_split_ands; go_simp <;> with_reducible rfl)
        try simp only [List.getElem_toArray, List.getElem_cons_succ, List.getElem_cons_zero, Act.put, List.setIfInBounds_toArray, List.set_cons_zero, List.set_cons_succ]
        refine wpAnyH_ready (rs := [0]) (by kernel_rfl) (by simp) ?_
        refine AllReadyH.cons rfl (fun K hK => ?_) AllReadyH.nil
        try simp only [List.getElem_toArray, List.getElem_cons_succ, List.getElem_cons_zero]
        go_simp
        have HY1a := Lib.hid (show SysAt W (.slice ca c.length cc) (.slice na tq.length nc) (x0a.alloc (.cells #[] 41)) from HY0a.out.on ((Below.refl _ _).alloc (Nat.le_refl _) _))
        have HEa := Lib.hid (show (x0a.alloc (.cells #[] 41)).ownsRow x0a.heap.size 41 1 (.slice (some ⟨x0a.heap.size, 0, none⟩) 0 0) 0 [] from lit_rowS (heap_alloc_new _ _) (Nat.le_refl _))
        generalize (x0a.alloc (.cells #[] 41)) = x1a at HY1a HEa ⊢
        try go_wp2_with fail
        refine hK.out _ _ ?_ (fun hHeld => ?_)
        · exact HY1a.out.2.2
        clear hK K
        try simp only [List.getElem_toArray, List.getElem_cons_succ, List.getElem_cons_zero, Act.put, List.setIfInBounds_toArray, List.set_cons_zero, List.set_cons_succ]
        refine wpAnyH_ready (rs := [2]) (by kernel_rfl) (by simp) ?_
        refine AllReadyH.cons rfl (fun K hK => ?_) AllReadyH.nil
        refine step_append_anyS rfl (.tmp 20) (.tmp 21) 22 rfl x0a.heap.size 41 j0 (.int .u64 0) 1 8 Tryd.underlying22 hj0 hy0 hy1 hy2 rfl (by decide) (.slice (some ⟨x0a.heap.size, 0, none⟩) 0 0) 0 [] (by rfl) HEa.out (.slice ua xs.length uc) xs.length (xs.map (Value.int .u64)) (by rfl) (by rw [List.length_map, Nat.mul_one]) (numS_src (HU.out.below HY1a.out.1) HUN.out) (numS_one xs) (by have := HSZ.out; unfold maxLen; omega) (by have := HSZ.out; omega) (Nat.le_of_lt (HEa.out.lt _ rfl).2) ?_
        intro v2 x2a ho hg
        have HY2a := Lib.hid (HY1a.out.grown hg (fun k e => by have h1 : x0a.heap.size = k := Option.some.inj e; have h2 := HY0a.out.2.1; omega))
        have HU2a := Lib.hid (own0S ho)
        obtain ⟨paa, pba, rfl⟩ := SS.ownOf HU2a.out
        clear ho hg
        refine hK.out _ _ ?_ (fun hHeld => ?_)
        · exact HY2a.out.2.2
        clear hK K
        try simp only [List.getElem_toArray, List.getElem_cons_succ, List.getElem_cons_zero, Act.put, List.setIfInBounds_toArray, List.set_cons_zero, List.set_cons_succ]
        refine wpAnyH_ready (rs := [4]) (by kernel_rfl) (by simp) ?_
        refine AllReadyH.cons rfl (fun K hK => ?_) AllReadyH.nil
        try simp only [List.getElem_toArray, List.getElem_cons_succ, List.getElem_cons_zero]
        go_simp
        (go_at_call 17; refine (copied_any x2a ((HC.out.below HY2a.out.1).mono HY2a.out.1.size) ((HG.out.below HY2a.out.1).mono HY2a.out.1.size) HSM.out (by have := HSZ.out; omega) (by have := HSZ.out; omega)).mono ?_; rintro e x4a ⟨saa, sba, gaa, gba, vsa, rfl, hco, hgo, hgr, hb⟩; have HY4a := Lib.hid (HY2a.out.on hb))
        try go_wp2_with fail
        refine hK.out _ _ ?_ (fun hHeld => ?_)
        · exact HY4a.out.2.2
        clear hK K
        try simp only [List.getElem_toArray, List.getElem_cons_succ, List.getElem_cons_zero, Act.put, List.setIfInBounds_toArray, List.set_cons_zero, List.set_cons_succ]
        have HN4a := Lib.hid (nums_of_row (SS.own_of_block HU2a.out (fun k e => hb.block k (HU2a.out.lt k e).2)))
        have HL4a := Lib.hid (lab_ownV hco)
        have HG4a := Lib.hid (hgr.graph hgo)
        clear hco hgo hgr hb
        refine wpAnyH_ready (rs := [5]) (by kernel_rfl) (by simp) ?_
        refine AllReadyH.cons rfl (fun K hK => ?_) AllReadyH.nil
        try simp only [List.getElem_toArray, List.getElem_cons_succ, List.getElem_cons_zero]
        go_simp
        (go_at_call 16; refine (solve_any x4a HN4a.out HX.out HXL.out (HT.out.on HY4a.out.1) HL4a.out HWC.out HG4a.out (by have := HSZ.out; omega) (by have := HSZ.out; omega) HTM.out).mono ?_; intro e x5a hse; obtain ⟨hb5, sol, kk, ma, mc, rfl, hown, hL, hsl, hok, hk1, hk2⟩ := solveE_yes hse HSY.out HRB.out HX.out; have HY5a := Lib.hid (HY4a.out.on hb5); have HM := Lib.hid (lab_own (by rw [hsl]; exact hown)); have HLS := Lib.hid hL; have HSL := Lib.hid hsl; have HK1 := Lib.hid hk1; have HK2 := Lib.hid hk2; clear hse hb5 hown hL hsl hok hk1 hk2)
        try go_wp2_with fail
        refine hK.out _ _ ?_ (fun hHeld => ?_)
        · exact HY5a.out.2.2
        clear hK K
        try simp only [List.getElem_toArray, List.getElem_cons_succ, List.getElem_cons_zero, Act.put, List.setIfInBounds_toArray, List.set_cons_zero, List.set_cons_succ]
        refine wpAnyH_take (i := 6) (v := .tuple #[.slice ma c.length mc, .int .i64 (kk : Int), .int .i64 0]) rfl (by kernel_rfl) (by kernel_rfl) (by kernel_rfl) (fun _ _ _ h => h) (Or.inl ⟨by rfl, fun W hSW => ?_⟩) hHeld ?_
        · ((try dsimp only at hSW); go_split_ands; go_simp <;> with_reducible rfl)
        try simp only [List.getElem_toArray, List.getElem_cons_succ, List.getElem_cons_zero, Act.put, List.setIfInBounds_toArray, List.set_cons_zero, List.set_cons_succ]
        refine wpAnyH_take (i := 7) (v := .slice ma c.length mc) rfl (by kernel_rfl) (by kernel_rfl) (by kernel_rfl) (fun _ _ _ h => h) (Or.inl ⟨by rfl, fun W hSW => ?_⟩) hHeld ?_
        · ((try dsimp only at hSW); go_split_ands; go_simp <;> with_reducible rfl)
        try simp only [List.getElem_toArray, List.getElem_cons_succ, List.getElem_cons_zero, Act.put, List.setIfInBounds_toArray, List.set_cons_zero, List.set_cons_succ]
        refine wpAnyH_take (i := 8) (v := .int .i64 (kk : Int)) rfl (by kernel_rfl) (by kernel_rfl) (by kernel_rfl) (fun _ _ _ h => h) (Or.inl ⟨by rfl, fun W hSW => ?_⟩) hHeld ?_
        · ((try dsimp only at hSW); go_split_ands; go_simp <;> with_reducible rfl)
        try simp only [List.getElem_toArray, List.getElem_cons_succ, List.getElem_cons_zero, Act.put, List.setIfInBounds_toArray, List.set_cons_zero, List.set_cons_succ]
        refine wpAnyH_take (i := 9) (v := .int .i64 0) rfl (by kernel_rfl) (by kernel_rfl) (by kernel_rfl) (fun _ _ _ h => h) (Or.inl ⟨by rfl, fun W hSW => ?_⟩) hHeld ?_
        · ((try dsimp only at hSW); go_split_ands; go_simp <;> with_reducible rfl)
        try simp only [List.getElem_toArray, List.getElem_cons_succ, List.getElem_cons_zero, Act.put, List.setIfInBounds_toArray, List.set_cons_zero, List.set_cons_succ]
        refine wpAnyH_take (i := 10) (v := .slice ma c.length mc) rfl (by kernel_rfl) (by kernel_rfl) (by kernel_rfl) (fun _ _ _ h => h) (Or.inl ⟨by rfl, fun W hSW => ?_⟩) hHeld ?_
        · ((try dsimp only at hSW); go_split_ands; go_simp <;> with_reducible rfl)
        try simp only [List.getElem_toArray, List.getElem_cons_succ, List.getElem_cons_zero, Act.put, List.setIfInBounds_toArray, List.set_cons_zero, List.set_cons_succ]
        refine wpAnyH_take (i := 11) (v := .int .i64 (kk : Int)) rfl (by kernel_rfl) (by kernel_rfl) (by kernel_rfl) (fun _ _ _ h => h) (Or.inl ⟨by rfl, fun W hSW => ?_⟩) hHeld ?_
        · ((try dsimp only at hSW); go_split_ands; go_simp <;> with_reducible rfl)
        try simp only [List.getElem_toArray, List.getElem_cons_succ, List.getElem_cons_zero, Act.put, List.setIfInBounds_toArray, List.set_cons_zero, List.set_cons_succ]
        refine wpAnyH_take (i := 12) (v := .int .i64 0) rfl (by kernel_rfl) (by kernel_rfl) (by kernel_rfl) (fun _ _ _ h => h) (Or.inl ⟨by rfl, fun W hSW => ?_⟩) hHeld ?_
        · ((try dsimp only at hSW); go_split_ands; go_simp <;> with_reducible rfl)
        try simp only [List.getElem_toArray, List.getElem_cons_succ, List.getElem_cons_zero, Act.put, List.setIfInBounds_toArray, List.set_cons_zero, List.set_cons_succ]
        refine wpAnyH_done (by kernel_rfl) ?_ _
        clear hHeld
        have hc0 := HY5a.out.2.2.1
        have hc1 := HY5a.out.2.2.2
        go_upto_region 5 with (go_at_call 18; refine (HRR.out _ HY5a.out.1).mono ?_; rintro e w3 ⟨rfl, hb3⟩; rw [HSY.out]; have HZ3 := Lib.hid hb3; have HS3 := Lib.hid (HY5a.out.on hb3); clear hb3 hc0 hc1)
        have HZ0b := Lib.hid (show Below x5a.heap.size x5a w3.drew from HZ3.out.drew)
        have HY0b := Lib.hid (show SysAt W (.slice ca c.length cc) (.slice na tq.length nc) w3.drew from HS3.out.drewN 1)
        refine wp_region_held_drew (S := (fun V => V.cell? ⟨W.heap.size, 0, none⟩ = some (.slice ca c.length cc) ∧ V.cell? ⟨W.heap.size, 1, none⟩ = some (.slice na tq.length nc))) (by kernel_rfl) ?_ (fun hHeld => ?_)
        · exact HY0b.out.2.2
        generalize w3.drew = x0b at HY0b HZ0b hHeld ⊢
        refine wpAnyH_take (i := 1) (v := .slice ua xs.length uc) rfl (by kernel_rfl) (by kernel_rfl) (by kernel_rfl) (fun _ _ _ h => h) (Or.inl ⟨by rfl, fun W hSW => ?_⟩) hHeld ?_
        · ((try dsimp only at hSW); go_split_ands; go_simp <;> with_reducible rfl)
        try simp only [List.getElem_toArray, List.getElem_cons_succ, List.getElem_cons_zero, Act.put, List.setIfInBounds_toArray, List.set_cons_zero, List.set_cons_succ]
        refine wpAnyH_take (i := 3) (v := .agg #[.slice ca c.length cc, .slice na tq.length nc]) rfl (by kernel_rfl) (by kernel_rfl) (by kernel_rfl) (fun _ _ _ h => h) (Or.inl ⟨by rfl, fun W hSW => ?_⟩) hHeld ?_
        · ((try dsimp only at hSW); go_split_ands; go_simp <;> with_reducible rfl)
        try simp only [List.getElem_toArray, List.getElem_cons_succ, List.getElem_cons_zero, Act.put, List.setIfInBounds_toArray, List.set_cons_zero, List.set_cons_succ]
        refine wpAnyH_ready (rs := [0]) (by kernel_rfl) (by simp) ?_
        refine AllReadyH.cons rfl (fun K hK => ?_) AllReadyH.nil
        try simp only [List.getElem_toArray, List.getElem_cons_succ, List.getElem_cons_zero]
        go_simp
        have HY1b := Lib.hid (show SysAt W (.slice ca c.length cc) (.slice na tq.length nc) (x0b.alloc (.cells #[] 41)) from HY0b.out.on ((Below.refl _ _).alloc (Nat.le_refl _) _))
        have HEb := Lib.hid (show (x0b.alloc (.cells #[] 41)).ownsRow x0b.heap.size 41 1 (.slice (some ⟨x0b.heap.size, 0, none⟩) 0 0) 0 [] from lit_rowS (heap_alloc_new _ _) (Nat.le_refl _))
        have HZ1b := Lib.hid (HZ0b.out.alloc HZ0b.out.size (.cells #[] 41))
        generalize (x0b.alloc (.cells #[] 41)) = x1b at HY1b HEb HZ1b ⊢
        try go_wp2_with fail
        refine hK.out _ _ ?_ (fun hHeld => ?_)
        · exact HY1b.out.2.2
        clear hK K
        try simp only [List.getElem_toArray, List.getElem_cons_succ, List.getElem_cons_zero, Act.put, List.setIfInBounds_toArray, List.set_cons_zero, List.set_cons_succ]
        refine wpAnyH_ready (rs := [2]) (by kernel_rfl) (by simp) ?_
        refine AllReadyH.cons rfl (fun K hK => ?_) AllReadyH.nil
        refine step_append_anyS rfl (.tmp 35) (.tmp 36) 22 rfl x0b.heap.size 41 j0 (.int .u64 0) 1 8 Tryd.underlying22 hj0 hy0 hy1 hy2 rfl (by decide) (.slice (some ⟨x0b.heap.size, 0, none⟩) 0 0) 0 [] (by rfl) HEb.out (.slice ua xs.length uc) xs.length (xs.map (Value.int .u64)) (by rfl) (by rw [List.length_map, Nat.mul_one]) (numS_src (HU.out.below HY1b.out.1) HUN.out) (numS_one xs) (by have := HSZ.out; unfold maxLen; omega) (by have := HSZ.out; omega) (Nat.le_of_lt (HEb.out.lt _ rfl).2) ?_
        intro v2 x2b ho hg
        have HY2b := Lib.hid (HY1b.out.grown hg (fun k e => by have h1 : x0b.heap.size = k := Option.some.inj e; have h2 := HY0b.out.2.1; omega))
        have HZ2b := Lib.hid (HZ1b.out.grown hg HZ1b.out.size (fun k e => by have h1 : x0b.heap.size = k := Option.some.inj e; have h2 := HZ0b.out.size; omega))
        have HU2b := Lib.hid (own0S ho)
        obtain ⟨pab, pbb, rfl⟩ := SS.ownOf HU2b.out
        clear ho hg
        refine hK.out _ _ ?_ (fun hHeld => ?_)
        · exact HY2b.out.2.2
        clear hK K
        try simp only [List.getElem_toArray, List.getElem_cons_succ, List.getElem_cons_zero, Act.put, List.setIfInBounds_toArray, List.set_cons_zero, List.set_cons_succ]
        refine wpAnyH_ready (rs := [4]) (by kernel_rfl) (by simp) ?_
        refine AllReadyH.cons rfl (fun K hK => ?_) AllReadyH.nil
        try simp only [List.getElem_toArray, List.getElem_cons_succ, List.getElem_cons_zero]
        go_simp
        (go_at_call 17; refine (copied_any x2b ((HC.out.below HY2b.out.1).mono HY2b.out.1.size) ((HG.out.below HY2b.out.1).mono HY2b.out.1.size) HSM.out (by have := HSZ.out; omega) (by have := HSZ.out; omega)).mono ?_; rintro e x4b ⟨sab, sbb, gab, gbb, vsb, rfl, hco, hgo, hgr, hb⟩; have HY4b := Lib.hid (HY2b.out.on hb); have HZ4b := Lib.hid (HZ2b.out.trans (hb.mono HZ2b.out.size)))
        try go_wp2_with fail
        refine hK.out _ _ ?_ (fun hHeld => ?_)
        · exact HY4b.out.2.2
        clear hK K
        try simp only [List.getElem_toArray, List.getElem_cons_succ, List.getElem_cons_zero, Act.put, List.setIfInBounds_toArray, List.set_cons_zero, List.set_cons_succ]
        have HN4b := Lib.hid (nums_of_row (SS.own_of_block HU2b.out (fun k e => hb.block k (HU2b.out.lt k e).2)))
        have HL4b := Lib.hid (lab_ownV hco)
        have HG4b := Lib.hid (hgr.graph hgo)
        clear hco hgo hgr hb
        refine wpAnyH_ready (rs := [5]) (by kernel_rfl) (by simp) ?_
        refine AllReadyH.cons rfl (fun K hK => ?_) AllReadyH.nil
        try simp only [List.getElem_toArray, List.getElem_cons_succ, List.getElem_cons_zero]
        go_simp
        (go_at_call 19; refine (most_any x4b HN4b.out HX.out HXL.out (HT.out.on HY4b.out.1) HL4b.out HG4b.out (by have := HSZ.out; omega) (by have := HSZ.out; omega) HTK.out).mono ?_; rintro e x5b ⟨rfl, hb5⟩; rw [HSY.out, if_pos rfl, ← ER.out]; have HZ5b := Lib.hid (HZ4b.out.trans (hb5.mono HZ4b.out.size)); have HY5b := Lib.hid (HY4b.out.on hb5); clear hb5)
        try go_wp2_with fail
        refine hK.out _ _ ?_ (fun hHeld => ?_)
        · exact HY5b.out.2.2
        clear hK K
        try simp only [List.getElem_toArray, List.getElem_cons_succ, List.getElem_cons_zero, Act.put, List.setIfInBounds_toArray, List.set_cons_zero, List.set_cons_succ]
        refine wpAnyH_take (i := 6) (v := .int .i64 R) rfl (by kernel_rfl) (by kernel_rfl) (by kernel_rfl) (fun _ _ _ h => h) (Or.inl ⟨by rfl, fun W hSW => ?_⟩) hHeld ?_
        · ((try dsimp only at hSW); go_split_ands; go_simp <;> with_reducible rfl)
        try simp only [List.getElem_toArray, List.getElem_cons_succ, List.getElem_cons_zero, Act.put, List.setIfInBounds_toArray, List.set_cons_zero, List.set_cons_succ]
        refine wpAnyH_done (by kernel_rfl) ?_ _
        clear hHeld
        go_upto_region 6 with fail
        have HZ0d := Lib.hid (show Below x5a.heap.size x5a x5b.drew from HZ5b.out.drew)
        have HY0d := Lib.hid (show SysAt W (.slice ca c.length cc) (.slice na tq.length nc) x5b.drew from HY5b.out.drewN 1)
        refine wp_region_held_drew (S := (fun V => V.cell? ⟨W.heap.size, 0, none⟩ = some (.slice ca c.length cc) ∧ V.cell? ⟨W.heap.size, 1, none⟩ = some (.slice na tq.length nc))) (by kernel_rfl) ?_ (fun hHeld => ?_)
        · exact HY0d.out.2.2
        generalize x5b.drew = x0d at HY0d HZ0d hHeld ⊢
        refine wpAnyH_take (i := 6) (v := .bool true) rfl (by kernel_rfl) (by kernel_rfl) (by kernel_rfl) (fun _ _ _ h => h) (Or.inl ⟨by rfl, fun W hSW => ?_⟩) hHeld ?_
        · ((try dsimp only at hSW); go_split_ands; go_simp <;> with_reducible rfl)
        try simp only [List.getElem_toArray, List.getElem_cons_succ, List.getElem_cons_zero, Act.put, List.setIfInBounds_toArray, List.set_cons_zero, List.set_cons_succ]
        refine wpAnyH_take (i := 1) (v := .slice ua xs.length uc) rfl (by kernel_rfl) (by kernel_rfl) (by kernel_rfl) (fun _ _ _ h => h) (Or.inl ⟨by rfl, fun W hSW => ?_⟩) hHeld ?_
        · ((try dsimp only at hSW); go_split_ands; go_simp <;> with_reducible rfl)
        try simp only [List.getElem_toArray, List.getElem_cons_succ, List.getElem_cons_zero, Act.put, List.setIfInBounds_toArray, List.set_cons_zero, List.set_cons_succ]
        refine wpAnyH_take (i := 3) (v := .agg #[.slice ca c.length cc, .slice na tq.length nc]) rfl (by kernel_rfl) (by kernel_rfl) (by kernel_rfl) (fun _ _ _ h => h) (Or.inl ⟨by rfl, fun W hSW => ?_⟩) hHeld ?_
        · ((try dsimp only at hSW); go_split_ands; go_simp <;> with_reducible rfl)
        try simp only [List.getElem_toArray, List.getElem_cons_succ, List.getElem_cons_zero, Act.put, List.setIfInBounds_toArray, List.set_cons_zero, List.set_cons_succ]
        refine wpAnyH_ready (rs := [0]) (by kernel_rfl) (by simp) ?_
        refine AllReadyH.cons rfl (fun K hK => ?_) AllReadyH.nil
        try simp only [List.getElem_toArray, List.getElem_cons_succ, List.getElem_cons_zero]
        go_simp
        have HY1d := Lib.hid (show SysAt W (.slice ca c.length cc) (.slice na tq.length nc) (x0d.alloc (.cells #[] 41)) from HY0d.out.on ((Below.refl _ _).alloc (Nat.le_refl _) _))
        have HEd := Lib.hid (show (x0d.alloc (.cells #[] 41)).ownsRow x0d.heap.size 41 1 (.slice (some ⟨x0d.heap.size, 0, none⟩) 0 0) 0 [] from lit_rowS (heap_alloc_new _ _) (Nat.le_refl _))
        have HZ1d := Lib.hid (HZ0d.out.alloc HZ0d.out.size (.cells #[] 41))
        generalize (x0d.alloc (.cells #[] 41)) = x1d at HY1d HEd HZ1d ⊢
        try go_wp2_with fail
        refine hK.out _ _ ?_ (fun hHeld => ?_)
        · exact HY1d.out.2.2
        clear hK K
        try simp only [List.getElem_toArray, List.getElem_cons_succ, List.getElem_cons_zero, Act.put, List.setIfInBounds_toArray, List.set_cons_zero, List.set_cons_succ]
        refine wpAnyH_ready (rs := [2]) (by kernel_rfl) (by simp) ?_
        refine AllReadyH.cons rfl (fun K hK => ?_) AllReadyH.nil
        refine step_append_anyS rfl (.tmp 41) (.tmp 42) 22 rfl x0d.heap.size 41 j0 (.int .u64 0) 1 8 Tryd.underlying22 hj0 hy0 hy1 hy2 rfl (by decide) (.slice (some ⟨x0d.heap.size, 0, none⟩) 0 0) 0 [] (by rfl) HEd.out (.slice ua xs.length uc) xs.length (xs.map (Value.int .u64)) (by rfl) (by rw [List.length_map, Nat.mul_one]) (numS_src (HU.out.below HY1d.out.1) HUN.out) (numS_one xs) (by have := HSZ.out; unfold maxLen; omega) (by have := HSZ.out; omega) (Nat.le_of_lt (HEd.out.lt _ rfl).2) ?_
        intro v2 x2d ho hg
        have HY2d := Lib.hid (HY1d.out.grown hg (fun k e => by have h1 : x0d.heap.size = k := Option.some.inj e; have h2 := HY0d.out.2.1; omega))
        have HZ2d := Lib.hid (HZ1d.out.grown hg HZ1d.out.size (fun k e => by have h1 : x0d.heap.size = k := Option.some.inj e; have h2 := HZ0d.out.size; omega))
        have HU2d := Lib.hid (own0S ho)
        obtain ⟨pad, pbd, rfl⟩ := SS.ownOf HU2d.out
        clear ho hg
        refine hK.out _ _ ?_ (fun hHeld => ?_)
        · exact HY2d.out.2.2
        clear hK K
        try simp only [List.getElem_toArray, List.getElem_cons_succ, List.getElem_cons_zero, Act.put, List.setIfInBounds_toArray, List.set_cons_zero, List.set_cons_succ]
        refine wpAnyH_ready (rs := [4]) (by kernel_rfl) (by simp) ?_
        refine AllReadyH.cons rfl (fun K hK => ?_) AllReadyH.nil
        try simp only [List.getElem_toArray, List.getElem_cons_succ, List.getElem_cons_zero]
        go_simp
        (go_at_call 17; refine (copied_any x2d ((HC.out.below HY2d.out.1).mono HY2d.out.1.size) ((HG.out.below HY2d.out.1).mono HY2d.out.1.size) HSM.out (by have := HSZ.out; omega) (by have := HSZ.out; omega)).mono ?_; rintro e x4d ⟨sad, sbd, gad, gbd, vsd, rfl, hco, hgo, hgr, hb⟩; have HY4d := Lib.hid (HY2d.out.on hb); have HZ4d := Lib.hid (HZ2d.out.trans (hb.mono HZ2d.out.size)))
        try go_wp2_with fail
        refine hK.out _ _ ?_ (fun hHeld => ?_)
        · exact HY4d.out.2.2
        clear hK K
        try simp only [List.getElem_toArray, List.getElem_cons_succ, List.getElem_cons_zero, Act.put, List.setIfInBounds_toArray, List.set_cons_zero, List.set_cons_succ]
        have HN4d := Lib.hid (nums_of_row (SS.own_of_block HU2d.out (fun k e => hb.block k (HU2d.out.lt k e).2)))
        have HL4d := Lib.hid (lab_ownV hco)
        have HG4d := Lib.hid (hgr.graph hgo)
        clear hco hgo hgr hb
        refine wpAnyH_ready (rs := [5]) (by kernel_rfl) (by simp) ?_
        refine AllReadyH.cons rfl (fun K hK => ?_) AllReadyH.nil
        try simp only [List.getElem_toArray, List.getElem_cons_succ, List.getElem_cons_zero]
        go_simp
        (go_at_call 20; refine (sright_any x4d HN4d.out HX.out HXL.out (HT.out.on HY4d.out.1) HL4d.out HG4d.out (by have := HSZ.out; omega) (by have := HSZ.out; omega) (fun a => Nat.le_trans (HTK.out a) (by decide))).mono ?_; rintro e x5d ⟨rfl, hb5⟩; rw [HSY.out]; have HZ5d := Lib.hid (HZ4d.out.trans (hb5.mono HZ4d.out.size)); have HY5d := Lib.hid (HY4d.out.on hb5); clear hb5)
        try go_wp2_with fail
        refine hK.out _ _ ?_ (fun hHeld => ?_)
        · exact HY5d.out.2.2
        clear hK K
        try simp only [List.getElem_toArray, List.getElem_cons_succ, List.getElem_cons_zero, Act.put, List.setIfInBounds_toArray, List.set_cons_zero, List.set_cons_succ]
        refine wpAnyH_take (i := 7) (v := .bool false) rfl (by kernel_rfl) (by kernel_rfl) (by kernel_rfl) (fun _ _ _ h => h) (Or.inl ⟨by rfl, fun W hSW => ?_⟩) hHeld ?_
        · ((try dsimp only at hSW); go_split_ands; go_simp <;> with_reducible rfl)
        try simp only [List.getElem_toArray, List.getElem_cons_succ, List.getElem_cons_zero, Act.put, List.setIfInBounds_toArray, List.set_cons_zero, List.set_cons_succ]
        refine wpAnyH_done (by kernel_rfl) ?_ _
        clear hHeld
        go_upto_region 10 with fail
        have HYZ := Lib.hid (show SysAt W (.slice ca c.length cc) (.slice na tq.length nc) x5d.drew from HY5d.out.drewN 1)
        have HZZ := Lib.hid (show Below x5a.heap.size x5a x5d.drew from HZ5d.out.drew)
        refine wp_region_held_drew (S := (fun V => V.cell? ⟨W.heap.size, 0, none⟩ = some (.slice ca c.length cc) ∧ V.cell? ⟨W.heap.size, 1, none⟩ = some (.slice na tq.length nc))) (by kernel_rfl) ?_ (fun hHeld => ?_)
        · exact HYZ.out.2.2
        generalize x5d.drew = y0 at HYZ HZZ hHeld ⊢
        refine wpAnyH_take (i := 0) (v := .pointer (some ⟨W.heap.size, 0, none⟩)) rfl (by kernel_rfl) (by kernel_rfl) (by kernel_rfl) (fun _ _ _ h => h) (Or.inl ⟨by rfl, fun W hSW => ?_⟩) hHeld ?_
        · ((try dsimp only at hSW); go_split_ands; go_simp <;> with_reducible rfl)
        try simp only [List.getElem_toArray, List.getElem_cons_succ, List.getElem_cons_zero, Act.put, List.setIfInBounds_toArray, List.set_cons_zero, List.set_cons_succ]
        refine wpAnyH_take (i := 1) (v := .slice ca c.length cc) rfl (by kernel_rfl) (by kernel_rfl) (by kernel_rfl) (fun _ _ _ h => h) (Or.inl ⟨by rfl, fun W hSW => ?_⟩) hHeld ?_
        · ((try dsimp only at hSW); go_split_ands; go_simp <;> with_reducible rfl)
        try simp only [List.getElem_toArray, List.getElem_cons_succ, List.getElem_cons_zero, Act.put, List.setIfInBounds_toArray, List.set_cons_zero, List.set_cons_succ]
        refine wpAnyH_take (i := 2) (v := .int .i64 c.length) rfl (by kernel_rfl) (by kernel_rfl) (by kernel_rfl) (fun _ _ _ h => h) (Or.inl ⟨by rfl, fun W hSW => ?_⟩) hHeld ?_
        · ((try dsimp only at hSW); go_split_ands; go_simp <;> with_reducible rfl)
        try simp only [List.getElem_toArray, List.getElem_cons_succ, List.getElem_cons_zero, Act.put, List.setIfInBounds_toArray, List.set_cons_zero, List.set_cons_succ]
        refine wpAnyH_take (i := 3) (v := .pointer (some ⟨W.heap.size, 0, none⟩)) rfl (by kernel_rfl) (by kernel_rfl) (by kernel_rfl) (fun _ _ _ h => h) (Or.inl ⟨by rfl, fun W hSW => ?_⟩) hHeld ?_
        · ((try dsimp only at hSW); go_split_ands; go_simp <;> with_reducible rfl)
        try simp only [List.getElem_toArray, List.getElem_cons_succ, List.getElem_cons_zero, Act.put, List.setIfInBounds_toArray, List.set_cons_zero, List.set_cons_succ]
        refine wpAnyH_take (i := 4) (v := .slice ca c.length cc) rfl (by kernel_rfl) (by kernel_rfl) (by kernel_rfl) (fun _ _ _ h => h) (Or.inl ⟨by rfl, fun W hSW => ?_⟩) hHeld ?_
        · ((try dsimp only at hSW); go_split_ands; go_simp <;> with_reducible rfl)
        try simp only [List.getElem_toArray, List.getElem_cons_succ, List.getElem_cons_zero, Act.put, List.setIfInBounds_toArray, List.set_cons_zero, List.set_cons_succ]
        refine wpAnyH_take (i := 5) (v := .int .i64 c.length) rfl (by kernel_rfl) (by kernel_rfl) (by kernel_rfl) (fun _ _ _ h => h) (Or.inl ⟨by rfl, fun W hSW => ?_⟩) hHeld ?_
        · ((try dsimp only at hSW); go_split_ands; go_simp <;> with_reducible rfl)
        try simp only [List.getElem_toArray, List.getElem_cons_succ, List.getElem_cons_zero, Act.put, List.setIfInBounds_toArray, List.set_cons_zero, List.set_cons_succ]
        refine wpAnyH_take (i := 6) (v := .pointer (some ⟨W.heap.size, 1, none⟩)) rfl (by kernel_rfl) (by kernel_rfl) (by kernel_rfl) (fun _ _ _ h => h) (Or.inl ⟨by rfl, fun W hSW => ?_⟩) hHeld ?_
        · ((try dsimp only at hSW); go_split_ands; go_simp <;> with_reducible rfl)
        try simp only [List.getElem_toArray, List.getElem_cons_succ, List.getElem_cons_zero, Act.put, List.setIfInBounds_toArray, List.set_cons_zero, List.set_cons_succ]
        refine wpAnyH_take (i := 7) (v := .slice na tq.length nc) rfl (by kernel_rfl) (by kernel_rfl) (by kernel_rfl) (fun _ _ _ h => h) (Or.inl ⟨by rfl, fun W hSW => ?_⟩) hHeld ?_
        · ((try dsimp only at hSW); go_split_ands; go_simp <;> with_reducible rfl)
        try simp only [List.getElem_toArray, List.getElem_cons_succ, List.getElem_cons_zero, Act.put, List.setIfInBounds_toArray, List.set_cons_zero, List.set_cons_succ]
        refine wpAnyH_take (i := 10) (v := .slice ua xs.length uc) rfl (by kernel_rfl) (by kernel_rfl) (by kernel_rfl) (fun _ _ _ h => h) (Or.inl ⟨by rfl, fun W hSW => ?_⟩) hHeld ?_
        · ((try dsimp only at hSW); go_split_ands; go_simp <;> with_reducible rfl)
        try simp only [List.getElem_toArray, List.getElem_cons_succ, List.getElem_cons_zero, Act.put, List.setIfInBounds_toArray, List.set_cons_zero, List.set_cons_succ]
        refine wpAnyH_ready (rs := [8]) (by kernel_rfl) (by simp) ?_
        refine AllReadyH.cons rfl (fun K hK => ?_) AllReadyH.nil
        try simp only [List.getElem_toArray, List.getElem_cons_succ, List.getElem_cons_zero]
        go_simp
        (go_at_call 22; refine (HFN.out _ HYZ.out.1).mono ?_; rintro e y1 ⟨rfl, rfl⟩; rw [← EF.out])
        try go_wp2_with fail
        refine hK.out _ _ ?_ (fun hHeld => ?_)
        · exact hHeld
        clear hK K
        try simp only [List.getElem_toArray, List.getElem_cons_succ, List.getElem_cons_zero, Act.put, List.setIfInBounds_toArray, List.set_cons_zero, List.set_cons_succ]
        have hw1 : IntKind.i64.wrap ((c.length : Int) * f) = P := (IntWalk.i64_left _).trans HW1.out
        refine wpAnyH_take (i := 9) (v := .int .i64 P) rfl (by kernel_rfl) (by kernel_rfl) (by kernel_rfl) (fun _ _ _ h => h) (Or.inl ⟨by rfl, fun W hSW => ?_⟩) hHeld ?_
        · ((try dsimp only at hSW); go_split_ands; go_simp <;> with_reducible rfl)
        try simp only [List.getElem_toArray, List.getElem_cons_succ, List.getElem_cons_zero, Act.put, List.setIfInBounds_toArray, List.set_cons_zero, List.set_cons_succ]
        clear hw1
        refine wpAnyH_ready (rs := [11]) (by kernel_rfl) (by simp) ?_
        refine AllReadyH.cons rfl (fun K hK => ?_) AllReadyH.nil
        try simp only [List.getElem_toArray, List.getElem_cons_succ, List.getElem_cons_zero]
        go_simp
        (go_at_call 23; refine (HHT.out _ HYZ.out.1).mono ?_; rintro e y2 ⟨rfl, hb⟩; rw [← EG.out]; have HYY := Lib.hid (HYZ.out.on hb); have HZY := Lib.hid (HZZ.out.trans (hb.mono HZZ.out.size)); clear hb)
        try go_wp2_with fail
        refine hK.out _ _ ?_ (fun hHeld => ?_)
        · exact HYY.out.2.2
        clear hK K
        try simp only [List.getElem_toArray, List.getElem_cons_succ, List.getElem_cons_zero, Act.put, List.setIfInBounds_toArray, List.set_cons_zero, List.set_cons_succ]
        have hw4 : IntKind.i64.wrap (g + 64) = g + 64 := (IntWalk.i64_left _).trans HW4.out
        refine wpAnyH_take (i := 12) (v := .int .i64 (g + 64)) rfl (by kernel_rfl) (by kernel_rfl) (by kernel_rfl) (fun _ _ _ h => h) (Or.inl ⟨by rfl, fun W hSW => ?_⟩) hHeld ?_
        · ((try dsimp only at hSW); go_split_ands; go_simp <;> with_reducible rfl)
        try simp only [List.getElem_toArray, List.getElem_cons_succ, List.getElem_cons_zero, Act.put, List.setIfInBounds_toArray, List.set_cons_zero, List.set_cons_succ]
        clear hw4
        have hw2 : IntKind.i64.wrap (P * (g + 64)) = Q := (IntWalk.i64_left _).trans HW2.out
        refine wpAnyH_take (i := 13) (v := .int .i64 Q) rfl (by kernel_rfl) (by kernel_rfl) (by kernel_rfl) (fun _ _ _ h => h) (Or.inl ⟨by rfl, fun W hSW => ?_⟩) hHeld ?_
        · ((try dsimp only at hSW); go_split_ands; go_simp <;> with_reducible rfl)
        try simp only [List.getElem_toArray, List.getElem_cons_succ, List.getElem_cons_zero, Act.put, List.setIfInBounds_toArray, List.set_cons_zero, List.set_cons_succ]
        clear hw2
        have hw3 : IntKind.i64.wrap ((c.length : Int) + Q) = R := (IntWalk.i64_left _).trans HW3.out
        refine wpAnyH_take (i := 14) (v := .int .i64 R) rfl (by kernel_rfl) (by kernel_rfl) (by kernel_rfl) (fun _ _ _ h => h) (Or.inl ⟨by rfl, fun W hSW => ?_⟩) hHeld ?_
        · ((try dsimp only at hSW); go_split_ands; go_simp <;> with_reducible rfl)
        try simp only [List.getElem_toArray, List.getElem_cons_succ, List.getElem_cons_zero, Act.put, List.setIfInBounds_toArray, List.set_cons_zero, List.set_cons_succ]
        clear hw3
        refine wpAnyH_take (i := 15) (v := .int .i64 R) rfl (by kernel_rfl) (by kernel_rfl) (by kernel_rfl) (fun _ _ _ h => h) (Or.inl ⟨by rfl, fun W hSW => ?_⟩) hHeld ?_
        · ((try dsimp only at hSW); go_split_ands; go_simp <;> with_reducible rfl)
        try simp only [List.getElem_toArray, List.getElem_cons_succ, List.getElem_cons_zero, Act.put, List.setIfInBounds_toArray, List.set_cons_zero, List.set_cons_succ]
        refine wpAnyH_done (by kernel_rfl) ?_ _
        clear hHeld
        have hc0 := HYY.out.2.2.1
        have hc1 := HYY.out.2.2.2
        have i1 : (c.length : Int) ≤ (kk : Int) := by have := HK1.out; omega
        have i2 : (kk : Int) ≤ R := by have h1 := HK2.out; have h2 := ER.out; omega
        have i3 : (R == R) = true := beq_self_eq_true R
        go_wp2_with (first
          | (go_at_call 25; refine (HRS.out _ HYY.out.1).mono ?_; rintro e w6 ⟨sol2, na2, nc2, rfl, hown2, hL2, hb6⟩; have HY6 := Lib.hid (HYY.out.on hb6); have HBS := Lib.hid (HZY.out.trans (hb6.mono HZY.out.size)); have HM2 := Lib.hid (lab_own (by rw [(sol_ok hL2.1).1]; exact hown2)); have HEQ := Lib.hid (SV.least_one hL2 HLS.out); clear hown2 hL2 hb6 hc0 hc1)
          | (go_at_call 24; refine (rsame17_any _ _ (labI sol) (labI sol2) _ _ ((HM.out.below HBS.out).mono HBS.out.size) HM2.out (by rw [labI_len, HSL.out]; have := HSZ.out; omega) (by rw [HEQ.out, labI_len, HSL.out]; have := HSZ.out; omega)).mono ?_; rintro e w7 ⟨rfl, d, e7⟩; rw [e7, decide_eq_true (show labI sol = labI sol2 by rw [HEQ.out])]; have HY7 := Lib.hid (HY6.out.drewN d); clear e7; have hc0 := HY7.out.2.2.1; have hc1 := HY7.out.2.2.2)
          | (go_at_call 21; refine (HAW.out _ HY7.out.1).mono ?_; rintro e w8 ⟨rfl, hb8⟩; have HS8 := Lib.hid (HY7.out.on hb8); clear hb8 hc0 hc1))
        go_ret
        exact ⟨rfl, HS8.out.1⟩
theorem solveLeast_all {uv cv nv : Value} {xs : List Int} {c : List (Int × Int)} {tq : List (List Int)} (W : World) (hu : Nums .u64 W.heap.size W uv xs) (hun : ∀ n c, uv = .slice none n c → c = 0) (hx : Wide xs) (hxl : xs.length ≤ big5) (hT : Tz W) (hv : LabRow W.heap.size W cv c) (hwc : WideL c) (hg : GraphM W.heap.size W nv tq) (hs : Small tq) (hcl : c.length ≤ 17592186044416) :
    Calls Tryd.prog 3 #[uv, .agg #[cv, nv]] W fun e V => e = .returned (.bool true) ∧ Below W.heap.size W V := by
  obtain ⟨ua, uc, rfl⟩ := hu.form
  exact solveLeast_walk W hu (fun e => hun xs.length uc (by rw [e])) hx hxl hT hv hwc hg hs hcl
end Go.Proofs.YtjadckmdkkeopaaDoor
