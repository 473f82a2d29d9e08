import Derived.Test.YtkoofibhddkpiaaDoorPlatE
import Derived.Test.YtkoofibhddkpiaaDoorMarks
import Derived.Test.YtkoofibhddkpiaaDoorRound
import Derived.Deep.QuietTactic
import Derived.BigQuiet
import Derived.Sort.QuietIn
import Derived.Deep.RegionWith
set_option linter.unusedSimpArgs false
set_option linter.unusedVariables false
/-! the walk of layer 5's order -/
namespace Go.Proofs.YtkoofibhddkpiaaDoor
open Go.RowKit Go.Shelf
attribute [local go_sem] Oper.semAt_some
attribute [local simp] wide_fn wide_fn_round
theorem has_q {m i : Int} {t : Bool} {W : World} (HX : RowKit.Hid (0 ≤ m ∧ m ≤ 18446744073709551615)) (h : RowKit.Hid (MM.hasB m i = t)) (n : Nat) :
    Calls Tryd.prog 32 #[.int .u64 m, .int .i64 i] (W.drewN n) fun e w' => e = .returned (.bool t) ∧ ∃ k, w' = W.drewN k :=
  (has_any m i _ HX.out.1 HX.out.2).mono fun e w' h' => ⟨by rw [h'.1, h.out], n, h'.2.symm⟩

set_option maxRecDepth 100000 in
set_option maxHeartbeats 16000000 in
theorem order_in (v : Value) (xs : List Int) (n₀ : Nat) (w : World) (hv : Nums .u64 n₀ w v xs) (hn : n₀ ≤ w.heap.size) (hx : Wide xs) (h0 : 1 ≤ xs.length ∧ xs.length ≤ 64) (hT : Tz w) :
    Calls Tryd.prog 24 #[v] w fun e w' => e = .returned (.bool (LL.ordB xs)) ∧ Below w.heap.size w w' := by
  have HX := Lib.hid hx
  obtain ⟨bk, off, cap, rfl, hbk, hc⟩ := hv.at (by omega)
  have HV := Lib.hid hv
  have HC := Lib.hid hc
  have hG := hT.lt
  have l1 : 1 ≤ (xs.length : Int) := by omega
  have l2 : (xs.length : Int) ≤ 64 := by omega
  have g1 : decide ((xs.length : Int) < 1) = false := decide_eq_false (by omega)
  have g2 : decide ((64 : Int) < (xs.length : Int)) = false := decide_eq_false (by omega)
  have hbb := LL.below_bd xs.length h0.2
  have H0 := Lib.hid h0
  clear hv hx hc h0
  refine (callsIn_wide (n := 5)).1 ?_
  refine callsIn_of_wp_marks Tryd.func24 rfl trivial ?_ rfl
  simp only [Tryd.ntmps24, List.size_toArray, List.length_cons, List.length_nil, Nat.reduceAdd, Nat.reduceSub, Array.replicate_succ, Array.replicate_zero, List.push_toArray, List.append_toArray, List.nil_append, List.cons_append]
  refine wpIn_mono (Q := noPanic _) ?_ noPanic_of
  gi_wp2_with (gi_at_call 31; refine (callsIn_wide.2 (below_any _ _ (by omega) (by omega))).mono ?_; rintro e w' ⟨rfl, rfl⟩)
  have hs1 := cell_new_l (w.alloc (.cells #[.slice (some ⟨bk, off, none⟩) xs.length cap] 22)) (.bool false) 4
  rw [World.size_alloc] at hs1
  have hs0 := cell_alloc_l (W := w.alloc (.cells #[.slice (some ⟨bk, off, none⟩) xs.length cap] 22)) (.cells #[.bool false] 4) (cell_new_l w (.slice (some ⟨bk, off, none⟩) xs.length cap) 22).1
  have hB0 := ((Below.refl w.heap.size w).alloc (Nat.le_refl _) (.cells #[.slice (some ⟨bk, off, none⟩) xs.length cap] 22)).alloc (by simp) (.cells #[.bool false] 4)
  have HBel := Lib.hid (show MM.belowI (xs.length : Int) = MM.belowI (xs.length : Int) from rfl)
  obtain ⟨Bv, hBv⟩ : ∃ Bv, MM.belowI (xs.length : Int) = Bv := ⟨_, rfl⟩
  have HBv := Lib.hid hBv
  rw [hBv] at hbb ⊢
  clear hBv HBel
  refine wpIn_loop (fun a' w' => ∃ (k : Nat) (Ds : List Nat) (u4 u5 u20 u21 u22 u23 u24 u25 u26 u27 u28 u29 u30 u31 u32 u33 u34 u35 u36 u37 u38 u39 u40 u41 u42 u43 u44 u46 u47 u48 u49 u50 u51 u52 u53 u54 u55 u56 u57 u58 u59 u60 u61 u62 u63 u64 : Value), a' = { tmps := #[.slice (some ⟨bk, off, none⟩) xs.length cap, .pointer (some ⟨w.heap.size, 0, none⟩), .pointer (some ⟨w.heap.size + 1, 0, none⟩), .int .u64 Bv, u4, u5, .slice (some ⟨bk, off, none⟩) xs.length cap, .int .i64 (xs.length : Int), .bool false, .bool false, .slice (some ⟨bk, off, none⟩) xs.length cap, .int .i64 (xs.length : Int), .bool false, .bool false, .slice (some ⟨bk, off, none⟩) xs.length cap, .int .i64 (xs.length : Int), .int .u64 Bv, .slice (some ⟨bk, off, none⟩) xs.length cap, .int .i64 (xs.length : Int), .int .i64 (k : Int), u20, u21, u22, u23, u24, u25, u26, u27, u28, u29, u30, u31, u32, u33, u34, u35, u36, u37, u38, u39, u40, u41, u42, u43, u44, undef, u46, u47, u48, u49, u50, u51, u52, u53, u54, u55, u56, u57, u58, u59, u60, u61, u62, u63, u64], defers := marks Ds } ∧ k ≤ xs.length ∧ (w'.cell? ⟨w.heap.size, 0, none⟩ = some (.slice (some ⟨bk, off, none⟩) xs.length cap) ∧ w'.cell? ⟨w.heap.size + 1, 0, none⟩ = some (.bool false) ∧ w'.frozen? ⟨w.heap.size + 1, 0, none⟩ = false) ∧ Marks w.heap.size w' Ds ∧ Below w.heap.size w w' ∧ RowKit.Hid (∀ j, j < k → LL.pRow xs j = true))
    (fun a' _ => xs.length - (intOf (a'.tmps.getD 19 undef)).toNat) ?_ ?_
  · refine ⟨0, [], ?_⟩
    (repeat apply Exists.intro)
    exact ⟨rfl, Nat.zero_le _, ⟨hs0, hs1.1, hs1.2⟩, Marks.nil _ _, hB0, Lib.hid (fun j hj => absurd hj (Nat.not_lt_zero _))⟩
  · rintro a' W ⟨k, Ds, u4, u5, u20, u21, u22, u23, u24, u25, u26, u27, u28, u29, u30, u31, u32, u33, u34, u35, u36, u37, u38, u39, u40, u41, u42, u43, u44, u46, u47, u48, u49, u50, u51, u52, u53, u54, u55, u56, u57, u58, u59, u60, u61, u62, u63, u64, rfl, hk, ⟨hc0, hc1, hf1⟩, hM, hB, HN⟩
    have HM := Lib.hid hM
    clear hM hs0 hs1 hB0
    by_cases hkn : k < xs.length
    · have i1 : (0 : Int) ≤ k ∧ (k : Int) < xs.length := by omega
      have hgk : decide ((xs.length : Int) ≤ (k : Int)) = false := decide_eq_false (by omega)
      have hgk2 : decide (xs.length ≤ k) = false := decide_eq_false (by omega)
      have hck : W.cell? ⟨bk, off + k, none⟩ = some (.int .u64 (xs[k]?.getD 0)) := (hB.cell (p := ⟨bk, off + k, none⟩) (by show bk < w.heap.size; omega)).trans (HC.out k hkn)
      have hXk := HX.out.at k
      have HXk := Lib.hid hXk
      have HPno := Lib.hid (show LL.pRow xs k = false → LL.ordB xs = false from fun h => LL.ord_row_no HX.out H0.out hkn h)
      obtain ⟨xk, hxk⟩ : ∃ xk, xs[k]?.getD 0 = xk := ⟨_, rfl⟩
      have HXe := Lib.hid hxk
      rw [hxk] at hck HXk hXk
      clear hxk
      gi_wp2
      have hbi := cell_new_l W (.int .i64 (k : Int)) 3
      have hc01 := cell_alloc_l (.cells #[.int .i64 (k : Int)] 3) hc0
      have hck1 := cell_alloc_l (.cells #[.int .i64 (k : Int)] 3) hck
      have hc11 := cell_alloc_l (.cells #[.int .i64 (k : Int)] 3) hc1
      have hf11 := frozen_alloc_l (.cells #[.int .i64 (k : Int)] 3) hc1 hf1
      have hM1 := Lib.hid (HM.out.keeps (KeepsOthers.alloc W (.cells #[.int .i64 (k : Int)] 3)))
      have hB1 := hB.alloc hB.size (.cells #[.int .i64 (k : Int)] 3)
      have hsz1 : w.heap.size + 1 < W.heap.size := cell_lt hc1
      have hWs : (W.alloc (.cells #[.int .i64 (k : Int)] 3)).heap.size = W.heap.size + 1 := World.size_alloc ..
      generalize W.alloc (.cells #[.int .i64 (k : Int)] 3) = W1 at hbi hc01 hck1 hc11 hf11 hM1 hB1 hWs ⊢
      obtain ⟨Bi, hBi⟩ : ∃ Bi, W.heap.size = Bi := ⟨_, rfl⟩
      rw [hBi] at hbi hsz1 hWs ⊢
      clear hc0 hc1 hf1 hck HM hB hBi
      cases hab : LL.ab xs k k
      · have HA := Lib.hid (show MM.hasB xk (k : Int) = false by rw [← HXe.out]; exact hab)
        have HR := Lib.hid (HPno.out (by unfold LL.pRow; rw [hab]; rfl))
        clear hab
        gi_quiet ((gi_at_call 32; exact callsIn_wide.2 (has_q HXk HA _)))
        have hc12 : (W1.drewN nq).cell? ⟨w.heap.size + 1, 0, none⟩ = some (.bool false) := hc11
        have hf12 : (W1.drewN nq).frozen? ⟨w.heap.size + 1, 0, none⟩ = false := hf11
        have hB2 := below_drewN hB1 nq
        have hM2 := Lib.hid (hM1.out.drewN nq)
        clear hc01 hck1 hc11 hf11 hB1 hM1 hbi hWs
        generalize W1.drewN nq = W2 at hc12 hf12 hB2 hM2 ⊢
        gi_wp2
        show LeavesInM _ _ _ _ _ _ (marks Ds) .returning _
        refine leaves_marks (b := w.heap.size) Ds _ (by have := hB2.size; simp; omega) (hM2.out.keeps (KeepsOthers.setCell _ _ _)) fun W' hcell hBel => ?_
        have h1 := hcell _ _ (World.cell?_setCell_same' W2 ⟨w.heap.size + 1, 0, none⟩ (.bool false) (by rw [hc12]; rfl))
        refine ⟨.bool false, ?_, by rw [HR.out], (hB2.setCell (p := ⟨w.heap.size + 1, 0, none⟩) (by simp) _).trans hBel⟩
        simp [results, Tryd.f24, go_sem, h1]
      · have HA := Lib.hid (show MM.hasB xk (k : Int) = true by rw [← HXe.out]; exact hab)
        have HAb := Lib.hid hab
        cases h5 : (bits .andNot .u64 xk Bv == 0)
        · have HR := Lib.hid (HPno.out (by unfold LL.pRow; rw [hab, HXe.out, HBv.out, h5]; rfl))
          have h5' : (bits .andNot .u64 xk Bv != 0) = true := by rw [bne, h5]; rfl
          clear hab
          gi_quiet ((gi_at_call 32; exact callsIn_wide.2 (has_q HXk HA _)))
          have hc12 : (W1.drewN nq).cell? ⟨w.heap.size + 1, 0, none⟩ = some (.bool false) := hc11
          have hf12 : (W1.drewN nq).frozen? ⟨w.heap.size + 1, 0, none⟩ = false := hf11
          have hB2 := below_drewN hB1 nq
          have hM2 := Lib.hid (hM1.out.drewN nq)
          clear hc01 hck1 hc11 hf11 hB1 hM1 hbi hWs
          generalize W1.drewN nq = W2 at hc12 hf12 hB2 hM2 ⊢
          gi_wp2
          show LeavesInM _ _ _ _ _ _ (marks Ds) .returning _
          refine leaves_marks (b := w.heap.size) Ds _ (by have := hB2.size; simp; omega) (hM2.out.keeps (KeepsOthers.setCell _ _ _)) fun W' hcell hBel => ?_
          have h1 := hcell _ _ (World.cell?_setCell_same' W2 ⟨w.heap.size + 1, 0, none⟩ (.bool false) (by rw [hc12]; rfl))
          refine ⟨.bool false, ?_, by rw [HR.out], (hB2.setCell (p := ⟨w.heap.size + 1, 0, none⟩) (by simp) _).trans hBel⟩
          simp [results, Tryd.f24, go_sem, h1]
        · have h5' : (bits .andNot .u64 xk Bv != 0) = false := by rw [bne, h5]; rfl
          have H5 := Lib.hid h5
          clear hab
          gi_quiet ((gi_at_call 32; exact callsIn_wide.2 (has_q HXk HA _)))
          have hc12 : (W1.drewN nq).cell? ⟨w.heap.size + 1, 0, none⟩ = some (.bool false) := hc11
          have hf12 : (W1.drewN nq).frozen? ⟨w.heap.size + 1, 0, none⟩ = false := hf11
          have hc02 : (W1.drewN nq).cell? ⟨w.heap.size, 0, none⟩ = some (.slice (some ⟨bk, off, none⟩) xs.length cap) := hc01
          have hck2 : (W1.drewN nq).cell? ⟨bk, off + k, none⟩ = some (.int .u64 xk) := hck1
          have hbi2 : (W1.drewN nq).cell? ⟨Bi, 0, none⟩ = some (.int .i64 (k : Int)) := hbi.1
          have hB2 := below_drewN hB1 nq
          have hM2 := Lib.hid (hM1.out.drewN nq)
          have hW2 : (W1.drewN nq).heap.size = Bi + 1 := hWs
          clear hc01 hck1 hc11 hf11 hB1 hM1 hbi hWs
          generalize W1.drewN nq = W2 at hc12 hf12 hc02 hck2 hbi2 hB2 hM2 hW2 ⊢
          gi_wp2
          rename_i K9 hK9
          obtain ⟨mk, hmk⟩ : ∃ mk, MM.withoutI xk (k : Int) = mk := ⟨_, rfl⟩
          have HMk := Lib.hid hmk
          have hmb := MM.withoutI_bd xk (k : Int) HXk.out.1 HXk.out.2
          rw [hmk] at hmb
          clear hmk
          have hSub := LL.sub_iff.1 (show LL.subB xk (MM.belowI (xs.length : Int)) = true by
            have hb9 := LL.below_bd xs.length H0.out.2
            rw [← LL.sub_andNot xk _ HXk.out.1 HXk.out.2 hb9.1 hb9.2, HBv.out]; exact H5.out)
          have HXl := Lib.hid (show ∀ z : Nat, MM.hasB mk (z : Int) = true → z < xs.length by
            intro z hz
            rw [← HMk.out, LL.has_withoutI _ _ _ (by have := H0.out.2; omega), Bool.and_eq_true] at hz
            have := hSub z hz.1
            rw [LL.has_below _ _ H0.out.2, decide_eq_true_eq] at this
            exact this)
          clear hSub
          have hsB : Bi < W2.heap.size := by omega
          have HK : K9 { tmps := #[.slice (some ⟨bk, off, none⟩) xs.length cap, .pointer (some ⟨w.heap.size, 0, none⟩), .pointer (some ⟨w.heap.size + 1, 0, none⟩), .int .u64 Bv, .pointer (some ⟨Bi, 0, none⟩), u5, .slice (some ⟨bk, off, none⟩) xs.length cap, .int .i64 (xs.length : Int), .bool false, .bool false, .slice (some ⟨bk, off, none⟩) xs.length cap, .int .i64 (xs.length : Int), .bool false, .bool false, .slice (some ⟨bk, off, none⟩) xs.length cap, .int .i64 (xs.length : Int), .int .u64 Bv, .slice (some ⟨bk, off, none⟩) xs.length cap, .int .i64 (xs.length : Int), .int .i64 (k : Int), .bool true, .int .i64 (k : Int), .slice (some ⟨bk, off, none⟩) xs.length cap, .int .i64 (k : Int), .pointer (some ⟨bk, off + k, none⟩), .int .u64 xk, .int .i64 (k : Int), .bool true, .bool false, .bool false, .slice (some ⟨bk, off, none⟩) xs.length cap, .int .i64 (k : Int), .pointer (some ⟨bk, off + k, none⟩), .int .u64 xk, .int .u64 Bv, .int .u64 (bits .andNot .u64 xk Bv), .bool false, .bool false, .slice (some ⟨bk, off, none⟩) xs.length cap, .int .i64 (k : Int), .pointer (some ⟨bk, off + k, none⟩), .int .u64 xk, .int .i64 (k : Int), .int .u64 mk, .func (.func 39) #[] #[.pointer (some ⟨Bi + 1, 0, none⟩)], undef, u46, u47, u48, u49, u50, u51, u52, u53, u54, u55, u56, u57, u58, u59, u60, u61, u62, u63, u64], defers := marks Ds } (W2.alloc (.cells #[.int .u64 mk] 47)).drew := by
            apply hK9
            clear hK9
            have hbm := cell_new_l W2 (.int .u64 mk) 47
            rw [hW2] at hbm
            have hcm : (W2.alloc (.cells #[.int .u64 mk] 47)).drew.cell? ⟨Bi + 1, 0, none⟩ = some (.int .u64 mk) := hbm.1
            have hc03 : (W2.alloc (.cells #[.int .u64 mk] 47)).drew.cell? ⟨w.heap.size, 0, none⟩ = some (.slice (some ⟨bk, off, none⟩) xs.length cap) := cell_alloc_l (W := W2) _ hc02
            have hc13 : (W2.alloc (.cells #[.int .u64 mk] 47)).drew.cell? ⟨w.heap.size + 1, 0, none⟩ = some (.bool false) := cell_alloc_l (W := W2) _ hc12
            have hf13 : (W2.alloc (.cells #[.int .u64 mk] 47)).drew.frozen? ⟨w.heap.size + 1, 0, none⟩ = false := frozen_alloc_l (W := W2) _ hc12 hf12
            have hbi3 : (W2.alloc (.cells #[.int .u64 mk] 47)).drew.cell? ⟨Bi, 0, none⟩ = some (.int .i64 (k : Int)) := cell_alloc_l (W := W2) _ hbi2
            have hB3 : Below w.heap.size w (W2.alloc (.cells #[.int .u64 mk] 47)).drew := (hB2.alloc hB2.size _).drew
            have hM3 : Marks w.heap.size (W2.alloc (.cells #[.int .u64 mk] 47)).drew Ds := (hM2.out.keeps (KeepsOthers.alloc W2 (.cells #[.int .u64 mk] 47))).drewN 1
            have hT3 : Tz (W2.alloc (.cells #[.int .u64 mk] 47)).drew := hT.on hB3
            have hW3 : (W2.alloc (.cells #[.int .u64 mk] 47)).drew.heap.size = Bi + 2 := by show (W2.alloc _).heap.size = _; rw [World.size_alloc, hW2]
            generalize (W2.alloc (.cells #[.int .u64 mk] 47)).drew = W3 at hcm hc03 hc13 hf13 hbi3 hB3 hM3 hT3 hW3 ⊢
            clear hbm hc12 hf12 hc02 hck2 hbi2 hB2 hM2 hW2 hsB
            gi_wp2
            have hDlt : ∀ D ∈ Ds, D < W3.heap.size := fun D hD => hM3.lt hD
            refine wpIn_rangeFunc_ownF rfl (by omega) (gf := 39) (lb := #[.pointer (some ⟨Bi + 1, 0, none⟩)]) rfl trivial (enters_of Tryd.func39 (by kernel_rfl) rfl)
              (all_stopsS _ (by omega) (Bi + 1) mk hmb.1 hmb.2 W3 (by omega) hcm hT3) (fun h k => h.trans k) (keptAt_b (by omega)) (Below.refl _ _) (fun _ => rfl)
              (fun pre Wr => (((Wr.cell? ⟨w.heap.size, 0, none⟩ = some (.slice (some ⟨bk, off, none⟩) xs.length cap) ∧ Wr.cell? ⟨Bi, 0, none⟩ = some (.int .i64 (k : Int)) ∧ (Wr.cell? ⟨w.heap.size + 1, 0, none⟩ = some (.bool false) ∧ Wr.frozen? ⟨w.heap.size + 1, 0, none⟩ = false)) ∧ RowKit.Hid (∀ z ∈ pre, LL.pAt xs k z.1 = true)) ∧ Marks w.heap.size Wr Ds) ∧ Below w.heap.size w Wr)
              (fun c pre Wr => (((c = .ret ∧ Wr.cell? ⟨w.heap.size + 1, 0, none⟩ = some (.bool false)) ∧ RowKit.Hid (∃ z, z ∈ MM.bitsOf mk ∧ LL.pAt xs k z = false)) ∧ Marks w.heap.size Wr Ds) ∧ Below w.heap.size w Wr)
              (OwnFrom.and (OwnFrom.and (Own.from (fun s A B row hs hg hr => ⟨⟨cell_kept hs.1.1 hg hr, cell_kept hs.1.2.1 hg hr, ⟨cell_kept hs.1.2.2.1 hg hr, (frozen_kept hs.1.2.2.1 hg hr).trans hs.1.2.2.2⟩⟩, hs.2⟩) _) (marks_own _ _ _ hDlt)) (ownFrom_below (Nat.le_refl _) (by omega)))
              (fun c => OwnFrom.and (OwnFrom.and (Own.from (fun s A B row hs hg hr => ⟨⟨hs.1.1, cell_kept hs.1.2 hg hr⟩, hs.2⟩) _) (marks_own _ _ _ hDlt)) (ownFrom_below (Nat.le_refl _) (by omega)))
              ⟨⟨⟨⟨hc03, hbi3, hc13, hf13⟩, Lib.hid (fun z hz => by cases hz)⟩, hM3⟩, hB3⟩
              (fun z => { tmps := #[.slice (some ⟨bk, off, none⟩) xs.length cap, .pointer (some ⟨w.heap.size, 0, none⟩), .pointer (some ⟨w.heap.size + 1, 0, none⟩), .int .u64 Bv, .pointer (some ⟨Bi, 0, none⟩), .int .i64 ((z.1 : Nat) : Int), .slice (some ⟨bk, off, none⟩) xs.length cap, .int .i64 (xs.length : Int), .bool false, .bool false, .slice (some ⟨bk, off, none⟩) xs.length cap, .int .i64 (xs.length : Int), .bool false, .bool false, .slice (some ⟨bk, off, none⟩) xs.length cap, .int .i64 (xs.length : Int), .int .u64 Bv, .slice (some ⟨bk, off, none⟩) xs.length cap, .int .i64 (xs.length : Int), .int .i64 (k : Int), .bool true, .int .i64 (k : Int), .slice (some ⟨bk, off, none⟩) xs.length cap, .int .i64 (k : Int), .pointer (some ⟨bk, off + k, none⟩), .int .u64 xk, .int .i64 (k : Int), .bool true, .bool false, .bool false, .slice (some ⟨bk, off, none⟩) xs.length cap, .int .i64 (k : Int), .pointer (some ⟨bk, off + k, none⟩), .int .u64 xk, .int .u64 Bv, .int .u64 (bits .andNot .u64 xk Bv), .bool false, .bool false, .slice (some ⟨bk, off, none⟩) xs.length cap, .int .i64 (k : Int), .pointer (some ⟨bk, off + k, none⟩), .int .u64 xk, .int .i64 (k : Int), .int .u64 mk, .func (.func 39) #[] #[.pointer (some ⟨Bi + 1, 0, none⟩)], .int .i64 ((z.1 : Nat) : Int), u46, u47, u48, u49, u50, u51, u52, u53, u54, u55, u56, u57, u58, u59, u60, u61, u62, u63, u64], defers := [] }) ?assign ?body ?done ?stop
            case assign =>
              intro l z W K hK
              gi_wp2
              exact hK
            case body =>
              rintro l pre z Wr ⟨⟨⟨⟨hc0, hbi, hc1, hf1⟩, HP⟩, hMr⟩, hBr⟩ hlt
              obtain ⟨z, hzm⟩ := z
              have hzl := HXl.out z hzm
              have hcz : Wr.cell? ⟨bk, off + z, none⟩ = some (.int .u64 (xs[z]?.getD 0)) := (hBr.cell (p := ⟨bk, off + z, none⟩) (by show bk < w.heap.size; omega)).trans (HC.out z hzl)
              have hckr : Wr.cell? ⟨bk, off + k, none⟩ = some (.int .u64 xk) := by rw [← HXe.out]; exact (hBr.cell (p := ⟨bk, off + k, none⟩) (by show bk < w.heap.size; omega)).trans (HC.out k hkn)
              have HXz := Lib.hid (HX.out.at z)
              have i3 : (0 : Int) ≤ z ∧ (z : Int) < xs.length := by omega
              have hgz : decide ((xs.length : Int) ≤ (z : Int)) = false := decide_eq_false (by omega)
              have hgz2 : decide (xs.length ≤ z) = false := decide_eq_false (by omega)
              obtain ⟨xz, hxz⟩ : ∃ xz, xs[z]?.getD 0 = xz := ⟨_, rfl⟩
              have HXze := Lib.hid hxz
              rw [hxz] at hcz HXz
              clear hxz
              have HMr := Lib.hid hMr
              clear hMr
              have HMem := Lib.hid (LL.mem_bits.2 hzm)
              cases hab : LL.ab xs z k
              · have HA := Lib.hid (show MM.hasB xz (k : Int) = false by rw [← HXze.out]; exact hab)
                cases h6 : (bits .andNot .u64 xz xk == 0)
                · have h6' : (bits .andNot .u64 xz xk != 0) = true := by rw [bne, h6]; rfl
                  have HNo := Lib.hid (show ∃ z, z ∈ MM.bitsOf mk ∧ LL.pAt xs k z = false from ⟨z, HMem.out, by unfold LL.pAt; rw [HXze.out, HXe.out, h6, Bool.and_false]⟩)
                  clear hab
                  gi_wp2
                  refine region_round (by kernel_rfl) (by kernel_rfl) (by kernel_rfl) ?_
                  repeat (gi_big_quiet_step ((gi_at_call 32; exact CallsIn.inRound l (callsIn_wide.2 (has_q HXz HA _)))))
                  refine wpQuietIn_nil ?_
                  intro _ hw'
                  obtain ⟨nq, hw''⟩ := hw'
                  subst hw''
                  have hc14 : (Wr.drewN nq).cell? ⟨w.heap.size + 1, 0, none⟩ = some (.bool false) := hc1
                  have hf14 : (Wr.drewN nq).frozen? ⟨w.heap.size + 1, 0, none⟩ = false := hf1
                  have hB4 := below_drewN hBr nq
                  have hM4 := Lib.hid (HMr.out.drewN nq)
                  have hK4 : KeepsOthers Wr (Wr.drewN nq) := ⟨Nat.le_refl _, fun _ _ h _ => h⟩
                  generalize Wr.drewN nq = W4 at hc14 hf14 hB4 hM4 hK4 ⊢
                  gi_wp2
                  exact ⟨hK4.trans (KeepsOthers.setCell _ _ _), ⟨⟨⟨rfl, World.cell?_setCell_same' _ _ _ (by rw [hc14]; rfl)⟩, HNo⟩, hM4.out.keeps (KeepsOthers.setCell _ _ _)⟩, hB4.setCell (p := ⟨w.heap.size + 1, 0, none⟩) (by simp) _⟩
                · have h6' : (bits .andNot .u64 xz xk != 0) = false := by rw [bne, h6]; rfl
                  have HYes := Lib.hid (show ∀ y ∈ pre ++ [(⟨z, hzm⟩ : InS mk)], LL.pAt xs k y.1 = true from fun y hy => by
                    rcases List.mem_append.1 hy with h | h
                    · exact HP.out y h
                    · obtain rfl := List.mem_singleton.1 h
                      show LL.pAt xs k z = true
                      unfold LL.pAt
                      rw [hab, HXze.out, HXe.out, h6]; rfl)
                  clear hab
                  gi_wp2
                  refine region_round (by kernel_rfl) (by kernel_rfl) (by kernel_rfl) ?_
                  repeat (gi_big_quiet_step ((gi_at_call 32; exact CallsIn.inRound l (callsIn_wide.2 (has_q HXz HA _)))))
                  refine wpQuietIn_nil ?_
                  intro _ hw'
                  obtain ⟨nq, hw''⟩ := hw'
                  subst hw''
                  gi_wp2
                  exact ⟨⟨Nat.le_refl _, fun _ _ h _ => h⟩, rfl, ⟨⟨⟨hc0, hbi, hc1, hf1⟩, HYes⟩, HMr.out.drewN nq⟩, below_drewN hBr nq⟩
              · have HA := Lib.hid (show MM.hasB xz (k : Int) = true by rw [← HXze.out]; exact hab)
                have HNo := Lib.hid (show ∃ z, z ∈ MM.bitsOf mk ∧ LL.pAt xs k z = false from ⟨z, HMem.out, by unfold LL.pAt; rw [hab]; rfl⟩)
                clear hab
                gi_wp2
                refine region_round (by kernel_rfl) (by kernel_rfl) (by kernel_rfl) ?_
                repeat (gi_big_quiet_step ((gi_at_call 32; exact CallsIn.inRound l (callsIn_wide.2 (has_q HXz HA _)))))
                refine wpQuietIn_nil ?_
                intro _ hw'
                obtain ⟨nq, hw''⟩ := hw'
                subst hw''
                have hc14 : (Wr.drewN nq).cell? ⟨w.heap.size + 1, 0, none⟩ = some (.bool false) := hc1
                have hf14 : (Wr.drewN nq).frozen? ⟨w.heap.size + 1, 0, none⟩ = false := hf1
                have hB4 := below_drewN hBr nq
                have hM4 := Lib.hid (HMr.out.drewN nq)
                have hK4 : KeepsOthers Wr (Wr.drewN nq) := ⟨Nat.le_refl _, fun _ _ h _ => h⟩
                generalize Wr.drewN nq = W4 at hc14 hf14 hB4 hM4 hK4 ⊢
                gi_wp2
                exact ⟨hK4.trans (KeepsOthers.setCell _ _ _), ⟨⟨⟨rfl, World.cell?_setCell_same' _ _ _ (by rw [hc14]; rfl)⟩, HNo⟩, hM4.out.keeps (KeepsOthers.setCell _ _ _)⟩, hB4.setCell (p := ⟨w.heap.size + 1, 0, none⟩) (by simp) _⟩
            case done =>
              rintro D ys Wr hD hys ⟨⟨⟨⟨hc0, hbi, hc1, hf1⟩, HP⟩, hMr⟩, hBr⟩ hKD
              have HS := Lib.hid (LL.all_step HN.out (show LL.pRow xs k = true by
                unfold LL.pRow
                rw [HAb.out, HXe.out, HBv.out, H5.out, HMk.out, Bool.true_and, Bool.true_and, List.all_eq_true]
                intro z hz
                rw [← hys] at hz
                obtain ⟨y, hy, rfl⟩ := List.mem_map.1 hz
                exact HP.out y hy))
              clear hys
              gi_wp2
              refine ⟨⟨k + 1, D :: Ds, ?_⟩, by simp [intOf]; omega⟩
              (repeat apply Exists.intro)
              exact ⟨rfl, by omega, ⟨hc0, hc1, hf1⟩, hMr.cons (by omega) hKD (fun E hE => Nat.lt_of_lt_of_le (hDlt E hE) hD), hBr, HS⟩
            case stop =>
              rintro D c pre Wr hD hpre ⟨⟨⟨⟨rfl, hc1⟩, HP⟩, hMr⟩, hBr⟩ hKD
              have HR := Lib.hid (HPno.out (show LL.pRow xs k = false by
                obtain ⟨z, hz, hf⟩ := HP.out
                unfold LL.pRow
                rw [HXe.out, HMk.out, Bool.and_eq_false_iff]
                right
                rw [Bool.eq_false_iff]
                intro ha
                rw [List.all_eq_true] at ha
                rw [ha z hz] at hf; cases hf))
              clear hpre
              gi_wp2
              show LeavesInM _ _ _ _ _ _ (marks (D :: Ds)) .returning _
              refine leaves_marks (b := w.heap.size) (D :: Ds) _ hBr.size (hMr.cons (by omega) hKD (fun E hE => Nat.lt_of_lt_of_le (hDlt E hE) hD)) fun W' hcell hBel => ?_
              have h1 := hcell _ _ hc1
              refine ⟨.bool false, ?_, by rw [HR.out], hBr.trans hBel⟩
              simp [results, Tryd.f24, go_sem, h1]
          --DEV
          clear HC HV H0 HN HPno HXe HBv HAb H5 h5' hB2 hM2 hG hT hmb HXl hc12 hf12
          gi_region_with (first
            | (gi_at_call 34; refine (callsIn_wide.2 (without_any xk _ _ HXk.out.1 HXk.out.2)).mono ?_; rintro e w' ⟨rfl, rfl⟩; rw [HMk.out])
            | (gi_at_call 33; refine (callsIn_wide.2 (all_any mk _)).mono ?_; rintro e w' ⟨rfl, rfl⟩))
          all_goals exact HK
    · have HR := Lib.hid (show LL.ordB xs = true from LL.ord_rows HX.out H0.out fun i hi => HN.out i (by omega))
      gi_wp2
      show LeavesInM _ _ _ _ _ _ (marks Ds) .returning _
      refine leaves_marks (b := w.heap.size) Ds _ (by have := hB.size; simp; omega) (HM.out.keeps (KeepsOthers.setCell _ _ _)) fun W' hcell hBel => ?_
      have h1 := hcell _ _ (World.cell?_setCell_same' W ⟨w.heap.size + 1, 0, none⟩ (.bool true) (by rw [hc1]; rfl))
      refine ⟨.bool true, ?_, by rw [HR.out], (hB.setCell (p := ⟨w.heap.size + 1, 0, none⟩) (by simp) _).trans hBel⟩
      simp [results, Tryd.f24, go_sem, h1]
end Go.Proofs.YtkoofibhddkpiaaDoor

