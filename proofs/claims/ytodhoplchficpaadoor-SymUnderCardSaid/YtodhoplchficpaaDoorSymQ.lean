import Derived.Test.YtodhoplchficpaaDoorSymR
set_option linter.unusedSimpArgs false
set_option linter.unusedVariables false
/-! layer 19's reference: Put, Low -/
namespace Go.Proofs.YtodhoplchficpaaDoor
open Go.RowKit
open SV (Lab SysOk Least labs sumOf mu sumP at' natsL askT askI fanN lok ljoin val le Bnd)
/-- Put's boxes, and the label that it makes -/
def PutR (w : World) (a m p1 p2 o1 o2 : Int) (V : World) : Prop := PutB w a m p1 p2 V ∧ w.heap.size + 4 ≤ V.heap.size ∧ V.heap[w.heap.size + 1 + 1 + 1]? = some (.cells #[.int .i64 o1, .int .u64 o2] 38)
theorem PutR.on {w U V : World} {a m p1 p2 o1 o2 : Int} (h : PutR w a m p1 p2 o1 o2 U) (hb : Below U.heap.size U V) : PutR w a m p1 p2 o1 o2 V :=
  ⟨h.1.on hb, Nat.le_trans h.2.1 hb.size, (hb.block _ (by have := h.2.1; omega)).trans h.2.2⟩
theorem PutR.drew {w U : World} {a m p1 p2 o1 o2 : Int} (h : PutR w a m p1 p2 o1 o2 U) : PutR w a m p1 p2 o1 o2 U.drew :=
  ⟨⟨h.1.1.drew, h.1.2.1, h.1.2.2.1, h.1.2.2.2.1, h.1.2.2.2.2⟩, h.2.1, h.2.2⟩
theorem PutR.put {w U : World} {a m p1 p2 o1 o2 : Int} (h : PutR w a m p1 p2 o1 o2 U) (n1 n2 : Int) : PutR w a m p1 p2 n1 n2 ((U.setCell ⟨w.heap.size + 1 + 1 + 1, 0, none⟩ (.int .i64 n1)).setCell ⟨w.heap.size + 1 + 1 + 1, 1, none⟩ (.int .u64 n2)) := by
  have hp := put_lab h.2.2 n1 n2
  have hs : ((U.setCell ⟨w.heap.size + 1 + 1 + 1, 0, none⟩ (.int .i64 n1)).setCell ⟨w.heap.size + 1 + 1 + 1, 1, none⟩ (.int .u64 n2)).heap.size = U.heap.size := by simp
  refine ⟨⟨(h.1.1.setCell (p := ⟨w.heap.size + 1 + 1 + 1, 0, none⟩) (by show w.heap.size ≤ w.heap.size + 1 + 1 + 1; omega) _).setCell (p := ⟨w.heap.size + 1 + 1 + 1, 1, none⟩) (by show w.heap.size ≤ w.heap.size + 1 + 1 + 1; omega) _, by rw [hs]; exact h.1.2.1, (hp.2 _ (by omega)).trans h.1.2.2.1, (hp.2 _ (by omega)).trans h.1.2.2.2.1, (hp.2 _ (by omega)).trans h.1.2.2.2.2⟩, by rw [hs]; exact h.2.1, hp.1⟩
theorem putR_start (w : World) (a m p1 p2 : Int) : PutR w a m p1 p2 a 0 ((((w.alloc (.cells #[.int .i64 a, .int .u64 m] 38)).alloc (.cells #[.int .i64 p1, .int .u64 p2] 38)).alloc (.cells #[.int .i64 0, .int .u64 0] 38)).alloc (.cells #[.int .i64 a, .int .u64 0] 38)) := by
  refine ⟨(putB_start w a m p1 p2).on ((Below.refl _ _).alloc (Nat.le_refl _) _), by simp, SS.new_at (by simp)⟩
theorem PutR.cells {w W : World} {a m p1 p2 o1 o2 : Int} (h : PutR w a m p1 p2 o1 o2 W) : W.cell? ⟨w.heap.size, 0, none⟩ = some (.int .i64 a) ∧ W.cell? ⟨w.heap.size, 1, none⟩ = some (.int .u64 m) ∧ W.cell? ⟨w.heap.size + 1, 0, none⟩ = some (.int .i64 p1) ∧ W.cell? ⟨w.heap.size + 1, 1, none⟩ = some (.int .u64 p2) ∧ W.cell? ⟨w.heap.size + 1 + 1 + 1, 0, none⟩ = some (.int .i64 o1) ∧ W.cell? ⟨w.heap.size + 1 + 1 + 1, 1, none⟩ = some (.int .u64 o2) ∧ W.frozen? ⟨w.heap.size + 1 + 1 + 1, 0, none⟩ = false ∧ W.frozen? ⟨w.heap.size + 1 + 1 + 1, 1, none⟩ = false :=
  ⟨h.1.cells.1, h.1.cells.2.1, h.1.cells.2.2.1, h.1.cells.2.2.2, (one_lab h.2.2).1, (one_lab h.2.2).2.1, (one_lab h.2.2).2.2.1, (one_lab h.2.2).2.2.2⟩
theorem lj1 {xs : List Int} (hr : LL.rightB xs = true) {a b : Lab} (ha : lok xs a) (hb : lok xs b) : LL.joinI xs a.1 b.1 = ((ljoin xs a b).1 : Int) := (LL.joinN_is hr ha.1 hb.1).2
theorem refT_ok {xs : List Int} {a m : Int} {args : List (Int × Int)} (hr : LL.rightB xs = true) (hx : Wide xs) (ha : 0 ≤ a ∧ a < xs.length) (hl : ∀ i, i < args.length → lok xs (at' (natL args) i)) {k : Nat} (hk : k ≤ args.length) : lok xs (refT xs a m args k) := by
  unfold refT
  refine foldJ_ok hr hx ⟨by show a.toNat < xs.length; omega, Int.le_refl 0, by show (0 : Int) ≤ _; decide⟩ (fun j hj => ?_)
  unfold MM.upto at hj
  have := List.mem_range.1 (List.mem_filter.1 hj).1
  exact hl j (by omega)
set_option maxRecDepth 100000 in
set_option maxHeartbeats 6400000 in
theorem rput_any {uv av : Value} {xs : List Int} {m : Int} {a : Nat} {p1 : Nat} {p2 : Int} {args : List (Int × Int)} (w : World) (hu : Nums .u64 w.heap.size w uv xs) (hx : Wide xs) (hr : LL.rightB xs = true) (hav : LabRow w.heap.size w av args) (hwa : WideL args) (hal : args.all (labOk xs.length) = true) (hm : 0 ≤ m ∧ m ≤ 18446744073709551615) (hpm : 0 ≤ p2 ∧ p2 ≤ 18446744073709551615) (ha : a < xs.length) (hp : p1 < xs.length) (hn : args.length ≤ 64) :
    Calls Tryd.prog 25 #[uv, .agg #[.int .i64 a, .int .u64 m], av, .agg #[.int .i64 p1, .int .u64 p2]] w fun e V => e = .returned (.agg #[.int .i64 ((refJ xs a m args (p1, p2)).1 : Int), .int .u64 (refJ xs a m args (p1, p2)).2]) ∧ Below w.heap.size w V := by
  obtain ⟨ua, uc, rfl⟩ := hu.form
  obtain ⟨aa, ac, rfl⟩ := hav.form
  have h64 := (LL.ord_len (LL.right_ord hr)).2
  have HLK := Lib.hid (fun i (hi : i < args.length) => lok_at hwa hal hi)
  have HAL := Lib.hid hal
  have HU := Lib.hid hu
  have HX := Lib.hid hx
  have HR := Lib.hid hr
  have HA := Lib.hid hav
  have HM := Lib.hid hm
  have HPK := Lib.hid (show lok xs (p1, p2) from ⟨hp, hpm⟩)
  have HOK := Lib.hid (fun k (hk : k ≤ args.length) => refT_ok (a := (a : Int)) (m := m) hr hx (by omega) HLK.out hk)
  obtain ⟨W0, eW0⟩ : ∃ W0, W0 = ((((w.alloc (.cells #[.int .i64 a, .int .u64 m] 38)).alloc (.cells #[.int .i64 p1, .int .u64 p2] 38)).alloc (.cells #[.int .i64 0, .int .u64 0] 38)).alloc (.cells #[.int .i64 a, .int .u64 0] 38)) := ⟨_, rfl⟩
  have HS0 := Lib.hid (putR_start w a m p1 p2)
  rw [← eW0] at HS0
  have b0 : (args.length : Int) ≤ 64 := by omega
  obtain ⟨⟨y1, y2⟩, ey⟩ : ∃ y, y = refJ xs a m args (p1, p2) := ⟨_, rfl⟩
  have HY := Lib.hid ey
  rw [← ey]
  clear ey hu hx hr hav hwa hal hm hpm ha hp hn
  go_enter Tryd.func25, Tryd.ntmps25
  go_upto_region 2 with fail
  rw [← eW0]
  clear eW0
  go_wp2_with fail
  go_loopw [10] (fun x wr => ∃ i : Nat, i ≤ args.length ∧ x = .int .i64 (i : Int) ∧ PutR w a m p1 p2 ((refT xs a m args i).1 : Int) (refT xs a m args i).2 wr) (fun x _ => args.length - (intOf x).toNat)
  case atStart => exact ⟨0, Nat.zero_le _, rfl, HS0.out⟩
  case round =>
    obtain ⟨i, hi, rfl, hp⟩ := hrel
    have HP := Lib.hid hp
    have HII := Lib.hid hi
    clear hp
    obtain ⟨hc0, hc1, hc2, hc3, hc4, hc5, hf4, hf5⟩ := HP.out.cells
    by_cases hlt : i < args.length
    · have i1 : (0 : Int) ≤ i ∧ (i : Int) < args.length := by omega
      have HLT := Lib.hid hlt
      cases hh : MM.hasB m (i : Int) with
      | false =>
        have HH := Lib.hid hh
        clear hh
        go_wp2_with (go_at_call 49; refine (rhas_any _ _ _ HM.out.1 HM.out.2).mono ?_; rintro e w' ⟨rfl, rfl⟩; rw [HH.out])
        go_roundw
        case rel => exact ⟨i + 1, by omega, by go_num, by rw [refT_no HH.out]; exact HP.out⟩
        case measure => simp [intOf]; omega
      | true =>
        have HH := Lib.hid hh
        clear hh
        obtain ⟨xb, xo, rfl, hxb, hx1, hx2⟩ := (HA.out.below HP.out.1.1).at hlt
        have HXB := Lib.hid hxb
        have e1 : (args[i]?.getD s0).1 = ((at' (natL args) i).1 : Int) := by
          rw [natL_at hlt]
          have := lab_yes2 HAL.out hlt
          simp only
          omega
        have e2 : (args[i]?.getD s0).2 = (at' (natL args) i).2 := by rw [natL_at hlt]
        rw [e1] at hx1
        rw [e2] at hx2
        have HKI := Lib.hid (HLK.out i hlt)
        have HTI := Lib.hid (HOK.out i hi)
        have HTN := Lib.hid (show refT xs a m args (i + 1) = ljoin xs (refT xs a m args i) (at' (natL args) i) from refT_yes HH.out)
        obtain ⟨⟨g1, g2⟩, eg⟩ : ∃ g, g = at' (natL args) i := ⟨_, rfl⟩
        obtain ⟨⟨t1, t2⟩, et⟩ : ∃ t, t = refT xs a m args i := ⟨_, rfl⟩
        rw [← eg] at hx1 hx2 HKI HTN
        rw [← et] at hc4 hc5 HTI HTN HP
        clear e1 e2 eg et
        simp only at hx1 hx2 hc4 hc5
        have HJ1 := Lib.hid (lj1 HR.out HTI.out HKI.out)
        have HJ2 := Lib.hid (show bits .or .u64 t2 g2 = (ljoin xs (t1, t2) (g1, g2)).2 from rfl)
        obtain ⟨⟨n1, n2⟩, en⟩ : ∃ n, n = ljoin xs (t1, t2) (g1, g2) := ⟨_, rfl⟩
        rw [← en] at HJ1 HJ2 HTN
        clear en
        go_upto_region 6 with (go_at_call 49; refine (rhas_any _ _ _ HM.out.1 HM.out.2).mono ?_; rintro e w' ⟨rfl, rfl⟩; rw [HH.out])
        have HP0 := Lib.hid HP.out.drew
        have hx3 : wr.drew.cell? ⟨xb, xo + i * 2, none⟩ = some (.int .i64 g1) := hx1
        have hx4 : wr.drew.cell? ⟨xb, xo + i * 2 + 1, none⟩ = some (.int .u64 g2) := hx2
        refine wp_region_held_drew (S := (fun V => V.cell? ⟨xb, xo + i * 2, none⟩ = some (.int .i64 g1) ∧ V.cell? ⟨xb, xo + i * 2 + 1, none⟩ = some (.int .u64 g2))) (by kernel_rfl) ?_ (fun hHeld => ?_)
        · exact ⟨hx3, hx4⟩
        clear hc0 hc1 hc2 hc3 hc4 hc5 hf4 hf5 hx1 hx2 HP
        generalize wr.drew = w0 at HP0 hx3 hx4 hHeld ⊢
        have HR0 := Lib.hid (Below.refl w0.heap.size w0)
        have HXA := Lib.hid (show xb < w0.heap.size from by have h1 := HXB.out; have h2 := HP0.out.1.1.size; omega)
        have HXW := Lib.hid (show xb < w.heap.size from HXB.out)
        have HX3 := Lib.hid (And.intro hx3 hx4)
        clear hx3 hx4
        refine wpAnyH_take (i := 0) (v := .slice ua xs.length uc) rfl (by kernel_rfl) (by kernel_rfl) (by kernel_rfl) (fun _ _ _ h => h) (Or.inl ⟨by rfl, fun W hSW => ?_⟩) hHeld ?_
        · ((try dsimp only at hSW); go_split_ands; go_simp <;> with_reducible rfl)
        try simp only [List.getElem_toArray, List.getElem_cons_succ, List.getElem_cons_zero, Act.put, List.setIfInBounds_toArray, List.set_cons_zero, List.set_cons_succ]
        refine wpAnyH_take (i := 2) (v := .slice (some ⟨xb, xo, none⟩) args.length ac) rfl (by kernel_rfl) (by kernel_rfl) (by kernel_rfl) (fun _ _ _ h => h) (Or.inl ⟨by rfl, fun W hSW => ?_⟩) hHeld ?_
        · ((try dsimp only at hSW); go_split_ands; go_simp <;> with_reducible rfl)
        try simp only [List.getElem_toArray, List.getElem_cons_succ, List.getElem_cons_zero, Act.put, List.setIfInBounds_toArray, List.set_cons_zero, List.set_cons_succ]
        refine wpAnyH_take (i := 3) (v := .int .i64 i) rfl (by kernel_rfl) (by kernel_rfl) (by kernel_rfl) (fun _ _ _ h => h) (Or.inl ⟨by rfl, fun W hSW => ?_⟩) hHeld ?_
        · ((try dsimp only at hSW); go_split_ands; go_simp <;> with_reducible rfl)
        try simp only [List.getElem_toArray, List.getElem_cons_succ, List.getElem_cons_zero, Act.put, List.setIfInBounds_toArray, List.set_cons_zero, List.set_cons_succ]
        refine wpAnyH_take (i := 4) (v := .pointer (some ⟨xb, xo + i * 2, none⟩)) rfl (by kernel_rfl) (by kernel_rfl) (by kernel_rfl) (fun _ _ _ h => h) (Or.inl ⟨by rfl, fun W hSW => ?_⟩) hHeld ?_
        · ((try dsimp only at hSW); go_split_ands; go_simp <;> with_reducible rfl)
        try simp only [List.getElem_toArray, List.getElem_cons_succ, List.getElem_cons_zero, Act.put, List.setIfInBounds_toArray, List.set_cons_zero, List.set_cons_succ]
        refine wpAnyH_take (i := 5) (v := .agg #[.int .i64 g1, .int .u64 g2]) rfl (by kernel_rfl) (by kernel_rfl) (by kernel_rfl) (fun _ _ _ h => h) (Or.inl ⟨by rfl, fun W hSW => ?_⟩) hHeld ?_
        · ((try dsimp only at hSW); go_split_ands; go_simp <;> with_reducible rfl)
        try simp only [List.getElem_toArray, List.getElem_cons_succ, List.getElem_cons_zero, Act.put, List.setIfInBounds_toArray, List.set_cons_zero, List.set_cons_succ]
        refine wpAnyH_ready (rs := [1]) (by kernel_rfl) (by simp) ?_
        refine AllReadyH.cons rfl (fun K hK => ?_) ?_
        · obtain ⟨_, _, _, _, hk4, hk5, hk6, hk7⟩ := (HP0.out.on HR0.out).cells
          try simp only [List.getElem_toArray, List.getElem_cons_succ, List.getElem_cons_zero]
          go_simp
          refine hK.out _ _ ?_ (fun hHeld => ?_)
          · exact ⟨(HR0.out.cell (p := ⟨xb, xo + i * 2, none⟩) HXA.out).trans HX3.out.1, (HR0.out.cell (p := ⟨xb, xo + i * 2 + 1, none⟩) HXA.out).trans HX3.out.2⟩
          clear hK K
          try simp only [List.getElem_toArray, List.getElem_cons_succ, List.getElem_cons_zero, Act.put, List.setIfInBounds_toArray, List.set_cons_zero, List.set_cons_succ]
          refine wpAnyH_ready (rs := [6]) (by kernel_rfl) (by simp) ?_
          refine AllReadyH.cons rfl (fun K hK => ?_) ?_
          · try simp only [List.getElem_toArray, List.getElem_cons_succ, List.getElem_cons_zero]
            go_simp
            (go_at_call 21; refine (rjoin17_any _ xs w0.heap.size t1 g1 t2 g2 w0 ((HU.out.below (HP0.out.on HR0.out).1.1).mono (HP0.out.on HR0.out).1.1.size) (Nat.le_refl _) HX.out h64 HTI.out.1 HKI.out.1).mono ?_; rintro e wy1 ⟨rfl, hb⟩; rw [HJ1.out, HJ2.out])
            have F1_base := Lib.hid (HR0.out.trans (hb.mono HR0.out.size))
            clear hb
            try go_wp2_with fail
            refine hK.out _ _ ?_ (fun hHeld => ?_)
            · exact ⟨(F1_base.out.cell (p := ⟨xb, xo + i * 2, none⟩) HXA.out).trans HX3.out.1, (F1_base.out.cell (p := ⟨xb, xo + i * 2 + 1, none⟩) HXA.out).trans HX3.out.2⟩
            clear hK K
            try simp only [List.getElem_toArray, List.getElem_cons_succ, List.getElem_cons_zero, Act.put, List.setIfInBounds_toArray, List.set_cons_zero, List.set_cons_succ]
            refine wpAnyH_ready (rs := [7]) (by kernel_rfl) (by simp) ?_
            refine AllReadyH.cons rfl (fun K hK => ?_) ?_
            · clear hk4 hk5 hk6 hk7
              obtain ⟨_, _, _, _, hk4, hk5, hk6, hk7⟩ := (HP0.out.on F1_base.out).cells
              have HPN := Lib.hid ((HP0.out.on F1_base.out).put n1 n2)
              have hq := fun j => cell_blk (i := j) ((put_lab (HP0.out.on F1_base.out).2.2 n1 n2).2 xb (by have := HXW.out; omega))
              try simp only [List.getElem_toArray, List.getElem_cons_succ, List.getElem_cons_zero]
              go_simp
              generalize (wy1.setCell ⟨w.heap.size + 1 + 1 + 1, 0, none⟩ (.int .i64 n1)).setCell ⟨w.heap.size + 1 + 1 + 1, 1, none⟩ (.int .u64 n2) = w9 at HPN hq ⊢
              refine hK.out _ _ ?_ (fun hHeld => ?_)
              · exact ⟨(hq _).trans ((F1_base.out.cell (p := ⟨xb, xo + i * 2, none⟩) HXA.out).trans HX3.out.1), (hq _).trans ((F1_base.out.cell (p := ⟨xb, xo + i * 2 + 1, none⟩) HXA.out).trans HX3.out.2)⟩
              clear hK K
              try simp only [List.getElem_toArray, List.getElem_cons_succ, List.getElem_cons_zero, Act.put, List.setIfInBounds_toArray, List.set_cons_zero, List.set_cons_succ]
              refine wpAnyH_done (by kernel_rfl) ?_ _
              clear hHeld
              go_wp2_with fail
              go_roundw
              case rel => exact ⟨i + 1, by omega, by go_num, by rw [HTN.out]; exact HPN.out⟩
              case measure => simp [intOf]; omega
            exact AllReadyH.nil
          exact AllReadyH.nil
        exact AllReadyH.nil
    · have HE := Lib.hid (show i = args.length by omega)
      have i1 : ¬ ((i : Int) < args.length) := by omega
      have HTI := Lib.hid (HOK.out i hi)
      have HYY := Lib.hid (show (y1, y2) = if MM.hasB m 6 = true then ljoin xs (refT xs a m args i) (p1, p2) else refT xs a m args i by rw [HY.out]; unfold refJ; rw [HE.out, Int.toNat_natCast])
      obtain ⟨⟨t1, t2⟩, et⟩ : ∃ t, t = refT xs a m args i := ⟨_, rfl⟩
      rw [← et] at hc4 hc5 HTI HP HYY
      simp only at hc4 hc5
      clear et HY
      cases hh : MM.hasB m 6 with
      | false =>
        have HH := Lib.hid hh
        rw [hh, if_neg Bool.false_ne_true] at HYY
        have hy := HYY.out
        simp only [Prod.mk.injEq] at hy
        obtain ⟨rfl, rfl⟩ := hy
        clear hh HYY
        obtain ⟨hd0, hd1, hd2, hd3⟩ := one_lab HP.out.1.2.2.2.2
        go_wp2_with (go_at_call 49; refine (rhas_any _ _ _ HM.out.1 HM.out.2).mono ?_; rintro e w' ⟨rfl, rfl⟩; rw [HH.out])
        have hs := (put_lab HP.out.1.2.2.2.2 y1 y2).1
        have HF := Lib.hid ((HP.out.1.1.setCell (p := ⟨w.heap.size + 1 + 1, 0, none⟩) (by show w.heap.size ≤ w.heap.size + 1 + 1; omega) (.int .i64 y1)).setCell (p := ⟨w.heap.size + 1 + 1, 1, none⟩) (by show w.heap.size ≤ w.heap.size + 1 + 1; omega) (.int .u64 y2))
        refine bodyPost_ret (v := .agg #[.int .i64 y1, .int .u64 y2]) (results_cell_row rfl _ _ (w.heap.size + 1 + 1) 38 #[.int .i64 y1, .int .u64 y2] (0, 0) _ rfl hs Tryd.underlying38 rfl (by kernel_rfl)) rfl ?_
        exact ⟨rfl, HF.out⟩
      | true =>
        have HH := Lib.hid hh
        rw [hh, if_pos rfl] at HYY
        have HJ1 := Lib.hid (lj1 HR.out HTI.out HPK.out)
        have HJ2 := Lib.hid (show bits .or .u64 t2 p2 = (ljoin xs (t1, t2) (p1, p2)).2 from rfl)
        rw [← HYY.out] at HJ1 HJ2
        clear hh HYY
        obtain ⟨hd0, hd1, hd2, hd3⟩ := one_lab HP.out.1.2.2.2.2
        go_wp2_with (first
          | (go_at_call 49; refine (rhas_any _ _ _ HM.out.1 HM.out.2).mono ?_; rintro e w' ⟨rfl, rfl⟩; rw [HH.out])
          | (go_at_call 21; refine (rjoin17_any _ xs wr.heap.size t1 p1 t2 p2 wr ((HU.out.below HP.out.1.1).mono HP.out.1.1.size) (Nat.le_refl _) HX.out h64 HTI.out.1 HPK.out.1).mono ?_; rintro e w8 ⟨rfl, hb⟩; rw [HJ1.out, HJ2.out]; have HP8 := Lib.hid ((HP.out.on hb).put y1 y2); obtain ⟨_, _, _, _, hk4, hk5, hk6, hk7⟩ := (HP.out.on hb).cells; obtain ⟨_, _, _, _, hm4, hm5, hm6, hm7⟩ := HP8.out.cells; obtain ⟨hn0, hn1, hn2, hn3⟩ := one_lab HP8.out.1.2.2.2.2; clear hc0 hc1 hc2 hc3 hc4 hc5 hf4 hf5 hd0 hd1 hd2 hd3))
        have hs := (put_lab HP8.out.1.2.2.2.2 y1 y2).1
        have HF := Lib.hid ((HP8.out.1.1.setCell (p := ⟨w.heap.size + 1 + 1, 0, none⟩) (by show w.heap.size ≤ w.heap.size + 1 + 1; omega) (.int .i64 y1)).setCell (p := ⟨w.heap.size + 1 + 1, 1, none⟩) (by show w.heap.size ≤ w.heap.size + 1 + 1; omega) (.int .u64 y2))
        refine bodyPost_ret (v := .agg #[.int .i64 y1, .int .u64 y2]) (results_cell_row rfl _ _ (w.heap.size + 1 + 1) 38 #[.int .i64 y1, .int .u64 y2] (0, 0) _ rfl hs Tryd.underlying38 rfl (by kernel_rfl)) rfl ?_
        exact ⟨rfl, HF.out⟩
end Go.Proofs.YtodhoplchficpaaDoor
