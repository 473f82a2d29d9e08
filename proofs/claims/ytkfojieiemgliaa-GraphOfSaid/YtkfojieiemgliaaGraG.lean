import Derived.Test.YtkfojieiemgliaaGraF
set_option linter.unusedSimpArgs false
set_option linter.unusedVariables false
/-! graphs: the blocks of a function, the reference -/
namespace Go.Proofs.Ytkfojieiemgliaa
open Go.RowKit
/-- a row that lies in new memory -/
structure NewRow (wr w1 : World) (v : Value) (row : List Int) : Prop where
  below : Below wr.heap.size wr w1
  own : w1.ownsRow wr.heap.size 3 1 v row.length (intsV row)
theorem NewRow.first {wr w1 : World} {o : Obj} {o2 : Obj} {v : Value} {x : Int} (ho : w1.ownsRow wr.heap.size 3 1 v (0 + 1) ([] ++ [.int .i64 x])) (hg : ((wr.alloc o).alloc o2).grownBy w1 (Value.slice none 0 0).ownBlock) : NewRow wr w1 v [x] :=
  ⟨(((Below.refl _ _).alloc (Nat.le_refl _) _).alloc (by simp) _).grown hg (by simp; omega) (fun k e => by cases e), ho⟩
theorem NewRow.next {wr w1 w2 : World} {o : Obj} {v v2 : Value} {x y : Int} (h : NewRow wr w1 v [x]) (ho : w2.ownsRow wr.heap.size 3 1 v2 (1 + 1) ([.int .i64 x] ++ [.int .i64 y])) (hg : (w1.alloc o).grownBy w2 v.ownBlock) : NewRow wr w2 v2 [x, y] :=
  ⟨(h.below.alloc h.below.size _).grown hg (by have := h.below.size; simp; omega) (fun k e => (h.own.lt k e).1), ho⟩
theorem NewRow.none {wr : World} (o : Obj) : NewRow wr (wr.alloc o) (.slice none 0 0) [] := ⟨(Below.refl _ _).alloc (Nat.le_refl _) _, World.ownsRow_nil _ _ _ _⟩
theorem NewRow.out {B n : Nat} {wr w1 : World} {v u : Value} {row : List Int} {vs : List Value} (h : NewRow wr w1 v row) (hO : wr.ownsRow B 32 1 u n vs) : w1.ownsRow B 32 1 u n vs :=
  hO.kept (row := Option.none) ⟨h.below.os, h.below.tape, h.below.output, h.below.size, fun k hk _ => h.below.block k hk⟩ (own_em0 _)
theorem NewRow.app {B n : Nat} {W wr w1 w2 : World} {u v2 : Value} {row : List Int} {vs : List Value} {to : List (List Int)} {a : Option Addr} {cap : Nat} {o : Obj} (h : NewRow wr w1 (.slice a row.length cap) row) (hB : Below B W wr) (hs : B ≤ wr.heap.size) (hR : GG.Rows B wr vs to) (hO : wr.ownsRow B 32 1 u n vs)
    (ho : w2.ownsRow B 32 1 v2 (n + 1) (vs ++ [.slice a row.length cap])) (hg : (w1.alloc o).grownBy w2 u.ownBlock) :
    w2.ownsRow B 32 1 v2 (n + 1) (vs ++ [.slice a row.length cap]) ∧ GG.Rows B w2 (vs ++ [.slice a row.length cap]) (to ++ [row]) ∧ Below B W w2 :=
  rows_app (hB.trans (h.below.mono hs)) (Nat.le_trans hs h.below.size) (GG.Rows.grown hR (b := Option.none) ⟨h.below.os, h.below.tape, h.below.output, h.below.size, fun k hk _ => h.below.block k hk⟩ (fun k e => by cases e)) (h.out hO) (own_base hs h.own) ho hg
theorem cell_one2 (w : World) (v : Value) (t : TypeId) {b : Nat} (h : w.heap.size = b) : ∀ (j : Nat) (u : Value), [v][j]? = some u → (w.alloc (.cells #[v] t)).cell? ((⟨b, 0, Option.none⟩ : Addr).add j) = some u := by
  subst h; exact GG.cell_one w v t
theorem cell_new {wr w1 : World} {o o2 : Obj} (hg : ((wr.alloc o).alloc o2).grownBy w1 (Value.slice none 0 0).ownBlock) (c : Nat) {u : Value} (h : (wr.alloc o).cell? ⟨wr.heap.size, c, Option.none⟩ = some u) : w1.cell? ⟨wr.heap.size, c, Option.none⟩ = some u := by
  rw [← h]
  unfold World.cell?
  rw [hg.block wr.heap.size (by simp; omega) (by intro e; cases e), heap_alloc_old _ _ (by simp)]

set_option maxRecDepth 100000 in
set_option maxHeartbeats 3200000 in
theorem rof_any {v : Value} {bs : List (List OpV)} (x y : Int) (W : World) (hv : BlocksM W.heap.size W v bs) (hl : bs.length ≤ 4294967296) (hll : ∀ b ∈ bs, b.length ≤ 17592186044416) :
    Calls Try.prog 28 #[.agg #[.int .i64 x, .int .i64 y, v]] W fun e W' => OfP bs e W W' := by
  have hz := fun (w : World) => run_zero57 w
  obtain ⟨va, vc, rfl⟩ := hv.form
  obtain ⟨j0, hj0, hy0, hy1, hy2⟩ := info_parts Try.infoGRow
  obtain ⟨i0, hi0, hz0, hz1, hz2⟩ := info_parts Try.infoGInt
  obtain ⟨W0, eW0⟩ : ∃ W0, W0 = W.alloc (.cells #[.int .i64 x, .int .i64 y, .slice va bs.length vc] 40) := ⟨_, rfl⟩
  have HB0 := Lib.hid (show Below W.heap.size W W0 by rw [eW0]; exact (Below.refl _ _).alloc (Nat.le_refl _) _)
  have HV0 := Lib.hid (hv.on HB0.out HB0.out.size)
  have HC0 := Lib.hid (show W0.cell? ⟨W.heap.size, 2, none⟩ = some (.slice va bs.length vc) by rw [eW0]; simp only [World.cell?, heap_alloc_new]; rfl)
  have HW0 := Lib.hid (show W.heap.size < W0.heap.size by rw [eW0]; simp)
  have HLL := Lib.hid (fun i (hi : i < bs.length) => hll _ (GG.getD_mem (d := []) hi))
  have EW0 := Lib.hid eW0
  clear hv hll eW0
  go_enter Try.func28, Try.ntmps28
  go_wp2_with fail
  rw [← EW0.out]
  go_loopw [4, 5] (fun o k wr => ∃ (i : Nat) (vs : List Value), i ≤ bs.length ∧ k = .int .i64 (i : Int) ∧ wr.ownsRow W0.heap.size 32 1 o i vs ∧ GG.Rows W0.heap.size wr vs (waysI bs i) ∧ Below W0.heap.size W0 wr ∧ RowKit.Hid (∀ j, j < i → (leadsI (bs[j]?.getD [])).isSome = true)) (fun _ k _ => bs.length - (intOf k).toNat)
  case atStart => exact ⟨0, [], Nat.zero_le _, rfl, World.ownsRow_nil _ _ _ _, GG.Rows.nil _ _, Below.refl _ _, Lib.hid (fun j hj => absurd hj (Nat.not_lt_zero _))⟩
  case round =>
    obtain ⟨i, vs, hi, rfl, hO, hR, hB, HOK⟩ := hrel
    have HO := Lib.hid hO
    have HR := Lib.hid hR
    have HB := Lib.hid hB
    have hx0 : wr.cell? ⟨W.heap.size, 2, none⟩ = some (.slice va bs.length vc) := (HB.out.cell (p := ⟨W.heap.size, 2, none⟩) HW0.out).trans HC0.out
    clear hO hR hB
    by_cases hlt : i < bs.length
    · obtain ⟨vb, vo, ba, bc, e1, hvb, hx1, hops⟩ := (HV0.out.below HB.out).at hlt
      subst e1
      have i1 : (0 : Int) ≤ i ∧ (i : Int) < bs.length := by omega
      have b1 := HLL.out i hlt
      have HWS := Lib.hid (waysI_succ hlt)
      have HNO := Lib.hid (fun h => okI_no hlt h)
      obtain ⟨r, er⟩ : ∃ r, r = bs[i]?.getD [] := ⟨_, rfl⟩
      rw [← er] at hx1 hops b1 HWS HNO
      have HER := Lib.hid er
      by_cases h0 : r.length = 0
      · have HN := Lib.hid (ofB_no (HNO.out (by rw [List.length_eq_zero_iff.1 h0]; rfl)))
        clear er hops
        go_wp2_with fail
        go_ret2
        exact ⟨_, by rw [HN.out.1]; rfl, by rw [HN.out.2]; exact graphM_nil _ _, HB0.out.trans (HB.out.mono HB0.out.size)⟩
      · obtain ⟨p, hp⟩ : ∃ p, r.length = p + 1 := ⟨r.length - 1, by omega⟩
        obtain ⟨blk, off, cap, q, e2, hbk, hlast, hc⟩ := hops.last hp
        rw [hp] at e2 hx1
        cases e2
        have hbw := hbk
        have HL := Lib.hid (leadsI_last hlast)
        have HC := Lib.hid hc
        have h1 := op_cell wr q 0 rfl
        have h2 := op_cell wr q 3 rfl
        have h3 := op_cell wr q 4 rfl
        have HQ2 := Lib.hid h2
        have HQ3 := Lib.hid h3
        have HQ1 := Lib.hid h1
        have hpb : p ≤ 17592186044416 := by omega
        have HS := Lib.hid (show (leadsI r).isSome = true → ∀ j, j < i + 1 → (leadsI (bs[j]?.getD [])).isSome = true from fun hs j hj => (Nat.lt_succ_iff_lt_or_eq.1 hj).elim (HOK.out j) (fun e => by rw [e, ← HER.out]; exact hs))
        clear hc hlast h0 er hops hbw
        by_cases klo : q.k < 11
        · have HN := Lib.hid (ofB_no (HNO.out (by rw [HL.out, if_neg (by omega), if_neg (by omega), if_neg (by omega)])))
          go_wp2_with (first
            | (refine wpList_load57 rfl (.tmp 31) rfl blk (off + p * 9) rfl q (fun c u hu => HC.out c u hu) ?_)
            | (refine wpList_store_row rfl 57 (.tmp 7) (.tmp 32) rfl _ (opCells q).toArray rfl rfl 57 zop (heap_alloc_new _ _) (by kernel_rfl) rfl (op_one q) ?_
               rw [setRow_new]))
          go_ret2
          exact ⟨_, by rw [HN.out.1]; rfl, by rw [HN.out.2]; exact graphM_nil _ _, HB0.out.trans ((HB.out.alloc HB.out.size _).mono HB0.out.size)⟩
        · by_cases khi : 13 < q.k
          · have HN := Lib.hid (ofB_no (HNO.out (by rw [HL.out, if_neg (by omega), if_neg (by omega), if_neg (by omega)])))
            go_wp2_with (first
              | (refine wpList_load57 rfl (.tmp 31) rfl blk (off + p * 9) rfl q (fun c u hu => HC.out c u hu) ?_)
              | (refine wpList_store_row rfl 57 (.tmp 7) (.tmp 32) rfl _ (opCells q).toArray rfl rfl 57 zop (heap_alloc_new _ _) (by kernel_rfl) rfl (op_one q) ?_
                 rw [setRow_new]))
            go_ret2
            exact ⟨_, by rw [HN.out.1]; rfl, by rw [HN.out.2]; exact graphM_nil _ _, HB0.out.trans ((HB.out.alloc HB.out.size _).mono HB0.out.size)⟩
          · have hko : q.k = 13 ∨ q.k = 11 ∨ q.k = 12 := by omega
            rcases hko with k13 | k11 | k12
            · have HE := Lib.hid (show leadsI r = some [] by rw [HL.out, if_pos k13])
              have HF := Lib.hid (NewRow.none (wr := wr) (.cells (opCells q).toArray 57))
              go_wp2_with (first
                | (refine wpList_load57 rfl (.tmp 31) rfl blk (off + p * 9) rfl q (fun c u hu => HC.out c u hu) ?_)
                | (refine wpList_store_row rfl 57 (.tmp 7) (.tmp 32) rfl _ (opCells q).toArray rfl rfl 57 zop (heap_alloc_new _ _) (by kernel_rfl) rfl (op_one q) ?_
                   rw [setRow_new])
                | (at_builtin
                   refine GG.wpList_append_any rfl _ _ 22 rfl W0.heap.size 32 j0 (.slice none 0 0) 1 24 Try.underlying22 hj0 hy0 hy1 hy2 rfl (by decide) u4 i vs rfl ((HF.out.out HO.out).alloc _) (.slice (some ⟨_, 0, none⟩) 1 1) 1 [.slice none 0 0] rfl rfl (.inr ⟨_, _, rfl, cell_one2 _ _ _ (by simp)⟩) (by intro u hu; rw [List.mem_singleton.1 hu]; rfl) (by unfold maxLen; omega) (by omega) (by have h1 := HB.out.size; have h2 := HF.out.below.size; simp at h2 ⊢; omega) ?_
                   intro v2 w2 ho hg
                   have HD := Lib.hid (HF.out.app (row := []) HB.out HB.out.size HR.out HO.out ho hg)
                   clear ho hg))
              go_roundw
              case rel => exact ⟨i + 1, _, by omega, by go_num, HD.out.1, by rw [← HWS.out, HE.out]; exact HD.out.2.1, HD.out.2.2, Lib.hid (HS.out (by rw [HE.out]; rfl))⟩
              case measure => simp [intOf]; omega
            · have HE := Lib.hid (show leadsI r = some [q.r] by rw [HL.out, if_neg (by omega), if_pos k11])
              go_wp2_with (first
                | (refine wpList_load57 rfl (.tmp 31) rfl blk (off + p * 9) rfl q (fun c u hu => HC.out c u hu) ?_)
                | (refine wpList_store_row rfl 57 (.tmp 7) (.tmp 32) rfl _ (opCells q).toArray rfl rfl 57 zop (heap_alloc_new _ _) (by kernel_rfl) rfl (op_one q) ?_
                   rw [setRow_new])
                | (at_builtin
                   refine GG.wpList_append_any rfl _ _ 32 rfl wr.heap.size 3 i0 (.int .i64 0) 1 8 Try.underlying32 hi0 hz0 hz1 hz2 rfl (by decide) (.slice none 0 0) 0 [] rfl (World.ownsRow_nil _ _ _ _) (.slice (some ⟨_, 0, none⟩) 1 1) 1 [.int .i64 q.r] rfl rfl (.inr ⟨_, _, rfl, cell_one2 _ _ _ (by simp)⟩) (by intro u hu; rw [List.mem_singleton.1 hu]; rfl) (by unfold maxLen; omega) (by omega) (by simp; omega) ?_
                   intro v1 w1 ho hg
                   obtain ⟨a1, c1, rfl⟩ := GG.own_slice ho
                   have HF := Lib.hid (NewRow.first ho hg)
                   have g1 := cell_new hg 0 HQ1.out
                   clear ho hg)
                | (at_builtin
                   refine GG.wpList_append_any rfl _ _ 22 rfl W0.heap.size 32 j0 (.slice none 0 0) 1 24 Try.underlying22 hj0 hy0 hy1 hy2 rfl (by decide) u4 i vs rfl ((HF.out.out HO.out).alloc _) (.slice (some ⟨_, 0, none⟩) 1 1) 1 [.slice a1 1 c1] rfl rfl (.inr ⟨_, _, rfl, GG.cell_one _ _ _⟩) (by intro u hu; rw [List.mem_singleton.1 hu]; rfl) (by unfold maxLen; omega) (by omega) (by have h1 := HB.out.size; have h2 := HF.out.below.size; simp at h2 ⊢; omega) ?_
                   intro v2 w2 ho hg
                   have HD := Lib.hid (HF.out.app (row := [q.r]) HB.out HB.out.size HR.out HO.out ho hg)
                   clear ho hg))
              go_roundw
              case rel => exact ⟨i + 1, _, by omega, by go_num, HD.out.1, by rw [← HWS.out, HE.out]; exact HD.out.2.1, HD.out.2.2, Lib.hid (HS.out (by rw [HE.out]; rfl))⟩
              case measure => simp [intOf]; omega
            · have LD := Lib.hid HL.out
              by_cases hra : q.r = q.a
              · have HE := Lib.hid (show leadsI r = some [q.r] by rw [HL.out, if_neg (by omega), if_neg (by omega), if_pos k12, if_pos hra])
                have t4 : (q.a == q.r) = true := beq_iff_eq.2 hra.symm
                clear hra
                go_wp2_with (first
                  | (refine wpList_load57 rfl (.tmp 31) rfl blk (off + p * 9) rfl q (fun c u hu => HC.out c u hu) ?_)
                  | (refine wpList_store_row rfl 57 (.tmp 7) (.tmp 32) rfl _ (opCells q).toArray rfl rfl 57 zop (heap_alloc_new _ _) (by kernel_rfl) rfl (op_one q) ?_
                     rw [setRow_new])
                  | (at_builtin
                     refine GG.wpList_append_any rfl _ _ 32 rfl wr.heap.size 3 i0 (.int .i64 0) 1 8 Try.underlying32 hi0 hz0 hz1 hz2 rfl (by decide) (.slice none 0 0) 0 [] rfl (World.ownsRow_nil _ _ _ _) (.slice (some ⟨_, 0, none⟩) 1 1) 1 [.int .i64 q.r] rfl rfl (.inr ⟨_, _, rfl, cell_one2 _ _ _ (by simp)⟩) (by intro u hu; rw [List.mem_singleton.1 hu]; rfl) (by unfold maxLen; omega) (by omega) (by simp; omega) ?_
                     intro v1 w1 ho hg
                     obtain ⟨a1, c1, rfl⟩ := GG.own_slice ho
                     have HF := Lib.hid (NewRow.first ho hg)
                     have g1 := cell_new hg 0 HQ1.out
                     have g2 := cell_new hg 3 HQ2.out
                     have g3 := cell_new hg 4 HQ3.out
                     clear ho hg)
                  | (at_builtin
                     refine GG.wpList_append_any rfl _ _ 22 rfl W0.heap.size 32 j0 (.slice none 0 0) 1 24 Try.underlying22 hj0 hy0 hy1 hy2 rfl (by decide) u4 i vs rfl ((HF.out.out HO.out).alloc _) (.slice (some ⟨_, 0, none⟩) 1 1) 1 [.slice a1 1 c1] rfl rfl (.inr ⟨_, _, rfl, GG.cell_one _ _ _⟩) (by intro u hu; rw [List.mem_singleton.1 hu]; rfl) (by unfold maxLen; omega) (by omega) (by have h1 := HB.out.size; have h2 := HF.out.below.size; simp at h2 ⊢; omega) ?_
                     intro v2 w2 ho hg
                     have HD := Lib.hid (HF.out.app (row := [q.r]) HB.out HB.out.size HR.out HO.out ho hg)
                     clear ho hg))
                go_roundw
                case rel => exact ⟨i + 1, _, by omega, by go_num, HD.out.1, by rw [← HWS.out, HE.out]; exact HD.out.2.1, HD.out.2.2, Lib.hid (HS.out (by rw [HE.out]; rfl))⟩
                case measure => simp [intOf]; omega
              · have hra2 : ¬ q.a = q.r := fun e => hra e.symm
                have HE := Lib.hid (show leadsI r = some [q.r, q.a] by rw [HL.out, if_neg (by omega), if_neg (by omega), if_pos k12, if_neg hra])
                go_wp2_with (first
                  | (refine wpList_load57 rfl (.tmp 31) rfl blk (off + p * 9) rfl q (fun c u hu => HC.out c u hu) ?_)
                  | (refine wpList_store_row rfl 57 (.tmp 7) (.tmp 32) rfl _ (opCells q).toArray rfl rfl 57 zop (heap_alloc_new _ _) (by kernel_rfl) rfl (op_one q) ?_
                     rw [setRow_new])
                  | (at_builtin
                     refine GG.wpList_append_any rfl _ _ 32 rfl wr.heap.size 3 i0 (.int .i64 0) 1 8 Try.underlying32 hi0 hz0 hz1 hz2 rfl (by decide) (.slice none 0 0) 0 [] rfl (World.ownsRow_nil _ _ _ _) (.slice (some ⟨_, 0, none⟩) 1 1) 1 [.int .i64 q.r] rfl rfl (.inr ⟨_, _, rfl, cell_one2 _ _ _ (by simp)⟩) (by intro u hu; rw [List.mem_singleton.1 hu]; rfl) (by unfold maxLen; omega) (by omega) (by simp; omega) ?_
                     intro v1 w1 ho hg
                     obtain ⟨a1, c1, rfl⟩ := GG.own_slice ho
                     have HF := Lib.hid (NewRow.first ho hg)
                     have g1 := cell_new hg 0 HQ1.out
                     have g2 := cell_new hg 3 HQ2.out
                     have g3 := cell_new hg 4 HQ3.out
                     clear ho hg)
                  | (at_builtin
                     refine GG.wpList_append_any rfl _ _ 32 rfl wr.heap.size 3 i0 (.int .i64 0) 1 8 Try.underlying32 hi0 hz0 hz1 hz2 rfl (by decide) (.slice a1 1 c1) 1 [.int .i64 q.r] rfl (HF.out.own.alloc _) (.slice (some ⟨_, 0, none⟩) 1 1) 1 [.int .i64 q.a] rfl rfl (.inr ⟨_, _, rfl, GG.cell_one _ _ _⟩) (by intro u hu; rw [List.mem_singleton.1 hu]; rfl) (by unfold maxLen; omega) (by omega) (by have h2 := HF.out.below.size; simp at h2 ⊢; omega) ?_
                     intro v3 w3 ho hg
                     obtain ⟨a3, c3, rfl⟩ := GG.own_slice ho
                     have HF2 := Lib.hid (HF.out.next ho hg)
                     clear ho hg)
                  | (at_builtin
                     refine GG.wpList_append_any rfl _ _ 22 rfl W0.heap.size 32 j0 (.slice none 0 0) 1 24 Try.underlying22 hj0 hy0 hy1 hy2 rfl (by decide) u4 i vs rfl ((HF2.out.out HO.out).alloc _) (.slice (some ⟨_, 0, none⟩) 1 1) 1 [.slice a3 2 c3] rfl rfl (.inr ⟨_, _, rfl, GG.cell_one _ _ _⟩) (by intro u hu; rw [List.mem_singleton.1 hu]; rfl) (by unfold maxLen; omega) (by omega) (by have h1 := HB.out.size; have h2 := HF2.out.below.size; simp at h2 ⊢; omega) ?_
                     intro v2 w2 ho hg
                     have HD := Lib.hid (HF2.out.app (row := [q.r, q.a]) HB.out HB.out.size HR.out HO.out ho hg)
                     clear ho hg))
                go_roundw
                case rel => exact ⟨i + 1, _, by omega, by go_num, HD.out.1, by rw [← HWS.out, HE.out]; exact HD.out.2.1, HD.out.2.2, Lib.hid (HS.out (by rw [HE.out]; rfl))⟩
                case measure => simp [intOf]; omega
    · have hie : i = bs.length := by omega
      have HOKB := Lib.hid (ofB_yes (okI_yes fun j hj => HOK.out j (by omega)))
      have HG := Lib.hid (show GraphM wr.heap.size wr u4 (waysI bs bs.length) by
        have h1 := HR.out
        have h2 := HO.out
        rw [hie] at h1 h2
        have h3 : (waysI bs bs.length).length = bs.length := waysI_len (Nat.le_refl _)
        exact h1.graph (by rw [h3]; exact h2))
      have HSM := Lib.hid (waysI_small (Nat.le_refl bs.length) (by omega))
      clear HO HR
      cases hr : GG.rightG (waysI bs bs.length)
      · have HRI := Lib.hid hr
        have HF := Lib.hid (show ofB bs = false ∧ ofL bs = [] from ⟨by rw [HOKB.out, hr], by unfold ofL; rw [if_neg (by rw [HOKB.out, hr]; simp)]⟩)
        clear hr hie
        go_wp2_with (go_at_call 10; refine (rrightG_any _ (waysI bs bs.length) _ _ HG.out HSM.out).mono ?_; rintro e w' ⟨rfl, d, rfl⟩; rw [HRI.out])
        go_ret2
        exact ⟨_, by rw [HF.out.1]; rfl, by rw [HF.out.2]; exact graphM_nil _ _, HB0.out.trans ((below_dN HB.out d).mono HB0.out.size)⟩
      · have HRI := Lib.hid hr
        have HF := Lib.hid (show ofB bs = true ∧ ofL bs = waysI bs bs.length from ⟨by rw [HOKB.out, hr], by unfold ofL; rw [if_pos (by rw [HOKB.out, hr])]⟩)
        clear hr hie
        go_wp2_with (go_at_call 10; refine (rrightG_any _ (waysI bs bs.length) _ _ HG.out HSM.out).mono ?_; rintro e w' ⟨rfl, d, rfl⟩; have HG1 := Lib.hid (HG.out.on (below_dN (Below.refl wr.heap.size wr) d) (Nat.le_refl _)); rw [HRI.out])
        go_ret2
        exact ⟨_, by rw [HF.out.1]; rfl, by rw [HF.out.2]; exact HG1.out, HB0.out.trans ((below_dN HB.out d).mono HB0.out.size)⟩
end Go.Proofs.Ytkfojieiemgliaa
