import Derived.Test.YtodhoplchficpaaDoorSymF
import Derived.Test.YtodhoplchficpaaDoorSolZ
set_option linter.unusedSimpArgs false
set_option linter.unusedVariables false
/-! sym: joined, Join -/
namespace Go.Proofs.YtodhoplchficpaaDoor
open Go.RowKit
open SV (Lab SysOk Least labs sumOf mu sumP at' natsL askT askI fanN lok ljoin val le)
def JoinedE (xs : List Int) (l : List (Int × Int)) (ws : List Int) (W : World) (e : Ending) (V : World) : Prop := e = .returned (jRet (jB xs l) (joinVal xs l ws)) ∧ Below W.heap.size W V
theorem labC_zero {s : List Lab} (h : 0 < s.length) : (labC s)[0]? = some (.int .i64 ((at' s 0).1 : Int)) ∧ (labC s)[1]? = some (.int .u64 (at' s 0).2) := by
  cases s with
  | nil => simp at h
  | cons a s => simp [labC, at']
theorem two_lab {W : World} {N : Nat} {a m : Int} (h : W.heap[N]? = some (.cells #[.int .i64 a, .int .u64 m] 38)) : W.cell? ⟨N, 0, none⟩ = some (.int .i64 a) ∧ W.cell? ⟨N, 1, none⟩ = some (.int .u64 m) := ⟨(one_lab h).1, (one_lab h).2.1⟩
set_option maxRecDepth 100000 in
set_option maxHeartbeats 3200000 in
theorem joined_any {uv lv wv : Value} {xs : List Int} {l : List (Int × Int)} {ws : List Int} (W : World) (hu : Nums .u64 W.heap.size W uv xs) (hx : Wide xs) (hxl : xs.length ≤ big5) (hT : Tz W) (hl : LabRow W.heap.size W lv l) (hwl : WideL l) (hw : Row W.heap.size W wv ws) (h0 : 0 < l.length) (h1 : l.length ≤ 1000) (hws : ∀ w ∈ ws, 0 < w ∧ w < l.length) (hwn : ws.length ≤ 1000) :
    Calls Tryd.prog 39 #[uv, lv, wv] W fun e V => JoinedE xs l ws W e V := by
  obtain ⟨ua, uc, rfl⟩ := hu.form
  obtain ⟨la, lc, rfl⟩ := hl.form
  obtain ⟨wa, wc, rfl⟩ := hw.form
  have hmk := run_make_row' (P := Tryd.prog) 24 29 (.slice none 0 0) 24 (by kernel_rfl) Tryd.infoGRow rfl .i64 .i64 l.length (by omega) (by omega)
  have HU := Lib.hid hu
  have HX := Lib.hid hx
  have HW := Lib.hid hw
  have HSY := Lib.hid (toJ_sys (xs := xs) h0 h1 hws)
  have HLS := Lib.hid (fun (hr : LL.rightB xs = true) => toJ_least (ws := ws) hr HX.out hwl h0 h1 hws)
  have HSV := Lib.hid (fun w (hb : Below W.heap.size W w) {nv : Value} (hg : GraphM w.heap.size w nv (toJ (l.length - 1) ws)) => solve_any w ((hu.below hb).mono hb.size) hx hxl (hT.on hb) ((hl.below hb).mono hb.size) hwl hg (by omega) (by rw [toJ_len]; omega) (fun a => by rw [toJ_at]; by_cases e : a = 0 <;> simp [e]; omega))
  have HN := Lib.hid (show l.length - 1 + 1 = l.length by omega)
  have HN0 := Lib.hid h0
  have i1 : (0 : Int) < l.length := by omega
  have b0 : (l.length : Int) ≤ 1000 := by omega
  obtain ⟨z, ez⟩ : ∃ z, z = jB xs l := ⟨_, rfl⟩
  have HZ := Lib.hid ez
  unfold JoinedE
  rw [← ez]
  obtain ⟨⟨p1, p2⟩, ep⟩ : ∃ p, p = joinVal xs l ws := ⟨_, rfl⟩
  rw [← ep]
  obtain ⟨W3, eW3⟩ : ∃ W3, W3 = ((W.alloc (.cells #[.int .i64 0, .int .u64 0] 38)).alloc (.cells (madeCells #[.slice none 0 0] l.length) 29)).alloc (.cells #[.slice la l.length lc, .slice (some ⟨W.heap.size + 1, 0, none⟩) l.length l.length] 26) := ⟨_, rfl⟩
  have HB3 := Lib.hid (show Below W.heap.size W W3 by rw [eW3]; exact (((Below.refl _ _).alloc (Nat.le_refl _) _).alloc (by simp) _).alloc (by simp <;> omega) _)
  have HH0 := Lib.hid (show W3.heap[W.heap.size]? = some (.cells #[.int .i64 0, .int .u64 0] 38) by rw [eW3, heap_alloc_old _ _ (by simp <;> omega), heap_alloc_old _ _ (by simp), heap_alloc_new])
  have HH1 := Lib.hid (show W3.heap[W.heap.size + 1]? = some (.cells (madeCells #[.slice none 0 0] l.length) 29) by rw [eW3, heap_alloc_old _ _ (by simp)]; exact SS.new_at (by simp))
  have HH2 := Lib.hid (show W3.heap[W.heap.size + 1 + 1]? = some (.cells #[.slice la l.length lc, .slice (some ⟨W.heap.size + 1, 0, none⟩) l.length l.length] 26) by rw [eW3]; exact SS.new_at (by simp))
  have HZ3 := Lib.hid (show W3.heap.size = W.heap.size + 3 by rw [eW3]; simp)
  clear hu hx hxl hT hl hwl hw h0 h1 hws hwn ez
  go_enter Tryd.func39, Tryd.ntmps39
  go_upto_region 2 with fail
  rw [← eW3]
  clear eW3 hmk
  have hc1 := cell_of_row _ _ 1 _ _ _ HH2.out
  have hm0 : W3.cell? ⟨W.heap.size + 1, 0, none⟩ = some (.slice none 0 0) := by
    have h := HH1.out
    have h2 := HN0.out
    simp only [World.cell?, h]
    simp [madeCells, h2]
  have hf0 : W3.frozen? ⟨W.heap.size + 1, 0, none⟩ = false := by
    have h := HH1.out
    simp [World.frozen?, h]
  go_upto_region 3 with fail
  have HB4 := Lib.hid (HB3.out.setCell (p := ⟨W.heap.size + 1, 0, none⟩) (by show W.heap.size ≤ W.heap.size + 1; omega) (.slice wa ws.length wc))
  have HG4 := Lib.hid (SS.set_obj (c := 0) (.slice wa ws.length wc) HH1.out)
  have HH04 := Lib.hid ((Below.heap_setCell W3 ⟨W.heap.size + 1, 0, none⟩ (.slice wa ws.length wc) W.heap.size (by show W.heap.size ≠ W.heap.size + 1; omega)).trans HH0.out)
  have HH24 := Lib.hid ((Below.heap_setCell W3 ⟨W.heap.size + 1, 0, none⟩ (.slice wa ws.length wc) (W.heap.size + 1 + 1) (by show W.heap.size + 1 + 1 ≠ W.heap.size + 1; omega)).trans HH2.out)
  have HZ4 := Lib.hid (show (W3.setCell ⟨W.heap.size + 1, 0, none⟩ (.slice wa ws.length wc)).heap.size = W.heap.size + 3 from by rw [← HZ3.out]; simp)
  clear hc1 hm0 hf0
  generalize W3.setCell ⟨W.heap.size + 1, 0, none⟩ (.slice wa ws.length wc) = W4 at HB4 HG4 HH04 HH24 HZ4 ⊢
  have hd0 := cell_of_row _ _ 0 _ _ _ HH24.out
  have hd1 := cell_of_row _ _ 1 _ _ _ HH24.out
  have HGM := Lib.hid (show GraphM W4.heap.size W4 (.slice (some ⟨W.heap.size + 1, 0, none⟩) l.length l.length) (toJ (l.length - 1) ws) from by
    have h := HG4.out
    rw [← HN.out] at h
    have h2 := toJ_mem (ws := ws) h ((HW.out.below HB4.out).mono HB4.out.size)
    rw [HN.out] at h2
    exact h2)
  cases z with
  | false =>
    go_wp2_with (go_at_call 13; refine (HSV.out _ HB4.out HGM.out).mono ?_; intro e w5 hse; obtain ⟨hb5, rfl⟩ := solveE_no hse (by rw [HSY.out, ← HZ.out]); have HB5 := Lib.hid (HB4.out.trans (hb5.mono HB4.out.size)); have HH05 := Lib.hid ((hb5.block _ (by rw [HZ4.out]; omega)).trans HH04.out); obtain ⟨hr0, hr1, hr2, hr3⟩ := one_lab HH05.out; clear hse hb5 hd0 hd1)
    have hs := (put_lab HH05.out 0 0).1
    have HF := Lib.hid (show Below W.heap.size W ((w5.setCell ⟨W.heap.size, 0, none⟩ (.int .i64 0)).setCell ⟨W.heap.size, 1, none⟩ (.int .u64 0)) from (HB5.out.setCell (p := ⟨W.heap.size, 0, none⟩) (Nat.le_refl _) _).setCell (p := ⟨W.heap.size, 1, none⟩) (Nat.le_refl _) _)
    generalize (w5.setCell ⟨W.heap.size, 0, none⟩ (.int .i64 0)).setCell ⟨W.heap.size, 1, none⟩ (.int .u64 0) = w6 at hs HF ⊢
    obtain ⟨q0, q1⟩ := two_lab hs
    refine bodyPost_ret (v := .tuple #[.agg #[.int .i64 0, .int .u64 0], .bool false]) (by simp [results, Tryd.results39, go_sem, q0, q1]) rfl ?_
    exact ⟨rfl, HF.out⟩
  | true =>
    go_wp2_with (go_at_call 13; refine (HSV.out _ HB4.out HGM.out).mono ?_; intro e w5 hse; obtain ⟨hb5, sol, kk, ma, mc, rfl, hown, hL, hsl, hok, hk1, hk2⟩ := solveE_yes hse (by rw [HSY.out, ← HZ.out]) (by have h := HZ.out; unfold jB at h; exact ((Bool.and_eq_true _ _).mp h.symm).1) HX.out; have HB5 := Lib.hid (HB4.out.trans (hb5.mono HB4.out.size)); have HH05 := Lib.hid ((hb5.block _ (by rw [HZ4.out]; omega)).trans HH04.out); obtain ⟨hr0, hr1, hr2, hr3⟩ := one_lab HH05.out; have hpv := HLS.out (by have h := HZ.out; unfold jB at h; exact ((Bool.and_eq_true _ _).mp h.symm).1) (by rw [HSY.out, ← HZ.out]) hL; rw [← ep] at hpv; obtain ⟨g, gc, eg⟩ := SS.own_some hown HN0.out; cases eg; have hlz := labC_zero (s := sol) (by rw [hsl]; exact HN0.out); rw [hpv] at hlz; have hl1 := own_cellZ hown hlz.1; have hl2 := own_cellZ hown hlz.2; clear hse hb5 hd0 hd1 hk1 hk2 hL hown hok hsl hlz hpv)
    have hs := (put_lab HH05.out p1 p2).1
    have HF := Lib.hid (show Below W.heap.size W ((w5.setCell ⟨W.heap.size, 0, none⟩ (.int .i64 p1)).setCell ⟨W.heap.size, 1, none⟩ (.int .u64 p2)) from (HB5.out.setCell (p := ⟨W.heap.size, 0, none⟩) (Nat.le_refl _) _).setCell (p := ⟨W.heap.size, 1, none⟩) (Nat.le_refl _) _)
    generalize (w5.setCell ⟨W.heap.size, 0, none⟩ (.int .i64 p1)).setCell ⟨W.heap.size, 1, none⟩ (.int .u64 p2) = w6 at hs HF ⊢
    obtain ⟨q0, q1⟩ := two_lab hs
    refine bodyPost_ret (v := .tuple #[.agg #[.int .i64 p1, .int .u64 p2], .bool true]) (by simp [results, Tryd.results39, go_sem, q0, q1]) rfl ?_
    exact ⟨rfl, HF.out⟩
end Go.Proofs.YtodhoplchficpaaDoor
