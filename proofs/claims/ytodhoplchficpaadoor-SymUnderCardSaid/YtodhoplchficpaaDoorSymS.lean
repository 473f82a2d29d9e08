import Derived.Test.YtodhoplchficpaaDoorSymQ
set_option linter.unusedSimpArgs false
set_option linter.unusedVariables false
/-! layer 19's reference: Low -/
namespace Go.Proofs.YtodhoplchficpaaDoor
open Go.RowKit
open SV (Lab SysOk Least labs sumOf mu sumP at' natsL askT askI fanN lok ljoin val le Bnd)
/-- a label in its box -/
def LabBx (W : World) (a m : Int) (V : World) : Prop := Below W.heap.size W V ∧ W.heap.size + 1 ≤ V.heap.size ∧ V.heap[W.heap.size]? = some (.cells #[.int .i64 a, .int .u64 m] 38)
theorem LabBx.on {W U V : World} {a m : Int} (h : LabBx W a m U) (hb : Below U.heap.size U V) : LabBx W a m V :=
  ⟨h.1.trans (hb.mono h.1.size), Nat.le_trans h.2.1 hb.size, (hb.block _ (by have := h.2.1; omega)).trans h.2.2⟩
theorem LabBx.drew {W U : World} {a m : Int} (h : LabBx W a m U) : LabBx W a m U.drew := ⟨h.1.drew, h.2.1, h.2.2⟩
theorem LabBx.cells {W V : World} {a m : Int} (h : LabBx W a m V) : V.cell? ⟨W.heap.size, 0, none⟩ = some (.int .i64 a) ∧ V.cell? ⟨W.heap.size, 1, none⟩ = some (.int .u64 m) := two_lab h.2.2
theorem labBx_start (W : World) (a m : Int) : LabBx W a m (W.alloc (.cells #[.int .i64 a, .int .u64 m] 38)) := ⟨(Below.refl _ _).alloc (Nat.le_refl _) _, by simp, heap_alloc_new _ _⟩
theorem lows_all {n : Nat} {l : List Int} : (lows l).all (labOk n) = levB n l := by
  unfold lows levB
  rw [List.all_map]
  rfl
theorem run_field_lab (a m : Int) (w : World) : (Instr.field 38 (.agg #[.int .i64 a, .int .u64 m]) 0).run Tryd.prog w = .ok (.int .i64 a) w := by
  have c2 : Tryd.prog.cellsOf 3 = 1 := by kernel_rfl
  have c3 : (Tryd.prog.info? 3).map (fun i => (i.zero, i.size, i.bytes)) = some (some (.int .i64 0), 1, 8) := by kernel_rfl
  unfold Instr.field
  simp [run_underlying Tryd.underlying38, asAgg, go_sem]
set_option maxRecDepth 100000 in
set_option maxHeartbeats 3200000 in
theorem rlow_any {uv av : Value} {xs : List Int} {m : Int} {a pc : Nat} {args : List Int} (W : World) (hu : Nums .u64 W.heap.size W uv xs) (hx : Wide xs) (hr : LL.rightB xs = true) (hav : Row W.heap.size W av args) (hal : levB xs.length args = true) (hm : 0 ≤ m ∧ m ≤ 18446744073709551615) (ha : a < xs.length) (hp : pc < xs.length) (hn : args.length ≤ 64) :
    Calls Tryd.prog 28 #[uv, .agg #[.int .i64 a, .int .u64 m], av, .int .i64 pc] W fun e V => e = .returned (.int .i64 ((refJ xs a m (lows args) ((pc : Int), 0)).1 : Int)) ∧ Below W.heap.size W V := by
  obtain ⟨ua, uc, rfl⟩ := hu.form
  obtain ⟨aa, ac, rfl⟩ := hav.form
  obtain ⟨i0, hi0, hz0, hz1, hz2⟩ := info_parts infoLab
  have HA := Lib.hid hav
  have HP := Lib.hid (fun w (hb : Below W.heap.size W w) {lv : Value} (hl : LabRow w.heap.size w lv (lows args)) => rput_any (a := a) (m := m) (p1 := pc) (p2 := 0) w ((hu.below hb).mono hb.size) hx hr hl (lows_wide args) (by rw [lows_all]; exact hal) hm ⟨Int.le_refl 0, by show (0 : Int) ≤ _; decide⟩ ha hp (by rw [lows_len]; exact hn))
  have b0 : (args.length : Int) ≤ 64 := by omega
  obtain ⟨⟨y1, y2⟩, ey⟩ : ∃ y, y = refJ xs a m (lows args) ((pc : Int), 0) := ⟨_, rfl⟩
  have HY := Lib.hid ey
  rw [← ey]
  have HS0 := Lib.hid (labBx_start W a m)
  obtain ⟨W0, eW0⟩ : ∃ W0, W0 = W.alloc (.cells #[.int .i64 a, .int .u64 m] 38) := ⟨_, rfl⟩
  rw [← eW0] at HS0
  clear hu hx hr hav hal hm ha hp hn ey
  go_enter Tryd.func28, Tryd.ntmps28
  go_upto_region 1 with fail
  rw [← eW0]
  clear eW0
  go_wp2_with fail
  go_loopw [9, 10] (fun x k wr => ∃ i : Nat, i ≤ args.length ∧ k = .int .i64 (i : Int) ∧ wr.ownsRow W0.heap.size 38 2 x i (labV (lows (args.take i))) ∧ Below W0.heap.size W0 wr) (fun _ k _ => args.length - (intOf k).toNat)
  case atStart => exact ⟨0, Nat.zero_le _, rfl, World.ownsRow_nil _ _ _ _, Below.refl _ _⟩
  case round =>
    obtain ⟨i, hi, rfl, ho, hb⟩ := hrel
    have HO := Lib.hid ho
    have HB := Lib.hid hb
    have HS1 := Lib.hid (HS0.out.on hb)
    clear ho hb
    by_cases hlt : i < args.length
    · have i1 : (0 : Int) ≤ i ∧ (i : Int) < args.length := by omega
      obtain ⟨xb, xo, rfl, hx⟩ := (HA.out.below HS1.out.1).cellAt hlt
      have HT := Lib.hid (lows_take hlt)
      obtain ⟨x, ex⟩ : ∃ x, x = args[i]?.getD 0 := ⟨_, rfl⟩
      rw [← ex] at hx HT
      clear ex
      go_wp2_with (at_builtin
                   refine GG.wpList_append_any rfl _ _ 23 rfl W0.heap.size 38 i0 (.agg #[.int .i64 0, .int .u64 0]) 2 16 Tryd.underlying23 hi0 hz0 hz1 hz2 rfl (by decide) u9 i (labV (lows (args.take i))) rfl (HO.out.alloc _) (.slice (some ⟨wr.heap.size, 0, none⟩) 1 1) 1 [.int .i64 x, .int .u64 0] rfl rfl (.inr ⟨_, _, rfl, lab_one_new _ _ _⟩) (by simp [Value.oneCell']) (by unfold maxLen; omega) (by omega) (by have := HB.out.size; simp; omega) ?_
                   intro v2 w2 ho hg
                   have HO2 := Lib.hid ho
                   have HB2 := Lib.hid ((HB.out.alloc HB.out.size _).grown hg (by have := HB.out.size; simp; omega) (fun k e => (HO.out.lt k e).1))
                   clear ho hg)
      go_roundw
      case rel => exact ⟨i + 1, by omega, by go_num, by rw [HT.out]; exact HO2.out, HB2.out⟩
      case measure => simp [intOf]; omega
    · have HE := Lib.hid (show wr.ownsRow W0.heap.size 38 2 u9 (lows args).length (labV (lows args)) by
        have h := HO.out
        have e : i = args.length := by omega
        rw [e, List.take_length] at h
        rw [lows_len]
        exact h)
      have HLW := Lib.hid (lab_ownV HE.out)
      obtain ⟨hr0, hr1⟩ := HS1.out.cells
      have hjz : ¬ ((i : Int) < args.length) := by omega
      have hfl := run_field_lab (y1 : Int) y2
      go_wp2_with (go_at_call 25; refine (HP.out wr HS1.out.1 HLW.out).mono ?_; rintro e w5 ⟨rfl, hb5⟩; rw [← HY.out]; have HB5 := Lib.hid (HS1.out.1.trans (hb5.mono HS1.out.1.size)); clear hb5 hr0 hr1)
      go_ret
      exact ⟨rfl, HB5.out⟩
end Go.Proofs.YtodhoplchficpaaDoor
