import Derived.Test.YtkfojieiemgliaaGraG
import Derived.Test.YtkfojieiemgliaaGraH
set_option linter.unusedSimpArgs false
set_option linter.unusedVariables false
/-! GraphOf: the walk -/
namespace Go.Proofs.Ytkfojieiemgliaa
open Go.RowKit
theorem ofL_small {bs : List (List OpV)} (h : bs.length ≤ 17592186044416) : Small (ofL bs) := by
  unfold ofL
  split
  · exact waysI_small (Nat.le_refl _) h
  · exact ⟨by simp, by simp⟩
theorem wpList_load40 {ops : Array Oper} {rest : List Oper} {o : Oper} {a : Act} {w : World} {Q : Exit → Act → World → Prop} (hgd : o.guard = none) (x : Operand) (ho : o.op = .load 40 x)
    (blk : Nat) (hx : a.eval x = .pointer (some ⟨blk, 0, none⟩)) (p q r : Value) (hc : ∀ c u, [p, q, r][c]? = some u → w.cell? ⟨blk, c, none⟩ = some u)
    (h : wpList Try.prog ops Q rest (a.put o.dst (.agg #[p, q, r])) w) : wpList Try.prog ops Q (o :: rest) a w := by
  have hl : (loadCells ⟨blk, 0, none⟩ 3).run Try.prog w = .ok #[p, q, r] w :=
    run_loadCells_list (P := Try.prog) w ⟨blk, 0, none⟩ [p, q, r] (fun j u hu => by rw [Addr.add_lit, Nat.zero_add]; exact hc j u hu)
  have hagg : (isAgg 40).run Try.prog w = .ok true w := by kernel_rfl
  have hs : (sizeOf 40).run Try.prog w = .ok 3 w := by kernel_rfl
  refine wpList_plain hgd fun K hK => ?_
  unfold Oper.wp execOp
  simp only [ho, hx, Instr.loadAt, Instr.sureAddr, Sem.run_bind, Sem.run_pure, Result.andThen_ok]
  simp only [loadVar, Sem.run_bind, hagg, hs, hl, Result.andThen_ok, if_true, Sem.run_pure]
  exact hK _ _ h
theorem body_cell (W : World) (p q r : Value) (t : TypeId) (c : Nat) {u : Value} (h : [p, q, r][c]? = some u) : (W.alloc (.cells #[p, q, r] t)).cell? ⟨W.heap.size, c, none⟩ = some u := by
  simp only [World.cell?, heap_alloc_new]
  simpa using h

set_option maxRecDepth 100000 in
set_option maxHeartbeats 3200000 in
theorem graphOf_walk {v : Value} {bs : List (List OpV)} (x y : Int) (W : World) (hv : BlocksM W.heap.size W v bs) (hll : ∀ b ∈ bs, b.length ≤ 17592186044416) :
    Calls Try.prog 6 #[.agg #[.int .i64 x, .int .i64 y, v]] W fun e W' => e = .returned (.bool true) ∧ Below W.heap.size W W' := by
  obtain ⟨va, vc, rfl⟩ := hv.form
  by_cases hl : bs.length ≤ 64
  · obtain ⟨W0, eW0⟩ : ∃ W0, W0 = W.alloc (.cells #[.int .i64 x, .int .i64 y, .slice va bs.length vc] 40) := ⟨_, rfl⟩
    have HB0 := Lib.hid (show Below W.heap.size W W0 by rw [eW0]; exact (Below.refl _ _).alloc (Nat.le_refl _) _)
    have HV0 := Lib.hid (hv.on HB0.out HB0.out.size)
    have HC0 := Lib.hid (show ∀ c u, [.int .i64 x, .int .i64 y, .slice va bs.length vc][c]? = some u → W0.cell? ⟨W.heap.size, c, none⟩ = some u by rw [eW0]; exact fun c u h => body_cell _ _ _ _ _ c h)
    have HW0 := Lib.hid (show W.heap.size < W0.heap.size by rw [eW0]; simp)
    have HLL := Lib.hid hll
    have HSM := Lib.hid (ofL_small (bs := bs) (by omega))
    have EW0 := Lib.hid eW0
    clear hv hll eW0
    go_enter Try.func6, Try.ntmps6
    go_wp2_with ((refine wpList_load40 rfl (.tmp 1) rfl W.heap.size rfl _ _ _ (by rw [← EW0.out]; exact HC0.out) ?_))
    rw [← EW0.out]
    refine (of_any x y _ HV0.out (by omega) HLL.out).mono ?_
    rintro e w1 ⟨v1, rfl, hg, hb⟩
    obtain ⟨a1, c1, e1⟩ := hg.form
    subst e1
    have HG1 := Lib.hid hg
    have HB1 := Lib.hid hb
    have HC1 := Lib.hid (fun c u (h : [.int .i64 x, .int .i64 y, .slice va bs.length vc][c]? = some u) => (hb.cell (p := ⟨W.heap.size, c, none⟩) HW0.out).trans (HC0.out c u h))
    clear hg hb
    go_wp2_with ((refine wpList_load40 rfl (.tmp 1) rfl W.heap.size rfl _ _ _ HC1.out ?_))
    refine (rof_any x y _ (HV0.out.on HB1.out HB1.out.size) (by omega) HLL.out).mono ?_
    rintro e w2 ⟨v2, rfl, hg, hb⟩
    obtain ⟨a2, c2, e2⟩ := hg.form
    subst e2
    have HG2 := Lib.hid hg
    have HG12 := Lib.hid (HG1.out.on hb hb.size)
    have HB2 := Lib.hid (bstep HB1.out hb)
    have HT := Lib.hid (show (ofB bs == ofB bs) = true by simp)
    clear hg hb
    go_wp2_with fail
    refine (same_any _ _ (ofL bs) (ofL bs) _ _ HG12.out HG2.out HSM.out HSM.out).mono ?_
    rintro e w3 ⟨rfl, d, rfl⟩
    rw [decide_eq_true (rfl : ofL bs = ofL bs)]
    go_wp2_with fail
    refine (awakeG_any _).mono ?_
    rintro e w4 ⟨rfl, hb⟩
    have HB4 := Lib.hid (bstep (below_dN HB2.out d) hb)
    clear hb
    go_wp2_with fail
    go_ret
    exact ⟨rfl, HB0.out.trans (HB4.out.mono HB0.out.size)⟩
  · clear hv hll
    go_enter Try.func6, Try.ntmps6
    go_wp2_with fail
    go_ret
    exact ⟨rfl, (Below.refl _ _).alloc (Nat.le_refl _) _⟩
end Go.Proofs.Ytkfojieiemgliaa
