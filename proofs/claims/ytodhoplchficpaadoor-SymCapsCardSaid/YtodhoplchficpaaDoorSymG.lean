import Derived.Test.YtodhoplchficpaaDoorSymK
import Derived.Lib.AppendZerosOnto
set_option linter.unusedSimpArgs false
set_option linter.unusedVariables false
/-! slices.Grow of the nil slice, slices.Concat of two rows of labels -/
namespace Go.Proofs.YtodhoplchficpaaDoor
open Go.RowKit
open SV (Lab SysOk Least labs sumOf mu sumP at' natsL askT askI fanN lok ljoin val le Bnd)
theorem nilcap_fits (n : Nat) (h0 : 0 < n) : n ≠ 0 := by omega
set_option maxRecDepth 100000 in
set_option maxHeartbeats 1600000 in
theorem sgrow_any (n : Nat) (W : World) (h0 : 0 < n) (h1 : n ≤ 1000) :
    Calls Tryd.prog 68 #[.slice none 0 0, .int .i64 n] W fun e V => ∃ v, e = .returned v ∧ V.ownsRow W.heap.size 38 2 v 0 [] ∧ Below W.heap.size W V := by
  obtain ⟨i0, hi0, hz0, hz1, hz2⟩ := info_parts infoLab
  have hrz : ∀ ty, (Builtin.append_ #[23, 3] ty #[.slice none 0 0, .int .i64 (n : Int)]).run Tryd.prog W =
      .ok (.slice (some ⟨W.heap.size, 0, none⟩) n (grownCap W n 0 38)) (W.drew.alloc (.cells (Builtin.zeroCells (Value.agg #[.int .i64 0, .int .u64 0]).cells n ++ Builtin.zeroCells (Value.agg #[.int .i64 0, .int .u64 0]).cells (grownCap W n 0 38 - n)) 38)) :=
    fun ty => Lib.run_append_nil_zeros W 23 3 ty 38 i0 (.agg #[.int .i64 0, .int .u64 0]) .i64 .i64 Tryd.underlying23 Tryd.underlying3 hi0 hz0 n h0 (by omega) (by omega) (by rw [hz2]; omega)
  have hGn := grownCap_ge W n 0 38
  have hGm := grownCap_le_maxLen W n 0 38 (by unfold maxLen; omega)
  obtain ⟨G, hG⟩ : ∃ G, G = grownCap W n 0 38 := ⟨_, rfl⟩
  rw [← hG] at hrz hGn hGm
  have hG63 : (G : Int) ≤ 9223372036854775807 := by unfold maxLen at hGm; omega
  obtain ⟨V, eV⟩ : ∃ V, V = W.drew.alloc (.cells (Builtin.zeroCells (Value.agg #[.int .i64 0, .int .u64 0]).cells n ++ Builtin.zeroCells (Value.agg #[.int .i64 0, .int .u64 0]).cells (G - n)) 38) := ⟨_, rfl⟩
  have HB := Lib.hid (show Below W.heap.size W V by rw [eV]; exact (Below.refl _ _).drew.alloc (Nat.le_refl _) _)
  have HO := Lib.hid (show V.ownsRow W.heap.size 38 2 (.slice (some ⟨W.heap.size, 0, none⟩) 0 G) 0 [] by
    refine ⟨rfl, .inr ⟨W.heap.size, G, _, rfl, Nat.le_refl _, by rw [eV]; exact heap_alloc_new _ _, Nat.zero_le _, hGm, ?_, by simp⟩⟩
    simp [Builtin.zeroCells, Value.cells]
    omega)
  rw [← eV] at hrz
  have i0' : ¬ ((n : Int) < 0) := by omega
  have i1 : (n : Int) > 0 := by omega
  have i2 : (n : Int) ≤ 1000 := by omega
  clear hG hGm eV
  go_enter Tryd.func68, Tryd.ntmps68
  go_wp2_with (at_builtin; refine Lib.wpList_append_run _ rfl _ _ _ _ rfl _ _ rfl rfl _ _ (hrz _) ?_)
  go_ret
  exact ⟨_, rfl, HO.out, HB.out⟩
/-- how many of two rows' labels are in the first i rows -/
def twoN (n m i : Nat) : Nat := if i = 0 then 0 else if i = 1 then n else n + m
def twoV (l m : List (Int × Int)) (i : Nat) : List Value := if i = 0 then [] else if i = 1 then labV l else labV l ++ labV m
theorem labV_app (l m : List (Int × Int)) : labV (l ++ m) = labV l ++ labV m := by simp [labV]
set_option maxRecDepth 100000 in
set_option maxHeartbeats 3200000 in
theorem sconcat_any {r0 r1 : Value} {l m : List (Int × Int)} {g : Nat} (W : World) (hg : W.heap[g]? = some (.cells #[r0, r1] 23)) (hl : LabRow W.heap.size W r0 l) (hm : LabRow W.heap.size W r1 m) (h0 : 0 < l.length) (hl1 : l.length ≤ 100) (hm1 : m.length ≤ 100) :
    Calls Tryd.prog 46 #[.slice (some ⟨g, 0, none⟩) 2 2] W fun e V => ∃ v, e = .returned v ∧ V.ownsRow W.heap.size 38 2 v (l ++ m).length (labV (l ++ m)) ∧ Below W.heap.size W V := by
  obtain ⟨ra, rc, rfl⟩ := hl.form
  obtain ⟨sa, sc, rfl⟩ := hm.form
  obtain ⟨i0, hi0, hz0, hz1, hz2⟩ := info_parts infoLab
  have HG := Lib.hid hg
  have HL := Lib.hid hl
  have HM := Lib.hid hm
  have HLT := Lib.hid (show g < W.heap.size from (Array.getElem?_eq_some_iff.1 hg).1)
  have b0 : (0 : Int) < l.length ∧ (l.length : Int) ≤ 100 := by omega
  have b1 : (m.length : Int) ≤ 100 := by omega
  have HN := Lib.hid (And.intro h0 (And.intro hl1 hm1))
  have HGR := Lib.hid (fun w => by have h := sgrow_any (l.length + m.length) w (by omega) (by omega); rw [Int.natCast_add] at h; exact h)
  clear hg hl hm h0 hl1 hm1
  go_enter Tryd.func46, Tryd.ntmps46
  go_wp2_with fail
  go_loopw [3, 11] (fun x k wr => ∃ i : Nat, i ≤ 2 ∧ k = .int .i64 (i : Int) ∧ x = .int .i64 (twoN l.length m.length i : Int) ∧ wr = W) (fun _ k _ => 2 - (intOf k).toNat)
  case atStart => exact ⟨0, by omega, rfl, rfl, rfl⟩
  case round =>
    obtain ⟨i, hi, rfl, rfl, e8⟩ := hrel
    rewrite [e8]
    clear e8
    have hc0 := cell_of_row _ _ 0 _ _ _ HG.out
    have hc1 := cell_of_row _ _ 1 _ _ _ HG.out
    match i, hi with
    | 0, _ =>
      have e : twoN l.length m.length 0 = 0 := rfl
      rewrite [e]
      have q1 : (0 : Int) + l.length = l.length := by omega
      go_wp2_with fail
      go_roundw
      case rel => exact ⟨1, by omega, by go_num, rfl, by first | exact trivial | rfl⟩
      case measure => simp [intOf]
    | 1, _ =>
      have e : twoN l.length m.length 1 = l.length := rfl
      have e2 : ((twoN l.length m.length 2 : Nat) : Int) = (l.length : Int) + m.length := by show ((l.length + m.length : Nat) : Int) = _; omega
      rewrite [e]
      go_wp2_with fail
      go_roundw
      case rel => exact ⟨2, by omega, by go_num, by rw [e2], by first | exact trivial | rfl⟩
      case measure => simp [intOf]
    | 2, _ =>
      have e : ((twoN l.length m.length 2 : Nat) : Int) = (l.length : Int) + m.length := by show ((l.length + m.length : Nat) : Int) = _; omega
      rewrite [e]
      clear e
      go_wp2_with (go_at_call 68; refine (HGR.out W).mono ?_; rintro e w1 ⟨v1, rfl, ho1, hb1⟩; have HO1 := Lib.hid ho1; have HB1 := Lib.hid hb1; clear ho1 hb1 hc0 hc1)
      go_loopw [6, 27] (fun x k wr => ∃ i : Nat, i ≤ 2 ∧ k = .int .i64 (i : Int) ∧ wr.ownsRow W.heap.size 38 2 x (twoN l.length m.length i) (twoV l m i) ∧ Below W.heap.size W wr) (fun _ k _ => 2 - (intOf k).toNat)
      case atStart => exact ⟨0, by omega, rfl, HO1.out, HB1.out⟩
      case round =>
        obtain ⟨i, hi, rfl, ho, hb⟩ := hrel
        have HO := Lib.hid ho
        have HB := Lib.hid hb
        have hc0 : wr.cell? ⟨g, 0, none⟩ = some (.slice ra l.length rc) := (hb.cell (p := ⟨g, 0, none⟩) HLT.out).trans (cell_of_row _ _ 0 _ _ _ HG.out)
        have hc1 : wr.cell? ⟨g, 1, none⟩ = some (.slice sa m.length sc) := (hb.cell (p := ⟨g, 1, none⟩) HLT.out).trans (cell_of_row _ _ 1 _ _ _ HG.out)
        clear ho hb
        match i, hi with
        | 0, _ =>
          go_wp2_with (at_builtin
                       refine GG.wpList_append_any rfl _ _ 23 rfl W.heap.size 38 i0 (.agg #[.int .i64 0, .int .u64 0]) 2 16 Tryd.underlying23 hi0 hz0 hz1 hz2 rfl (by decide) u6 0 [] rfl HO.out (.slice ra l.length rc) l.length (labV l) rfl (labV_len l) (HL.out.below HB.out).src (labV_one l) (by have := HN.out; unfold maxLen; omega) (by have := HN.out; omega) HB.out.size ?_
                       intro v2 w2 ho hg
                       have HO2 := Lib.hid (own0S ho)
                       have HB2 := Lib.hid (HB.out.grown hg HB.out.size (fun k e => (HO.out.lt k e).1))
                       clear ho hg)
          go_roundw
          case rel => exact ⟨1, by omega, by go_num, HO2.out, HB2.out⟩
          case measure => simp [intOf]
        | 1, _ =>
          go_wp2_with (at_builtin
                       refine GG.wpList_append_any rfl _ _ 23 rfl W.heap.size 38 i0 (.agg #[.int .i64 0, .int .u64 0]) 2 16 Tryd.underlying23 hi0 hz0 hz1 hz2 rfl (by decide) u6 l.length (labV l) rfl HO.out (.slice sa m.length sc) m.length (labV m) rfl (labV_len m) (HM.out.below HB.out).src (labV_one m) (by have := HN.out; unfold maxLen; omega) (by have := HN.out; omega) HB.out.size ?_
                       intro v2 w2 ho hg
                       have HO2 := Lib.hid ho
                       have HB2 := Lib.hid (HB.out.grown hg HB.out.size (fun k e => (HO.out.lt k e).1))
                       clear ho hg)
          go_roundw
          case rel => exact ⟨2, by omega, by go_num, HO2.out, HB2.out⟩
          case measure => simp [intOf]
        | 2, _ =>
          have HE := Lib.hid (show wr.ownsRow W.heap.size 38 2 u6 (l ++ m).length (labV (l ++ m)) by rw [labV_app, List.length_append]; exact HO.out)
          go_wp2_with fail
          go_ret
          exact ⟨_, rfl, HE.out, HB.out⟩
end Go.Proofs.YtodhoplchficpaaDoor
