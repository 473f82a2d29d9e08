import Derived.Test.YtaaicmldldkhhaaDoorPrs
set_option linter.unusedSimpArgs false
set_option linter.unusedVariables false
/-! LatticeBuilds: the walk -/
namespace Go.Proofs.YtaaicmldldkhhaaDoor
open Go.RowKit

set_option maxRecDepth 100000 in
set_option maxHeartbeats 1600000 in
theorem builds_some (hB : BuildC) (hH : HeightC) (n : Int) (x : Addr) (cap : Nat) (ps : List (Int × Int)) (w : World) (hTz : Tz w) (hp : PrsI w.heap.size w (.slice (some x) ps.length cap) ps) (hlen : ps.length ≤ 400) (hn : (Lit.int .i64 n).wf = true)
    (hnews : ∀ W, Below w.heap.size w W → ∀ j u, (cellsI ps)[j]? = some u → W.cell? (x.add j) = some u) :
    Calls Tryd.prog 3 #[.int .i64 n, .slice (some x) ps.length cap] w fun e w' => e = .returned (.bool true) ∧ Below w.heap.size w w' := by
  have HBd := Lib.hid hB
  have HHt := Lib.hid hH
  have HP := Lib.hid hp
  have HN := Lib.hid hn
  have HNw := Lib.hid hnews
  have hl1 : (ps.length : Int) ≤ 400 := by omega
  have g1 : decide (400 < (ps.length : Int)) = false := decide_eq_false (by omega)
  obtain ⟨i0, hi, hz0, hz1, hz2⟩ := info_parts Tryd.infoPair
  have HBB := Lib.hid (Below.refl w.heap.size w)
  have hll := Lib.hid (cellsI_len ps)
  clear hB hH hp hn hnews hl1
  go_enter Tryd.func3, Tryd.ntmps3
  go_wp2_with (at_builtin
               refine wpList_append_own _ rfl _ _ 22 rfl w.heap.size 40 i0 (.agg #[.int .i64 0, .int .i64 0]) 2 16 Tryd.underlying22 hi hz0 hz1 hz2 rfl (by decide) _ _ _ rfl (World.ownsRow_lit (base := w.heap.size) (e := 40) (size := 2) _ #[] 0 HBB.out.size (by unfold maxLen; omega) rfl) x ps.length cap (cellsI ps) rfl hll.out (HNw.out _ (HBB.out.alloc HBB.out.size _)) (cellsI_one ps) (by unfold maxLen; omega) (by omega) (by have := HBB.out.size; first | (simp; done) | (simp; omega)) ?_
               intro v' w1 hown' hgrow _
               have HQ := Lib.hid (show PrsI w1.heap.size w1 v' ps from prs_of_row (base := w.heap.size) (e := 40) (by simpa using hown'))
               have HB2 := Lib.hid ((HBB.out.alloc HBB.out.size (.cells #[] 40)).grown hgrow (by have := HBB.out.size; first | (simp; done) | (simp; omega)) (fun j hj => ((World.ownsRow_lit (base := w.heap.size) (e := 40) (size := 2) _ #[] 0 HBB.out.size (by unfold maxLen; omega) rfl).lt j hj).1))
               clear HBB hown' hgrow
               have HBB := HB2
               clear HB2)
  refine (HBd.out _ ps _ n _ HQ.out (Nat.le_refl _) (by simp only [big5]; omega) HN.out (by first | exact hTz | exact hTz.on (by assumption) | exact hTz.on HBB.out | exact hTz.alloc _ | exact (hTz.on (by assumption)).alloc _ | exact (hTz.on HBB.out).alloc _ | exact (hTz.alloc _).alloc _ | exact ((hTz.on (by assumption)).alloc _).alloc _)).mono ?_
  rintro e w2 ⟨hbp, hb2⟩
  have HBP := Lib.hid hbp
  have hB2 := bstep HBB.out hb2
  obtain ⟨v2, S2, k2, rfl, hrest⟩ := id hbp
  clear hb2 hbp hrest
  go_wp2_with fail
  refine (rbuild_any _ ps w.heap.size n w2 (HP.out.below hB2) hB2.size (by omega)).mono ?_
  rintro e w3 ⟨hbr, hb3⟩
  obtain ⟨v3, u, S, k, h1, rfl, hN1, hW, hN2, hS64⟩ := build_both HBP.out hbr
  simp only [Ending.returned.injEq, Value.tuple.injEq, Array.mk.injEq, List.cons.injEq, and_true, Value.int.injEq, true_and] at h1
  obtain ⟨rfl, rfl⟩ := h1
  have hB3 := bstep hB2 hb3
  have HN1 := Lib.hid (hN1.below hb3)
  have HN1' := Lib.hid (HN1.out.mono hb3.size)
  have HN2 := Lib.hid hN2
  have HS := Lib.hid hS64
  clear hbr hN1 hN2 hB2 hb3 hS64 HN1
  go_wp2_with fail
  refine (rsame5_any _ _ S S _ w3 HN1'.out HN2.out (by have := HS.out; omega) (by have := HS.out; omega)).mono ?_
  rintro e w4 ⟨rfl, hb4⟩
  rw [show (S == S) = true by simp]
  have hB4 := bstep hB3 hb4
  clear hB3 hb4
  go_wp2_with fail
  refine (awake5_any HBd.out HHt.out _ (by first | exact hTz | exact hTz.on (by assumption) | exact hTz.on HBB.out | exact hTz.alloc _ | exact (hTz.on (by assumption)).alloc _ | exact (hTz.on HBB.out).alloc _ | exact (hTz.alloc _).alloc _ | exact ((hTz.on (by assumption)).alloc _).alloc _)).mono ?_
  rintro e w99 ⟨rfl, hb99⟩
  go_wp2_with fail
  go_ret
  exact ⟨rfl, bstep hB4 hb99⟩

set_option maxRecDepth 100000 in
set_option maxHeartbeats 1600000 in
theorem builds_none (hB : BuildC) (hH : HeightC) (n : Int) (cap : Nat) (w : World) (hTz : Tz w) (hn : (Lit.int .i64 n).wf = true) :
    Calls Tryd.prog 3 #[.int .i64 n, .slice none 0 cap] w fun e w' => e = .returned (.bool true) ∧ Below w.heap.size w w' := by
  have HBd := Lib.hid hB
  have HHt := Lib.hid hH
  have HN := Lib.hid hn
  clear hB hH hn
  go_enter Tryd.func3, Tryd.ntmps3
  go_wp2_with fail
  refine (HBd.out _ [] 0 n _ (prsI_empty 0 _ _ _) (Nat.zero_le _) (Nat.zero_le _) HN.out (by first | exact hTz | exact hTz.on (by assumption) | exact hTz.on HBB.out | exact hTz.alloc _ | exact (hTz.on (by assumption)).alloc _ | exact (hTz.on HBB.out).alloc _ | exact (hTz.alloc _).alloc _ | exact ((hTz.on (by assumption)).alloc _).alloc _)).mono ?_
  rintro e w2 ⟨hbp, hb2⟩
  have HBP := Lib.hid hbp
  have hB2 : Below w.heap.size w w2 := ((Below.refl _ _).alloc (Nat.le_refl _) _).trans (hb2.mono (by simp))
  obtain ⟨v2, S2, k2, rfl, hrest⟩ := id hbp
  clear hb2 hbp hrest
  go_wp2_with fail
  refine (rbuild_any _ [] 0 n w2 (prsI_empty 0 _ _ _) (Nat.zero_le _) (by simp)).mono ?_
  rintro e w3 ⟨hbr, hb3⟩
  obtain ⟨v3, u, S, k, h1, rfl, hN1, hW, hN2, hS64⟩ := build_both HBP.out hbr
  simp only [Ending.returned.injEq, Value.tuple.injEq, Array.mk.injEq, List.cons.injEq, and_true, Value.int.injEq, true_and] at h1
  obtain ⟨rfl, rfl⟩ := h1
  have hB3 := bstep hB2 hb3
  have HN1 := Lib.hid (hN1.below hb3)
  have HN1' := Lib.hid (HN1.out.mono hb3.size)
  have HN2 := Lib.hid hN2
  have HS := Lib.hid hS64
  clear hbr hN1 hN2 hB2 hb3 hS64 HN1
  go_wp2_with fail
  refine (rsame5_any _ _ S S _ w3 HN1'.out HN2.out (by have := HS.out; omega) (by have := HS.out; omega)).mono ?_
  rintro e w4 ⟨rfl, hb4⟩
  rw [show (S == S) = true by simp]
  have hB4 := bstep hB3 hb4
  clear hB3 hb4
  go_wp2_with fail
  refine (awake5_any HBd.out HHt.out _ (by first | exact hTz | exact hTz.on (by assumption) | exact hTz.on HBB.out | exact hTz.alloc _ | exact (hTz.on (by assumption)).alloc _ | exact (hTz.on HBB.out).alloc _ | exact (hTz.alloc _).alloc _ | exact ((hTz.on (by assumption)).alloc _).alloc _)).mono ?_
  rintro e w99 ⟨rfl, hb99⟩
  go_wp2_with fail
  go_ret
  exact ⟨rfl, bstep hB4 hb99⟩
set_option maxHeartbeats 800000 in
theorem builds_many (n : Int) (a : Option Addr) (len cap : Nat) (w : World) (h : ¬ len ≤ 400) :
    Calls Tryd.prog 3 #[.int .i64 n, .slice a len cap] w fun e w' => e = .returned (.bool true) ∧ Below w.heap.size w w' := by
  have g1 : (400 : Int) < (len : Int) := by omega
  clear h
  go_enter Tryd.func3, Tryd.ntmps3
  go_wp2_with fail
  go_ret
  exact ⟨rfl, Below.refl _ _⟩
theorem latticeBuilds_walk (hB : BuildC) (hH : HeightC) (n : Int) (v : Value) (ps : List (Int × Int)) (w : World) (hTz : Tz w) (hp : PrsI w.heap.size w v ps) (hn : (Lit.int .i64 n).wf = true) :
    Calls Tryd.prog 3 #[.int .i64 n, v] w fun e w' => e = .returned (.bool true) ∧ Below w.heap.size w w' := by
  by_cases hlen : ps.length ≤ 400
  · rcases hp with ⟨⟨a, cap, rfl⟩, rfl⟩ | ⟨b, off, cap, rfl, hb, hl, hc⟩
    · cases a with
      | none => exact builds_none hB hH n cap w hTz hn
      | some x => exact builds_some hB hH n x cap [] w hTz (prsI_empty _ _ _ _) hlen hn (fun W _ j u h => by simp [cellsI] at h)
    · exact builds_some hB hH n ⟨b, off, none⟩ cap ps w hTz (.inr ⟨b, off, cap, rfl, hb, hl, hc⟩) hlen hn (fun W hW => newsP hb hc hW)
  · obtain ⟨a, cap, rfl⟩ := hp.form
    exact builds_many n a ps.length cap w hlen
end Go.Proofs.YtaaicmldldkhhaaDoor
