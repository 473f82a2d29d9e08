import Derived.Test.YtopffoklhfpjpaaGreatDoorQueF
import Derived.RegionTactic
import Derived.ChangeAlike
import Derived.BigRegion
set_option linter.unusedSimpArgs false
set_option linter.unusedVariables false
/-! queue: taking an input's next number -/
namespace Go.Proofs.YtopffoklhfpjpaaGreatDoor
open Go.RowKit
theorem IRow.at {B : Nat} {W : World} {v : Value} {xs : List Int} (h : IRow B W v xs) (h0 : 0 < xs.length) :
    ∃ b off cap, v = .slice (some ⟨b, off, none⟩) xs.length cap ∧ xs.length ≤ cap ∧ (∃ c fr, W.heap[b]? = some (.cells c 2 fr)) ∧ W.cell? ⟨b, off, none⟩ = some (.int .i64 (xs[0]?.getD 0)) ∧
      IRow B W (.slice (if cap = 1 then some ⟨b, off, none⟩ else some ⟨b, off + 1, none⟩) (xs.length - 1) (cap - 1)) xs.tail := by
  rcases h with ⟨_, _, rfl, _, rfl⟩ | ⟨b, off, cap, c, fr, rfl, hb, hl, hg, hc⟩
  · simp at h0
  · refine ⟨b, off, cap, rfl, hl, ⟨c, fr, hg⟩, ?_, ?_⟩
    · have := hc 0 h0
      simp [World.cell?, hg]
      simpa using this
    · by_cases h1 : cap = 1
      · have h2 : xs.length = 1 := by omega
        rw [if_pos h1, h2]
        exact .inl ⟨_, _, rfl, (fun e => by cases e), List.eq_nil_of_length_eq_zero (by rw [List.length_tail]; omega)⟩
      rw [if_neg h1]
      refine .inr ⟨b, off + 1, cap - 1, c, fr, by rw [List.length_tail], hb, by rw [List.length_tail]; omega, hg, fun j hj => ?_⟩
      rw [List.length_tail] at hj
      have := hc (j + 1) (by omega)
      rw [show off + 1 + j = off + (j + 1) by omega, this, List.getElem?_tail]
theorem TabQ.drew {B : Nat} {W : World} {rb n : Nat} {vs : Nat → Value} {rows : Nat → List Int} (h : TabQ B W rb n vs rows) : TabQ B W.drew rb n vs rows := ⟨h.base, h.tab, h.rows⟩
/-- what taking leaves: one row is shorter -/
def tailAt (rows : Nat → List Int) (q j : Nat) : List Int := if j = q then (rows q).tail else rows j
def TakeE (B : Nat) (kb rb n o l : Nat) (ve : Value) (rows : Nat → List Int) (i : Int) (e : Ending) (w w' : World) : Prop :=
  if 0 ≤ i ∧ i < n then
    if (rows i.toNat).length = 0 then e = .returned (.tuple #[.int .i64 0, .int .i64 23]) ∧ w' = w
    else e = .returned (.tuple #[.int .i64 ((rows i.toNat)[0]?.getD 0), .int .i64 0]) ∧ w.grownBy w' (some rb) ∧ w'.heap.size = w.heap.size ∧ BoxB w' kb rb n o l ve ∧ ∃ vs, TabQ B w' rb n vs (tailAt rows i.toNat)
  else e = .returned (.tuple #[.int .i64 0, .int .i64 1]) ∧ w' = w

set_option maxRecDepth 100000 in
set_option maxHeartbeats 1600000 in
theorem take_any {B kb rb n o l : Nat} {ve : Value} {vs : Nat → Value} {rows : Nat → List Int} (i : Int) (w : World) (hb : BoxB w kb rb n o l ve) (ht : TabQ B w rb n vs rows) (hn : n ≤ 4294967296) :
    Calls Tryz.prog 12 #[.pointer (some ⟨kb, 0, none⟩), .int .i64 i] w fun e w' => TakeE B kb rb n o l ve rows i e w w' := by
  obtain ⟨c0, _, _, _⟩ := hb.cells
  have HT := Lib.hid ht
  have HBX := Lib.hid hb
  clear hb ht
  by_cases hi : 0 ≤ i ∧ i < n
  · obtain ⟨q, rfl⟩ : ∃ q : Nat, i = q := ⟨i.toNat, by omega⟩
    have hq : q < n := by omega
    by_cases h0 : (rows q).length = 0
    · obtain ⟨a, cap, hv⟩ := (HT.out.rows q hq).form
      have HE := Lib.hid (fun e w' => show TakeE B kb rb n o l ve rows (q : Int) e w w' ↔ e = .returned (.tuple #[.int .i64 0, .int .i64 23]) ∧ w' = w by unfold TakeE; rw [if_pos hi, if_pos (by simpa using h0)])
      have HV := Lib.hid (show rowV n vs q = .slice a 0 cap ∧ inQ n q = true from ⟨by unfold rowV; rw [if_pos hi, ← h0]; exact hv, decide_eq_true hi⟩)
      clear hi hv h0
      go_enter Tryz.func12, Tryz.ntmps12
      go_wp2_with (refine (row_any q _ HT.out.tab hn).mono ?_; rintro e w1 ⟨rfl, rfl⟩; rw [HV.out.1, HV.out.2])
      go_ret2
      exact (HE.out _ _).2 ⟨rfl, rfl⟩
    · obtain ⟨b, off, cap, hv, hcap, ⟨cb, fr, hgb⟩, hcell, htl⟩ := (HT.out.rows q hq).at (by omega)
      have HNE := Lib.hid (HT.out.apart hgb)
      have HKB := Lib.hid (show kb ≠ rb from fun e => by
        obtain ⟨c', h1, _⟩ := HT.out.tab
        have h2 := HBX.out
        unfold BoxB at h2
        rw [e, h1] at h2
        cases h2)
      have HE := Lib.hid (fun e w' => show TakeE B kb rb n o l ve rows (q : Int) e w w' ↔ e = .returned (.tuple #[.int .i64 ((rows q)[0]?.getD 0), .int .i64 0]) ∧ w.grownBy w' (some rb) ∧ w'.heap.size = w.heap.size ∧ BoxB w' kb rb n o l ve ∧ ∃ vs, TabQ B w' rb n vs (tailAt rows q) by unfold TakeE; rw [if_pos hi, if_neg (by simpa using h0)]; rfl)
      obtain ⟨m, hm⟩ : ∃ m, m = (rows q).length := ⟨_, rfl⟩
      have hm0 : 0 < m := by omega
      rw [← hm] at hv hcap htl
      have HV := Lib.hid (show rowV n vs q = .slice (some ⟨b, off, none⟩) m cap ∧ inQ n q = true from ⟨by unfold rowV; rw [if_pos hi]; exact hv, decide_eq_true hi⟩)
      have t0 : ((m : Int) == 0) = false := by rw [beq_eq_false_iff_ne]; omega
      have i1 : (0 : Int) ≤ q ∧ (q : Int) < n := hi
      have i2 : (0 : Int) < m := by omega
      have hcq := World.rowIs.cell HT.out.tab hq
      have hfq := World.rowIs.frozen HT.out.tab q
      obtain ⟨u, hu⟩ : ∃ u, u = Value.slice (if cap = 1 then some (⟨b, off, none⟩ : Addr) else some ⟨b, off + 1, none⟩) (m - 1) (cap - 1) := ⟨_, rfl⟩
      rw [← hu] at htl
      have HU := Lib.hid hu
      have HTL := Lib.hid htl
      have HC := Lib.hid hcell
      have hcw : (w.setCell ⟨rb, q, none⟩ u).drew.cell? ⟨b, off, none⟩ = some (.int .i64 ((rows q)[0]?.getD 0)) := (World.cell?_of_block (a := ⟨b, off, none⟩) (Below.heap_setCell _ _ _ _ HNE.out)).trans HC.out
      have HN := Lib.hid (show w.grownBy (w.setCell ⟨rb, q, none⟩ u).drew (some rb) ∧ (w.setCell ⟨rb, q, none⟩ u).drew.heap.size = w.heap.size ∧ BoxB (w.setCell ⟨rb, q, none⟩ u).drew kb rb n o l ve ∧ ∃ vs, TabQ B (w.setCell ⟨rb, q, none⟩ u).drew rb n vs (tailAt rows q) from
        ⟨⟨rfl, rfl, rfl, by simp, fun k hk hne => Below.heap_setCell _ _ _ _ (fun e => hne (by rw [e]))⟩, by simp, (Below.heap_setCell _ _ _ _ HKB.out).trans HBX.out, _, ((HT.out.set q HTL.out).congr fun j hj => rfl).drew⟩)
      clear hi h0 hm hu htl hcell hgb
      go_enter Tryz.func12, Tryz.ntmps12
      go_wp2_with (refine (row_any q _ HT.out.tab hn).mono ?_; rintro e w1 ⟨rfl, rfl⟩; rw [HV.out.1, HV.out.2])
      go_region
      rw [← HU.out]
      generalize (w.setCell ⟨rb, q, none⟩ u).drew = W1 at hcw HN ⊢
      go_wp2_with fail
      go_ret2
      exact (HE.out _ _).2 ⟨rfl, HN.out⟩
  · have HE := Lib.hid (fun e w' => show TakeE B kb rb n o l ve rows i e w w' ↔ e = .returned (.tuple #[.int .i64 0, .int .i64 1]) ∧ w' = w by unfold TakeE; rw [if_neg hi])
    have HV := Lib.hid (show rowV n vs i = .slice none 0 0 ∧ inQ n i = false from ⟨if_neg hi, decide_eq_false hi⟩)
    clear hi
    go_enter Tryz.func12, Tryz.ntmps12
    go_wp2_with (refine (row_any i _ HT.out.tab hn).mono ?_; rintro e w1 ⟨rfl, rfl⟩; rw [HV.out.1, HV.out.2])
    go_ret2
    exact (HE.out _ _).2 ⟨rfl, rfl⟩
end Go.Proofs.YtopffoklhfpjpaaGreatDoor
