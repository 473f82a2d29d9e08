import Derived.Test.YtaaicmldldkhhaaDoorPrs
import Derived.Deep.QuietTactic
import Derived.BigQuiet
import Derived.ChangeKeysEq
set_option linter.unusedSimpArgs false
set_option linter.unusedVariables false
/-! LatticeCovers: the walk -/
namespace Go.Proofs.YtaaicmldldkhhaaDoor
open Go.RowKit

theorem Tryd.infoInt : (Tryd.prog.info? 3).map (fun i => (i.zero, i.size, i.bytes)) = some (some (.int .i64 0), 1, 8) := by kernel_rfl
theorem Tryd.cellsInt : Tryd.prog.cellsOf 3 = 1 := by kernel_rfl
theorem Tryd.keyInt : Tryd.prog.plainKey 3 = true := by kernel_rfl
/-- two pairs compared -/
theorem eq_pair (a b c d : Int) (w : World) : (Op.equalIn 10000 40 (.agg #[.int .i64 a, .int .i64 b]) (.agg #[.int .i64 c, .int .i64 d])).run Tryd.prog w = .ok (a == c && b == d) w := by
  obtain ⟨i0, hi, -⟩ := info_parts Tryd.infoInt
  have q1 : (part 3 #[.int .i64 a, .int .i64 b] 0).run Tryd.prog w = .ok (.int .i64 a) w := run_part_plain (P := Tryd.prog) w Tryd.keyInt rfl
  have q2 : (part 3 #[.int .i64 a, .int .i64 b] 1).run Tryd.prog w = .ok (.int .i64 b) w := run_part_plain (P := Tryd.prog) w Tryd.keyInt rfl
  have q3 : (part 3 #[.int .i64 c, .int .i64 d] 0).run Tryd.prog w = .ok (.int .i64 c) w := run_part_plain (P := Tryd.prog) w Tryd.keyInt rfl
  have q4 : (part 3 #[.int .i64 c, .int .i64 d] 1).run Tryd.prog w = .ok (.int .i64 d) w := run_part_plain (P := Tryd.prog) w Tryd.keyInt rfl
  have e1 : ∀ x y, (Op.equalIn 9999 3 (.int .i64 x) (.int .i64 y)).run Tryd.prog w = .ok (x == y) w := fun x y => run_equalIn_int (P := Tryd.prog) w 9998 3 .i64 .i64 x y Tryd.underlying3
  rw [run_equalIn_array w 9999 (n := 2) (e := 3) _ _ Tryd.underlying40 hi, Tryd.cellsInt, show List.range 2 = [0, 1] from rfl]
  simp only [Op.eqItems, Nat.zero_mul, Nat.one_mul, Sem.run_bind, q1, q2, q3, q4, e1, Result.andThen_ok]
  cases (a == c) <;> cases h : (b == d) <;> simp only [Bool.not_false, Bool.not_true, Bool.false_eq_true, if_true, if_false, Sem.run_pure, Sem.run_bind, q2, q4, e1, h, Result.andThen_ok, Bool.true_and, Bool.false_and]
def castP (l : List (Nat × Nat)) : List (Int × Int) := l.map fun p => ((p.1 : Int), (p.2 : Int))
theorem castP_len (l : List (Nat × Nat)) : (castP l).length = l.length := by unfold castP; rw [List.length_map]
theorem cells_cast (l : List (Nat × Nat)) : cellsOf5 l = cellsI (castP l) := by
  unfold cellsOf5 cellsI castP
  rw [List.flatMap_map]
theorem Prs.toI {n₀ : Nat} {W : World} {v : Value} {l : List (Nat × Nat)} (h : Prs n₀ W v l) : PrsI n₀ W v (castP l) := by
  rcases h with ⟨h, rfl⟩ | ⟨b, off, cap, rfl, hb, hl, hc⟩
  · exact .inl ⟨h, rfl⟩
  · refine .inr ⟨b, off, cap, by rw [castP_len], hb, by rw [castP_len]; exact hl, fun j hj => ?_⟩
    rw [castP_len] at hj
    have := hc j hj
    unfold castP
    rw [List.getElem?_map, List.getElem?_eq_getElem hj]
    rw [List.getElem?_eq_getElem hj] at this
    simpa using this

theorem PrsI.mono {n m : Nat} {W : World} {v : Value} {ps : List (Int × Int)} (h : PrsI n W v ps) (hle : n ≤ m) : PrsI m W v ps := by
  rcases h with h | ⟨b, off, cap, e, hb, hl, hc⟩
  · exact .inl h
  · exact .inr ⟨b, off, cap, e, Nat.lt_of_lt_of_le hb hle, hl, hc⟩

set_option maxRecDepth 100000 in
set_option maxHeartbeats 1600000 in
theorem covers_yes (hB : BuildC) (hH : HeightC) (hC : CoversC) (x : Addr) (cap : Nat) (xs : List Int) (w : World) (hTz : Tz w) (hv : Nums .u64 w.heap.size w (.slice (some x) xs.length cap) xs) (hw : Wide xs) (hl : xs.length ≤ big5) (hr : LL.rightB xs = true)
    (hnews : ∀ W, Below w.heap.size w W → ∀ j u, (xs.map (Value.int .u64))[j]? = some u → W.cell? (x.add j) = some u) :
    Calls Tryd.prog 7 #[.slice (some x) xs.length cap] w fun e w' => e = .returned (.bool true) ∧ Below w.heap.size w w' := by
  have HBd := Lib.hid hB
  have HHt := Lib.hid hH
  have HCv := Lib.hid hC
  have HV := Lib.hid hv
  have HW := Lib.hid hw
  have HL := Lib.hid hl
  have HR := Lib.hid hr
  have H64 := Lib.hid (LL.ord_len (LL.right_ord hr)).2
  have HNw := Lib.hid hnews
  obtain ⟨i0, hi, hz0, hz1, hz2⟩ := info_parts Tryd.infoU64
  have HBB := Lib.hid (Below.refl w.heap.size w)
  have hll := Lib.hid (show (xs.map (Value.int .u64)).length = xs.length * 1 by rw [List.length_map]; omega)
  have hone := Lib.hid (nums_oneCell .u64 xs)
  clear hB hH hC hv hw hl hr hnews
  go_enter Tryd.func7, Tryd.ntmps7
  go_wp2_with (at_builtin
               refine wpList_append_own _ rfl _ _ 23 rfl w.heap.size 45 i0 (.int .u64 0) 1 8 Tryd.underlying23 hi hz0 hz1 hz2 rfl (by decide) _ _ _ rfl (World.ownsRow_lit (base := w.heap.size) (e := 45) (size := 1) _ #[] 0 HBB.out.size (by unfold maxLen; omega) rfl) x xs.length cap (xs.map (Value.int .u64)) rfl hll.out (HNw.out _ (HBB.out.alloc HBB.out.size _)) hone.out (by have := H64.out; unfold maxLen; omega) (by have := H64.out; omega) (by have := HBB.out.size; first | (simp; done) | (simp; omega)) ?_
               intro v' w1 hown' hgrow _
               have HQ := Lib.hid (show Nums .u64 w1.heap.size w1 v' xs from nums_of_row (base := w.heap.size) (e := 45) (by simpa using hown'))
               have HB2 := Lib.hid ((HBB.out.alloc HBB.out.size (.cells #[] 45)).grown hgrow (by have := HBB.out.size; first | (simp; done) | (simp; omega)) (fun j hj => ((World.ownsRow_lit (base := w.heap.size) (e := 45) (size := 1) _ #[] 0 HBB.out.size (by unfold maxLen; omega) rfl).lt j hj).1))
               clear HBB hown' hgrow
               have HBB := HB2
               clear HB2)
  refine (HCv.out _ xs _ _ HQ.out (Nat.le_refl _) HW.out HL.out (by first | exact hTz | exact hTz.on (by assumption) | exact hTz.on HBB.out | exact hTz.alloc _ | exact (hTz.on (by assumption)).alloc _ | exact (hTz.on HBB.out).alloc _ | exact (hTz.on (by assumption)).drewN _ | exact (hTz.on HBB.out).drewN _ | exact (hTz.alloc _).alloc _ | exact ((hTz.on (by assumption)).alloc _).alloc _)).mono ?_
  rintro e w2 ⟨u, rfl, hp, hb2⟩
  have HB2 := Lib.hid (bstep HBB.out hb2)
  rw [HR.out, if_pos rfl] at hp
  have HP := Lib.hid hp.toI
  clear HBB hb2 hp
  go_wp2_with fail
  refine (rright_any _ xs w.heap.size _ (HV.out.below HB2.out) HW.out (by have := H64.out; omega)).mono ?_
  rintro e w3 ⟨rfl, d, rfl⟩
  rw [HR.out]
  have HB3 := Lib.hid (below_drewN HB2.out d)
  clear HB2
  go_wp2_with fail
  refine (rcovers_any _ xs w.heap.size _ (HV.out.below HB3.out) HB3.out.size HW.out (by have := H64.out; omega)).mono ?_
  rintro e w4 ⟨u2, rfl, hrow, hb4⟩
  have HB4 := Lib.hid (bstep HB3.out hb4)
  rw [cells_cast, ← castP_len] at hrow
  have HP2 := Lib.hid (prs_of_row hrow)
  have HPP := Lib.hid ((PrsI.below hb4 (PrsI.below (below_drewN (Below.refl w2.heap.size w2) d) HP.out)).mono hb4.size)
  obtain ⟨aU, cU, rfl⟩ := HPP.out.form
  obtain ⟨aV, cV, rfl⟩ := HP2.out.form
  have HL9 := Lib.hid (show (castP (LL.coversL xs)).length ≤ 4160 by rw [castP_len]; have h1 := LL.coversUp_len xs xs.length; have h2 := H64.out; have h3 : xs.length * xs.length ≤ 64 * 64 := Nat.mul_le_mul h2 h2; unfold LL.coversL; omega)
  clear HB3 hb4 hrow HP
  generalize castP (LL.coversL xs) = L at HPP HP2 HL9
  go_wp2_with fail
  have hL9 := HL9.out
  go_loopw [5] (fun k wr => ∃ j d : Nat, j ≤ L.length ∧ k = .int .i64 j ∧ wr = w4.drewN d) (fun k _ => L.length - (intOf k).toNat)
  case atStart => exact ⟨0, 0, by omega, rfl, rfl⟩
  case round =>
    obtain ⟨j, d, hj, rfl, rfl⟩ := hrel
    by_cases hlt : j < L.length
    · obtain ⟨bu, ou, rfl, hbu, hcu⟩ := HPP.out.at (by omega)
      obtain ⟨bv, ov, rfl, hbv, hcv⟩ := HP2.out.at (by omega)
      obtain ⟨u1, u2⟩ := hcu j hlt
      obtain ⟨v1, v2⟩ := hcv j hlt
      have i1 : (0 : Int) ≤ j ∧ (j : Int) < L.length := by omega
      clear hcu hcv
      generalize L[j]?.getD (0, 0) = p at u1 u2 v1 v2
      obtain ⟨p1, p2⟩ := p
      have hE : ∀ W, (Op.equalIn 10000 40 (.agg #[.int .i64 p1, .int .i64 p2]) (.agg #[.int .i64 p1, .int .i64 p2])).run Tryd.prog W = .ok true W := fun W => by rw [eq_pair]; simp
      go_wp2
      go_quiet (fail)
      go_wp2
      go_roundw
      case rel => exact ⟨j + 1, d + nq, by omega, by go_num, rfl⟩
      case measure => simp [intOf]; omega
    · go_wp2_with fail
      refine (awake5_any HBd.out HHt.out _ (by first | exact hTz | exact hTz.on (by assumption) | exact hTz.on HBB.out | exact hTz.alloc _ | exact (hTz.on (by assumption)).alloc _ | exact (hTz.on HBB.out).alloc _ | exact (hTz.on (by assumption)).drewN _ | exact (hTz.on HBB.out).drewN _ | exact (hTz.alloc _).alloc _ | exact ((hTz.on (by assumption)).alloc _).alloc _)).mono ?_
      rintro e w99 ⟨rfl, hb99⟩
      go_wp2_with fail
      go_ret
      exact ⟨rfl, bstep (below_drewN HB4.out d) hb99⟩
set_option maxRecDepth 100000 in
set_option maxHeartbeats 1600000 in
theorem covers_no (hB : BuildC) (hH : HeightC) (hC : CoversC) (x : Addr) (cap : Nat) (xs : List Int) (w : World) (hTz : Tz w) (hv : Nums .u64 w.heap.size w (.slice (some x) xs.length cap) xs) (hw : Wide xs) (hl : xs.length ≤ big5) (hr : LL.rightB xs = false)
    (hnews : ∀ W, Below w.heap.size w W → ∀ j u, (xs.map (Value.int .u64))[j]? = some u → W.cell? (x.add j) = some u) :
    Calls Tryd.prog 7 #[.slice (some x) xs.length cap] w fun e w' => e = .returned (.bool true) ∧ Below w.heap.size w w' := by
  have HBd := Lib.hid hB
  have HHt := Lib.hid hH
  have HCv := Lib.hid hC
  have HV := Lib.hid hv
  have HW := Lib.hid hw
  have HL := Lib.hid hl
  have HR := Lib.hid hr
  have HNw := Lib.hid hnews
  obtain ⟨i0, hi, hz0, hz1, hz2⟩ := info_parts Tryd.infoU64
  have HBB := Lib.hid (Below.refl w.heap.size w)
  have hll := Lib.hid (show (xs.map (Value.int .u64)).length = xs.length * 1 by rw [List.length_map]; omega)
  have hone := Lib.hid (nums_oneCell .u64 xs)
  clear hB hH hC hv hw hl hr hnews
  go_enter Tryd.func7, Tryd.ntmps7
  go_wp2_with (at_builtin
               refine wpList_append_own _ rfl _ _ 23 rfl w.heap.size 45 i0 (.int .u64 0) 1 8 Tryd.underlying23 hi hz0 hz1 hz2 rfl (by decide) _ _ _ rfl (World.ownsRow_lit (base := w.heap.size) (e := 45) (size := 1) _ #[] 0 HBB.out.size (by unfold maxLen; omega) rfl) x xs.length cap (xs.map (Value.int .u64)) rfl hll.out (HNw.out _ (HBB.out.alloc HBB.out.size _)) hone.out (by have := HL.out; simp only [big5] at this; unfold maxLen; omega) (by have := HL.out; simp only [big5] at this; omega) (by have := HBB.out.size; first | (simp; done) | (simp; omega)) ?_
               intro v' w1 hown' hgrow _
               have HQ := Lib.hid (show Nums .u64 w1.heap.size w1 v' xs from nums_of_row (base := w.heap.size) (e := 45) (by simpa using hown'))
               have HB2 := Lib.hid ((HBB.out.alloc HBB.out.size (.cells #[] 45)).grown hgrow (by have := HBB.out.size; first | (simp; done) | (simp; omega)) (fun j hj => ((World.ownsRow_lit (base := w.heap.size) (e := 45) (size := 1) _ #[] 0 HBB.out.size (by unfold maxLen; omega) rfl).lt j hj).1))
               clear HBB hown' hgrow
               have HBB := HB2
               clear HB2)
  refine (HCv.out _ xs _ _ HQ.out (Nat.le_refl _) HW.out HL.out (by first | exact hTz | exact hTz.on (by assumption) | exact hTz.on HBB.out | exact hTz.alloc _ | exact (hTz.on (by assumption)).alloc _ | exact (hTz.on HBB.out).alloc _ | exact (hTz.on (by assumption)).drewN _ | exact (hTz.on HBB.out).drewN _ | exact (hTz.alloc _).alloc _ | exact ((hTz.on (by assumption)).alloc _).alloc _)).mono ?_
  rintro e w2 ⟨u, rfl, hp, hb2⟩
  have HB2 := Lib.hid (bstep HBB.out hb2)
  rw [HR.out, if_neg (by decide)] at hp
  obtain ⟨aU, cU, rfl⟩ := hp.toI.form
  clear HBB hb2 hp
  go_wp2_with fail
  refine (rright_any _ xs w.heap.size _ (HV.out.below HB2.out) HW.out (by have := HL.out; simp only [big5] at this; omega)).mono ?_
  rintro e w3 ⟨rfl, d, rfl⟩
  rw [HR.out]
  have HB3 := Lib.hid (below_drewN HB2.out d)
  clear HB2
  go_wp2_with fail
  go_loop [5] (fun k => k = .int .i64 0) (fun _ => 0)
  case atStart => exact rfl
  case round =>
    obtain rfl := hrel
    go_wp2_with fail
    refine (awake5_any HBd.out HHt.out _ (by first | exact hTz | exact hTz.on (by assumption) | exact hTz.on HBB.out | exact hTz.alloc _ | exact (hTz.on (by assumption)).alloc _ | exact (hTz.on HBB.out).alloc _ | exact (hTz.on (by assumption)).drewN _ | exact (hTz.on HBB.out).drewN _ | exact (hTz.alloc _).alloc _ | exact ((hTz.on (by assumption)).alloc _).alloc _)).mono ?_
    rintro e w99 ⟨rfl, hb99⟩
    go_wp2_with fail
    go_ret
    exact ⟨rfl, bstep HB3.out hb99⟩
set_option maxRecDepth 100000 in
set_option maxHeartbeats 1600000 in
theorem covers_nil (hB : BuildC) (hH : HeightC) (hC : CoversC) (cap : Nat) (w : World) (hTz : Tz w) :
    Calls Tryd.prog 7 #[.slice none 0 cap] w fun e w' => e = .returned (.bool true) ∧ Below w.heap.size w w' := by
  have HBd := Lib.hid hB
  have HHt := Lib.hid hH
  have HCv := Lib.hid hC
  have hx0 : Wide [] := fun x hx => by simp at hx
  clear hB hH hC
  go_enter Tryd.func7, Tryd.ntmps7
  go_wp2_with fail
  refine (HCv.out _ [] 0 _ (nums_empty 0 _ _ _) (Nat.zero_le _) hx0 (Nat.zero_le _) (by first | exact hTz | exact hTz.on (by assumption) | exact hTz.on HBB.out | exact hTz.alloc _ | exact (hTz.on (by assumption)).alloc _ | exact (hTz.on HBB.out).alloc _ | exact (hTz.on (by assumption)).drewN _ | exact (hTz.on HBB.out).drewN _ | exact (hTz.alloc _).alloc _ | exact ((hTz.on (by assumption)).alloc _).alloc _)).mono ?_
  rintro e w2 ⟨u, rfl, hp, hb2⟩
  have HB2 := Lib.hid (show Below w.heap.size w w2 from ((Below.refl _ _).alloc (Nat.le_refl _) _).trans (hb2.mono (by simp)))
  rw [show LL.rightB [] = false from rfl, if_neg (by decide)] at hp
  obtain ⟨aU, cU, rfl⟩ := hp.toI.form
  clear hb2 hp
  go_wp2_with fail
  refine (rright_any _ [] 0 _ (nums_empty 0 _ _ _) hx0 (Nat.zero_le _)).mono ?_
  rintro e w3 ⟨rfl, d, rfl⟩
  rw [show LL.rightB [] = false from rfl]
  have HB3 := Lib.hid (below_drewN HB2.out d)
  clear HB2
  go_wp2_with fail
  go_loop [5] (fun k => k = .int .i64 0) (fun _ => 0)
  case atStart => exact rfl
  case round =>
    obtain rfl := hrel
    go_wp2_with fail
    refine (awake5_any HBd.out HHt.out _ (by first | exact hTz | exact hTz.on (by assumption) | exact hTz.on HBB.out | exact hTz.alloc _ | exact (hTz.on (by assumption)).alloc _ | exact (hTz.on HBB.out).alloc _ | exact (hTz.on (by assumption)).drewN _ | exact (hTz.on HBB.out).drewN _ | exact (hTz.alloc _).alloc _ | exact ((hTz.on (by assumption)).alloc _).alloc _)).mono ?_
    rintro e w99 ⟨rfl, hb99⟩
    go_wp2_with fail
    go_ret
    exact ⟨rfl, bstep HB3.out hb99⟩
theorem latticeCovers_walk (hB : BuildC) (hH : HeightC) (hC : CoversC) (a : Option Addr) (len cap : Nat) (zs : List Int) (w : World) (hTz : Tz w) (hr : IsRow .u64 w a len cap zs) (hlen : len ≤ big5) :
    Calls Tryd.prog 7 #[.slice a len cap] w fun e w' => e = .returned (.bool true) ∧ Below w.heap.size w w' := by
  have HI := nums_of_isRow hr
  have HWd := wide_take (isRow_u64 hr) len
  rcases hr with ⟨rfl, rfl, rfl, rfl⟩ | ⟨x, rfl, hl, hm, hz, hcell, hwz⟩
  · exact covers_nil hB hH hC 0 w hTz
  · have hlz : (zs.take len).length = len := by rw [List.length_take]; omega
    have hn := fun W (h : Below w.heap.size w W) => news5 (W := W) hl hz hcell h
    generalize zs.take len = xs at HI HWd hlz hn
    subst hlz
    cases h : LL.rightB xs
    · exact covers_no hB hH hC x cap xs w hTz HI HWd hlen h hn
    · exact covers_yes hB hH hC x cap xs w hTz HI HWd hlen h hn
end Go.Proofs.YtaaicmldldkhhaaDoor
