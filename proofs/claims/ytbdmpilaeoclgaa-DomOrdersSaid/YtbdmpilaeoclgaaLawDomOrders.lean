import Derived.Test.YtbdmpilaeoclgaaOrdA
set_option linter.unusedSimpArgs false
set_option linter.unusedVariables false
/-! DomOrders: the walk -/
namespace Go.Proofs.Ytbdmpilaeoclgaa
open Go.RowKit

theorem dm_any {va : Option Addr} {vc : Nat} {xs : List Int} {w W : World} (HV : RowKit.Hid (Row w.heap.size w (.slice va xs.length vc) xs)) (HL : RowKit.Hid (xs.length ≤ 17592186044416)) (x y : Int) (h : Below w.heap.size w W) :
    Calls Try.prog 21 #[.slice va xs.length vc, .int .i64 x, .int .i64 y] W fun e W' => e = .returned (.bool (DD.domB xs x y)) ∧ Below W.heap.size W W' :=
  ddom_any x y W (HV.out.on h h.size) HL.out

set_option maxRecDepth 100000 in
set_option maxHeartbeats 1600000 in
theorem orders_in {va : Option Addr} {vc : Nat} {xs : List Int} (A B C : Int) (w : World) (HV : RowKit.Hid (Row w.heap.size w (.slice va xs.length vc) xs)) (HL : RowKit.Hid (xs.length ≤ 17592186044416))
    (h64 : xs.length ≤ 64) (HR : RowKit.Hid (DD.treeB xs = true)) (a b c : Nat) (ea : A = (a : Int)) (eb : B = (b : Int)) (ec : C = (c : Int)) (ha : a < xs.length) (hb : b < xs.length) (hc : c < xs.length) :
    Calls Try.prog 7 #[.agg #[.slice va xs.length vc, .int .i64 A, .int .i64 B, .int .i64 C]] w fun e w' => e = .returned (.bool true) ∧ Below w.heap.size w w' := by
  subst ea eb ec
  have HBB := Lib.hid (show Below w.heap.size w (w.alloc (.cells #[.slice va xs.length vc, .int .i64 (a : Int), .int .i64 (b : Int), .int .i64 (c : Int)] 38)) from (Below.refl _ _).alloc (Nat.le_refl _) _)
  have HX := Lib.hid (X5.new w (.slice va xs.length vc) a b c 38)
  obtain ⟨xg, x0, x1, x2, x3⟩ := HX.out
  have n0 : decide ((a : Int) < 0) = false := decide_eq_false (by omega)
  have n1 : decide ((b : Int) < 0) = false := decide_eq_false (by omega)
  have n2 : decide ((c : Int) < 0) = false := decide_eq_false (by omega)
  have n3 : decide ((xs.length : Int) ≤ (a : Int)) = false := decide_eq_false (by omega)
  have n4 : decide ((xs.length : Int) ≤ (b : Int)) = false := decide_eq_false (by omega)
  have n5 : decide ((xs.length : Int) ≤ (c : Int)) = false := decide_eq_false (by omega)
  have m3 : decide (xs.length ≤ a) = false := decide_eq_false (by omega)
  have m4 : decide (xs.length ≤ b) = false := decide_eq_false (by omega)
  have m5 : decide (xs.length ≤ c) = false := decide_eq_false (by omega)
  obtain ⟨p, hp⟩ : ∃ p : Bool, p = ((a : Int) == 0) := ⟨_, rfl⟩
  have F1 := Lib.hid (show DD.domB xs a 0 = p by
    rw [hp]; exact DD.dom_zero HR.out ha)
  have F2 := Lib.hid (show DD.domB xs 0 a = true from (DD.domB_iff (a := 0) (b := a) HR.out ha).2 ((DD.treeB_iff.1 HR.out).2.2 a ha))
  have F3 := Lib.hid (show DD.domB xs a a = true from (DD.domB_iff (a := a) (b := a) HR.out ha).2 (.refl _))
  have hp' : ((a : Int) == 0) = p := hp.symm
  have hpp : (p != p) = false := bne_self_eq_false _
  clear hp
  go_enter Try.func7, Try.ntmps7
  go_wp2_with (first
    | (go_at_call 28
       refine (rright11_any _ xs _ (HV.out.on HBB.out HBB.out.size) (by have := HL.out; omega)).mono ?_
       rintro e w' ⟨rfl, hw⟩
       rw [hw, HR.out]
       clear hw w'))
  clear x0 x1 x2 x3 xg
  obtain ⟨xg, y0, y1, y2, y3⟩ := HX.out
  have hBB := HBB.out
  clear HX
  go_region_held3 (fun W => Below w.heap.size w W ∧ w.heap.size < W.heap.size ∧ W.cell? ⟨w.heap.size, 0, none⟩ = some (.slice va xs.length vc) ∧ W.cell? ⟨w.heap.size, 1, none⟩ = some (.int .i64 (a : Int)) ∧ W.cell? ⟨w.heap.size, 2, none⟩ = some (.int .i64 (b : Int)) ∧ W.cell? ⟨w.heap.size, 3, none⟩ = some (.int .i64 (c : Int)))
    (first | (try go_split_ands; first | (refine keep5 ?_ ?_ ?_ ?_ ?_ ?_ hbn <;> assumption) | (refine keep5d ?_ ?_ ?_ ?_ ?_ ?_ hbn <;> assumption) | (refine keepd ?_ ?_ ?_ ?_ ?_ ?_ <;> assumption)) | go_keep)
    (first
      | (go_at_call 21; try go_split_ands; refine (dm_any HV HL _ _ (by first | assumption | exact below_dN (by assumption) 1 | exact (And.left ‹Below w.heap.size w _ ∧ _›))).mono ?_; rintro e w' ⟨rfl, hbn⟩; first | rw [F1.out] | rw [F2.out] | rw [F3.out]))
  rename_i hH0
  obtain ⟨hBB2, xg2, z0, z1, z2, z3⟩ := hH0
  clear hBB xg y0 y1 y2 y3
  cases e1 : DD.domB xs a c
  · have G1 := Lib.hid e1
    clear e1
    have HBB := Lib.hid hBB2
    go_wp2_with (first
      | (go_at_call 21; refine (dm_any HV HL _ _ HBB.out).mono ?_; rintro e w1 ⟨rfl, hbn⟩; have HB2 := Lib.hid (bstep HBB.out hbn); clear HBB hbn; have HBB := HB2; clear HB2; rw [G1.out])
      | (go_at_call 18; refine (awakeD_any _).mono ?_; rintro e w' ⟨rfl, hbn⟩; have HB2 := Lib.hid (bstep HBB.out hbn); clear HBB hbn; have HBB := HB2; clear HB2))
    go_ret
    exact ⟨rfl, HBB.out⟩
  · cases e2 : DD.domB xs b c
    · have G1 := Lib.hid e1
      have G2 := Lib.hid e2
      clear e1 e2
      have HX2 := Lib.hid (show X5 w.heap.size (.slice va xs.length vc) a b c _ from ⟨xg2, z0, z1, z2, z3⟩)
      have HBB := Lib.hid hBB2
      go_wp2_with fail
      refine (dm_any HV HL _ _ HBB.out).mono ?_
      rintro e w1 ⟨rfl, hbn⟩
      rw [G1.out]
      obtain ⟨yg, t0, t1, t2, t3⟩ := HX2.out.below hbn
      have HB2 := Lib.hid (bstep HBB.out hbn)
      clear hbn HX2 xg2 z0 z1 z2 z3
      go_wp2_with fail
      refine (dm_any HV HL _ _ HB2.out).mono ?_
      rintro e w2 ⟨rfl, hbn⟩
      rw [G2.out]
      have HB3 := Lib.hid (bstep HB2.out hbn)
      clear hbn yg t0 t1 t2 t3 HBB
      go_wp2_with fail
      refine (awakeD_any _).mono ?_
      rintro e w3 ⟨rfl, hbn⟩
      have HB4 := Lib.hid (bstep HB3.out hbn)
      go_wp2_with fail
      go_ret
      exact ⟨rfl, HB4.out⟩
    · have HLN := Lib.hid (DD.up_line ((DD.domB_iff HR.out hc).1 e1) ((DD.domB_iff HR.out hc).1 e2))
      have G1 := Lib.hid e1
      have G2 := Lib.hid e2
      clear e1 e2
      have HX2 := Lib.hid (show X5 w.heap.size (.slice va xs.length vc) a b c _ from ⟨xg2, z0, z1, z2, z3⟩)
      have HBB := Lib.hid hBB2
      go_wp2_with fail
      refine (dm_any HV HL _ _ HBB.out).mono ?_
      rintro e w1 ⟨rfl, hbn⟩
      rw [G1.out]
      have HX3 := Lib.hid (HX2.out.below hbn)
      obtain ⟨yg, t0, t1, t2, t3⟩ := HX3.out
      have HB2 := Lib.hid (bstep HBB.out hbn)
      clear hbn HX2 xg2 z0 z1 z2 z3
      go_wp2_with fail
      refine (dm_any HV HL _ _ HB2.out).mono ?_
      rintro e w2 ⟨rfl, hbn⟩
      rw [G2.out]
      have HX4 := Lib.hid (HX3.out.below hbn)
      have HB3 := Lib.hid (bstep HB2.out hbn)
      clear hbn yg t0 t1 t2 t3 HBB HX3
      obtain ⟨yg, t0, t1, t2, t3⟩ := HX4.out
      have hBB3 := HB3.out
      clear HX4 HB3 HB2
      go_wp2_with fail
      go_region_held3 (fun W => Below w.heap.size w W ∧ w.heap.size < W.heap.size ∧ W.cell? ⟨w.heap.size, 0, none⟩ = some (.slice va xs.length vc) ∧ W.cell? ⟨w.heap.size, 1, none⟩ = some (.int .i64 (a : Int)) ∧ W.cell? ⟨w.heap.size, 2, none⟩ = some (.int .i64 (b : Int)) ∧ W.cell? ⟨w.heap.size, 3, none⟩ = some (.int .i64 (c : Int)))
        (first | (try go_split_ands; first | (refine keep5 ?_ ?_ ?_ ?_ ?_ ?_ hbn <;> assumption) | (refine keep5d ?_ ?_ ?_ ?_ ?_ ?_ hbn <;> assumption) | (refine keepd ?_ ?_ ?_ ?_ ?_ ?_ <;> assumption)) | go_keep)
        (first
      | (go_at_call 21; try go_split_ands; refine (dm_any HV HL _ _ (by first | assumption | exact below_dN (by assumption) 1 | exact (And.left ‹Below w.heap.size w _ ∧ _›))).mono ?_; rintro e w' ⟨rfl, hbn⟩; skip))
      rename_i hH1
      obtain ⟨hBB4, xg4, s0, s1, s2, s3⟩ := hH1
      clear hBB3 yg t0 t1 t2 t3
      have key := DD.dom_both HR.out ha hb HLN.out
      clear HLN
      generalize DD.domB xs a b = o1 at key
      generalize DD.domB xs b a = o2 at key
      obtain ⟨k1, k2⟩ := key
      obtain ⟨q, hq⟩ : ∃ q : Bool, q = ((a : Int) == (b : Int)) := ⟨_, rfl⟩
      rw [← hq] at k2
      have HQ := Lib.hid hq
      clear hq
      cases o1 <;> cases o2 <;> cases q
      all_goals (first | (exfalso; exact absurd k1 (by decide)) | (exfalso; exact absurd k2 (by decide)) | skip)
      all_goals clear k1 k2
      all_goals (first
        | (have e3 : a = b := by have := HQ.out; rw [eq_comm, beq_iff_eq] at this; omega
           subst e3
           clear HQ
           have hq : ((a : Int) == (a : Int)) = true := beq_self_eq_true _
           go_wp2_with fail
           refine (awakeD_any _).mono ?_
           rintro e w5 ⟨rfl, hbn⟩
           have HB5 := Lib.hid (bstep hBB4 hbn)
           clear hbn
           go_wp2_with fail
           go_ret
           exact ⟨rfl, HB5.out⟩)
        | (have hq := HQ.out.symm
           clear HQ
           go_wp2_with fail
           refine (awakeD_any _).mono ?_
           rintro e w5 ⟨rfl, hbn⟩
           have HB5 := Lib.hid (bstep hBB4 hbn)
           clear hbn
           go_wp2_with fail
           go_ret
           exact ⟨rfl, HB5.out⟩))

theorem domOrders_walk {va : Option Addr} {n vc : Nat} {xs : List Int} (A B C : Int) (w : World) (hv : Row w.heap.size w (.slice va n vc) xs) (hn : xs.length = n) (hl : xs.length ≤ 17592186044416) :
    Calls Try.prog 7 #[.agg #[.slice va n vc, .int .i64 A, .int .i64 B, .int .i64 C]] w fun e w' => e = .returned (.bool true) ∧ Below w.heap.size w w' := by
  subst hn
  have HV := Lib.hid hv
  have HL := Lib.hid hl
  by_cases h64 : xs.length ≤ 64
  · cases hr : DD.treeB xs
    · exact orders_no A B C w HV HL h64 (Lib.hid hr)
    · have HR := Lib.hid hr
      cases n0 : decide (A < 0)
      rotate_left
      · exact orders_out0 A B C w HV HL h64 HR n0
      cases n1 : decide (B < 0)
      rotate_left
      · exact orders_out1 A B C w HV HL h64 HR n0 n1
      cases n2 : decide (C < 0)
      rotate_left
      · exact orders_out2 A B C w HV HL h64 HR n0 n1 n2
      cases n3 : decide ((xs.length : Int) ≤ A)
      rotate_left
      · exact orders_out3 A B C w HV HL h64 HR n0 n1 n2 n3
      cases n4 : decide ((xs.length : Int) ≤ B)
      rotate_left
      · exact orders_out4 A B C w HV HL h64 HR n0 n1 n2 n3 n4
      cases n5 : decide ((xs.length : Int) ≤ C)
      rotate_left
      · exact orders_out5 A B C w HV HL h64 HR n0 n1 n2 n3 n4 n5
      rw [decide_eq_false_iff_not] at n0 n1 n2 n3 n4 n5
      exact orders_in A B C w HV HL h64 HR A.toNat B.toNat C.toNat (by omega) (by omega) (by omega) (by omega) (by omega) (by omega)
  · exact orders_long A B C w HV HL h64

end Go.Proofs.Ytbdmpilaeoclgaa

