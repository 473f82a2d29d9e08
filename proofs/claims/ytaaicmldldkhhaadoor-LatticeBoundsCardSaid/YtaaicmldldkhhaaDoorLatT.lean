import Derived.Test.YtaaicmldldkhhaaDoorLatP
set_option linter.unusedSimpArgs false
set_option linter.unusedVariables false
/-! what the laws of layer 5 call: told, and the project's Join, Meet, Leq at two levels of a lattice -/
namespace Go.Proofs.YtaaicmldldkhhaaDoor
open Go.RowKit
set_option maxHeartbeats 400000 in
theorem told_yes (n : Int) (w : World) : Calls Tryd.prog 32 #[.int .i64 n, .bool true] w fun e w' => e = .returned (.int .i64 n) ∧ w' = w := by
  go_enter Tryd.func32, Tryd.ntmps32
  go_wp2_with fail
  go_ret
  exact ⟨rfl, rfl⟩
theorem inB_yes {xs : List Int} (hr : LL.rightB xs = true) {a b : Nat} (ha : a < xs.length) (hb : b < xs.length) : inB xs a b = true := by
  unfold inB
  rw [hr, decide_eq_true (show (0 : Int) ≤ a by omega), decide_eq_true (show (a : Int) < xs.length by omega), decide_eq_true (show (0 : Int) ≤ b by omega), decide_eq_true (show (b : Int) < xs.length by omega)]; rfl
theorem wf_lev {xs : List Int} (hr : LL.rightB xs = true) {a : Nat} (ha : a < xs.length) : (Lit.int .i64 (a : Int)).wf = true := by
  have := (LL.ord_len (LL.right_ord hr)).2
  simp only [Lit.wf, Bool.and_eq_true, decide_eq_true_eq]
  exact ⟨show (-9223372036854775808 : Int) ≤ (a : Int) by omega, show (a : Int) ≤ (9223372036854775807 : Int) by omega⟩
section
variable {v : Value} {xs : List Int} {w W : World} {a b : Nat}
theorem jn (HJ : RowKit.Hid JoinC) (HV : RowKit.Hid (Nums .u64 w.heap.size w v xs)) (HW : RowKit.Hid (Wide xs)) (HL : RowKit.Hid (xs.length ≤ big5)) (HR : RowKit.Hid (LL.rightB xs = true)) (hB : Below w.heap.size w W) (ha : a < xs.length) (hb : b < xs.length) (hTz : Tz W) :
    Calls Tryd.prog 18 #[v, .int .i64 a, .int .i64 b] W fun e w' => e = .returned (.tuple #[.int .i64 (LL.joinN xs a b : Int), .bool true]) ∧ Below W.heap.size W w' := by
  refine (HJ.out v xs w.heap.size a b W (HV.out.below hB) hB.size HW.out HL.out (wf_lev HR.out ha) (wf_lev HR.out hb) (by first | exact hTz | exact hTz.on (by assumption) | exact hTz.on HBB.out | exact hTz.alloc _ | exact (hTz.on (by assumption)).alloc _ | exact (hTz.on HBB.out).alloc _ | exact (hTz.alloc _).alloc _ | exact ((hTz.on (by assumption)).alloc _).alloc _)).mono ?_
  rintro e w' ⟨rfl, h⟩
  rw [inB_yes HR.out ha hb, if_pos rfl, Int.toNat_natCast, Int.toNat_natCast, (LL.joinN_is HR.out ha hb).2]
  exact ⟨rfl, h⟩
theorem mn (HJ : RowKit.Hid MeetC) (HV : RowKit.Hid (Nums .u64 w.heap.size w v xs)) (HW : RowKit.Hid (Wide xs)) (HL : RowKit.Hid (xs.length ≤ big5)) (HR : RowKit.Hid (LL.rightB xs = true)) (hB : Below w.heap.size w W) (ha : a < xs.length) (hb : b < xs.length) (hTz : Tz W) :
    Calls Tryd.prog 19 #[v, .int .i64 a, .int .i64 b] W fun e w' => e = .returned (.tuple #[.int .i64 (LL.meetN xs a b : Int), .bool true]) ∧ Below W.heap.size W w' := by
  refine (HJ.out v xs w.heap.size a b W (HV.out.below hB) hB.size HW.out HL.out (wf_lev HR.out ha) (wf_lev HR.out hb) (by first | exact hTz | exact hTz.on (by assumption) | exact hTz.on HBB.out | exact hTz.alloc _ | exact (hTz.on (by assumption)).alloc _ | exact (hTz.on HBB.out).alloc _ | exact (hTz.alloc _).alloc _ | exact ((hTz.on (by assumption)).alloc _).alloc _)).mono ?_
  rintro e w' ⟨rfl, h⟩
  rw [inB_yes HR.out ha hb, if_pos rfl, Int.toNat_natCast, Int.toNat_natCast, (LL.meetN_is HR.out ha hb).2]
  exact ⟨rfl, h⟩
theorem lq (HJ : RowKit.Hid LeqC) (HV : RowKit.Hid (Nums .u64 w.heap.size w v xs)) (HW : RowKit.Hid (Wide xs)) (HL : RowKit.Hid (xs.length ≤ big5)) (HR : RowKit.Hid (LL.rightB xs = true)) (hB : Below w.heap.size w W) (ha : a < xs.length) (hb : b < xs.length) (hTz : Tz W) :
    Calls Tryd.prog 20 #[v, .int .i64 a, .int .i64 b] W fun e w' => e = .returned (.bool (LL.ab xs a b)) ∧ Below W.heap.size W w' := by
  refine (HJ.out v xs w.heap.size a b W (HV.out.below hB) hB.size HW.out HL.out (wf_lev HR.out ha) (wf_lev HR.out hb) (by first | exact hTz | exact hTz.on (by assumption) | exact hTz.on HBB.out | exact hTz.alloc _ | exact (hTz.on (by assumption)).alloc _ | exact (hTz.on HBB.out).alloc _ | exact (hTz.alloc _).alloc _ | exact ((hTz.on (by assumption)).alloc _).alloc _)).mono ?_
  rintro e w' ⟨rfl, h⟩
  rw [inB_yes HR.out ha hb, Bool.true_and, Int.toNat_natCast, Int.toNat_natCast]
  exact ⟨rfl, h⟩
end
end Go.Proofs.YtaaicmldldkhhaaDoor
