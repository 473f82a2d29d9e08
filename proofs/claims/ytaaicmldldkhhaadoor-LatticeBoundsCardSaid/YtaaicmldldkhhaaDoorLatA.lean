import Derived.Test.YtaaicmldldkhhaaDoorNums
import Derived.Test.YtaaicmldldkhhaaDoorMaskW
import Derived.Test.YtaaicmldldkhhaaDoorLatM
/-! the walks of layer 5's reference: Above -/
namespace Go.Proofs.YtaaicmldldkhhaaDoor
set_option linter.unusedVariables false
open Go.RowKit

/-- masks: numbers of 64 bits -/
def Wide (xs : List Int) : Prop := ∀ x ∈ xs, 0 ≤ x ∧ x ≤ 18446744073709551615
theorem Wide.at {xs : List Int} (h : Wide xs) (i : Nat) : 0 ≤ xs[i]?.getD 0 ∧ xs[i]?.getD 0 ≤ 18446744073709551615 := by
  cases e : xs[i]? with
  | none => simp
  | some x => exact h x (List.mem_of_getElem? e)

set_option maxHeartbeats 400000 in
theorem above_any (v : Value) (xs : List Int) (n₀ : Nat) (w : World) (hv : Nums .u64 n₀ w v xs) (hx : Wide xs) (a : Nat) (b : Int) (ha : a < xs.length) :
    Calls Tryd.prog 23 #[v, .int .i64 a, .int .i64 b] w fun e w' => e = .returned (.bool (MM.hasB (xs[a]?.getD 0) b)) ∧ w = w' := by
  obtain ⟨bk, off, cap, rfl, hb, hc⟩ := hv.at (by omega)
  have hc1 := hc a ha
  have hx1 := hx.at a
  have HX := Lib.hid hx1
  have i1 : (0 : Int) ≤ a ∧ (a : Int) < xs.length := by omega
  clear hc hx hv hx1
  generalize xs[a]?.getD 0 = m at hc1 HX
  go_enter Tryd.func23, Tryd.ntmps23
  go_wp2_with fail
  refine (rhas_any _ _ _ HX.out.1 HX.out.2).mono ?_
  rintro e w' ⟨rfl, rfl⟩
  go_wp2_with fail
  go_ret
  exact ⟨rfl, rfl⟩

/-- .. at two numbers -/
theorem abv_any {v : Value} {xs : List Int} {n₀ : Nat} {w : World} (HV : RowKit.Hid (Nums .u64 n₀ w v xs)) (HX : RowKit.Hid (Wide xs)) (a b : Nat) (ha : a < xs.length) :
    Calls Tryd.prog 23 #[v, .int .i64 a, .int .i64 b] w fun e w' => e = .returned (.bool (LL.ab xs a b)) ∧ w = w' :=
  above_any v xs n₀ w HV.out HX.out a b ha
/-- .. within a region that draws its order -/
theorem abv_q {v : Value} {xs : List Int} {n₀ : Nat} {w : World} (HV : RowKit.Hid (Nums .u64 n₀ w v xs)) (HX : RowKit.Hid (Wide xs)) {a b : Nat} {t : Bool} (h : RowKit.Hid (LL.ab xs a b = t)) (ha : a < xs.length) (m n : Nat) :
    Calls Tryd.prog 23 #[v, .int .i64 a, .int .i64 b] (w.drewN (m + n)) fun e w' => e = .returned (.bool t) ∧ ∃ k, w' = w.drewN (m + k) := by
  refine (above_any v xs n₀ (w.drewN (m + n)) (HV.out.drewN (m + n)) HX.out a b ha).mono ?_
  rintro e w' ⟨rfl, rfl⟩
  have e : MM.hasB (xs[a]?.getD 0) (b : Int) = t := h.out
  exact ⟨by rw [e], n, rfl⟩
theorem abv_q0 {v : Value} {xs : List Int} {n₀ : Nat} {w : World} (HV : RowKit.Hid (Nums .u64 n₀ w v xs)) (HX : RowKit.Hid (Wide xs)) {a b : Nat} {t : Bool} (h : RowKit.Hid (LL.ab xs a b = t)) (ha : a < xs.length) (n : Nat) :
    Calls Tryd.prog 23 #[v, .int .i64 a, .int .i64 b] (w.drewN n) fun e w' => e = .returned (.bool t) ∧ ∃ k, w' = w.drewN k := by
  refine (above_any v xs n₀ (w.drewN n) (HV.out.drewN n) HX.out a b ha).mono ?_
  rintro e w' ⟨rfl, rfl⟩
  have e : MM.hasB (xs[a]?.getD 0) (b : Int) = t := h.out
  exact ⟨by rw [e], n, rfl⟩
end Go.Proofs.YtaaicmldldkhhaaDoor
