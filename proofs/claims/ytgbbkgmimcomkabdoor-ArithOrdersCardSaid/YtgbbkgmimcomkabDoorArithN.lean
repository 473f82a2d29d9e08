import Derived.Test.YtgbbkgmimcomkabDoorBase
import Derived.WalkSmall
/-! the walks of layer 4's reference: Names, Name, Op -/
namespace Go.Proofs.YtgbbkgmimcomkabDoor
set_option linter.unusedVariables false
open Go.RowKit

/-- the operators' names, in order -/
def opW (k : Nat) : ByteArray :=
  match k with
  | 0 => ⟨#[97, 100, 100]⟩
  | 1 => ⟨#[115, 117, 98]⟩
  | 2 => ⟨#[109, 117, 108]⟩
  | 3 => ⟨#[100, 105, 118]⟩
  | 4 => ⟨#[109, 111, 100]⟩
  | 5 => ⟨#[97, 110, 100]⟩
  | 6 => ⟨#[111, 114]⟩
  | 7 => ⟨#[120, 111, 114]⟩
  | 8 => ⟨#[115, 104, 108]⟩
  | 9 => ⟨#[115, 104, 114]⟩
  | 10 => ⟨#[101, 113]⟩
  | 11 => ⟨#[108, 101, 115, 115]⟩
  | _ => ⟨#[]⟩
def opCells : Obj := .cells #[.string (opW 0), .string (opW 1), .string (opW 2), .string (opW 3), .string (opW 4), .string (opW 5), .string (opW 6), .string (opW 7), .string (opW 8), .string (opW 9), .string (opW 10), .string (opW 11)] 9
theorem opCell (w : World) (k : Nat) (h : k < 12) : (w.alloc opCells).cell? ⟨w.heap.size, k, none⟩ = some (.string (opW k)) := by
  have e : (w.alloc opCells).heap[w.heap.size]? = some opCells := by show (w.heap.push opCells)[w.heap.size]? = _; simp
  have : ∀ j : Fin 12, (match opCells with | .cells cs _ _ => cs[j.val]? | _ => none) = some (.string (opW j.val)) := by
    intro j
    rcases j with ⟨j, hj⟩
    rcases (show j = 0 ∨ j = 1 ∨ j = 2 ∨ j = 3 ∨ j = 4 ∨ j = 5 ∨ j = 6 ∨ j = 7 ∨ j = 8 ∨ j = 9 ∨ j = 10 ∨ j = 11 by omega) with rfl | rfl | rfl | rfl | rfl | rfl | rfl | rfl | rfl | rfl | rfl | rfl <;> rfl
  have h' := this ⟨k, h⟩
  simp only [World.cell?, e]
  exact h'

set_option maxRecDepth 100000 in
set_option maxHeartbeats 800000 in
theorem rnames_any (w : World) :
    Calls Tryd.prog 12 #[] w fun e w' => e = .returned (.slice (some ⟨w.heap.size, 0, none⟩) 12 12) ∧ w' = w.alloc opCells := by
  go_enter Tryd.func12, Tryd.ntmps12
  go_wp2_with fail
  go_ret
  exact ⟨rfl, rfl⟩

/-- the name of an operator; the empty string, if there is none -/
def nameW (op : Int) : ByteArray := if op < 1 ∨ 12 < op then ⟨#[]⟩ else opW (op.toNat - 1)
theorem new_below (w : World) : Below w.heap.size w (w.alloc opCells) := (Below.refl _ _).alloc (Nat.le_refl _) _
theorem ret_str {a b : ByteArray} (h : a = b) : Ending.returned (.string a) = .returned (.string b) := by rw [h]

set_option maxRecDepth 100000 in
set_option maxHeartbeats 1600000 in
theorem rname4_any (op : Int) (h0 : 0 ≤ op) (h1 : op ≤ 255) (w : World) :
    Calls Tryd.prog 8 #[.int .u8 op] w fun e w' => e = .returned (.string (nameW op)) ∧ Below w.heap.size w w' := by
  by_cases ho : op < 1 ∨ 12 < op
  · have HV := Lib.hid (show nameW op = ⟨#[]⟩ by unfold nameW; rw [if_pos ho])
    rcases ho with ho | ho
    · go_enter Tryd.func8, Tryd.ntmps8
      go_wp2_with fail
      go_ret
      exact ⟨ret_str HV.out.symm, Below.refl _ _⟩
    · have h2 : 1 ≤ op := by omega
      go_enter Tryd.func8, Tryd.ntmps8
      go_wp2_with fail
      go_ret
      exact ⟨ret_str HV.out.symm, Below.refl _ _⟩
  · have HV := Lib.hid (show opW (op.toNat - 1) = nameW op by unfold nameW; rw [if_neg ho])
    obtain ⟨k, rfl⟩ : ∃ k : Nat, op = k + 1 := ⟨op.toNat - 1, by omega⟩
    have hk : k < 12 := by omega
    have hc := opCell w k hk
    have e1 : ((k : Int) + 1).toNat - 1 = k := by omega
    rw [e1] at HV
    clear ho
    go_enter Tryd.func8, Tryd.ntmps8
    go_wp2_with fail
    refine (rnames_any _).mono ?_
    rintro e w1 ⟨rfl, rfl⟩
    go_wp2_with fail
    go_ret
    exact ⟨ret_str HV.out, new_below w⟩

/-- the operator of a name; 0, if there is none -/
def opFrom (s : ByteArray) : Nat → Nat → Int
  | 0, _ => 0
  | f + 1, k => if ((opW k).toList == s.toList) = true then (k : Int) + 1 else opFrom s f (k + 1)
def opI (s : ByteArray) : Int := opFrom s 12 0

set_option maxRecDepth 100000 in
set_option maxHeartbeats 1600000 in
theorem rop_any (s : ByteArray) (w : World) :
    Calls Tryd.prog 6 #[.string s] w fun e w' => e = .returned (.int .u8 (opI s)) ∧ Below w.heap.size w w' := by
  have hc : ∀ k, k < 12 → (w.alloc opCells).cell? ⟨w.heap.size, k, none⟩ = some (.string (opW k)) := opCell w
  have HC := Lib.hid hc
  clear hc
  go_enter Tryd.func6, Tryd.ntmps6
  go_wp2_with fail
  refine (rnames_any _).mono ?_
  rintro e w1 ⟨rfl, rfl⟩
  go_wp2_with fail
  go_loopw [4] (fun i wr => ∃ k m : Nat, k ≤ 12 ∧ i = .int .i64 (k : Int) ∧ wr = (w.alloc opCells).drewN m ∧ RowKit.Hid (opI s = opFrom s (12 - k) k)) (fun i _ => 12 - (intOf i).toNat)
  case atStart => exact ⟨0, 0, by omega, rfl, rfl, rfl⟩
  case round =>
    obtain ⟨k, m, hk, rfl, rfl, HP⟩ := hrel
    by_cases hlt : k < 12
    · have hc := HC.out k hlt
      cases ht : ((opW k).toList == s.toList)
      · have HN := Lib.hid (show opI s = opFrom s (12 - (k + 1)) (k + 1) by
          rw [HP.out, show 12 - k = (12 - (k + 1)) + 1 by omega]; simp only [opFrom]; rw [if_neg (by rw [ht]; decide)])
        go_wp2_with fail
        go_roundw
        case rel => exact ⟨k + 1, _, by omega, by go_num, rfl, HN⟩
        case measure => simp [intOf]; omega
      · have HN := Lib.hid (show opI s = (k : Int) + 1 by
          rw [HP.out, show 12 - k = (12 - (k + 1)) + 1 by omega]; simp only [opFrom]; rw [if_pos ht])
        go_wp2_with fail
        go_ret
        exact ⟨ret_int HN.out.symm, below_drewN (new_below w) _⟩
    · obtain rfl : k = 12 := by omega
      go_wp2_with fail
      go_ret
      exact ⟨ret_int HP.out.symm, below_drewN (new_below w) _⟩
end Go.Proofs.YtgbbkgmimcomkabDoor
