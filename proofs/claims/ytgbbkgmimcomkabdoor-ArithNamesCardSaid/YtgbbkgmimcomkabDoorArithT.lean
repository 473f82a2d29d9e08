import Derived.Test.YtgbbkgmimcomkabDoorArithN
import Derived.Test.YtgbbkgmimcomkabDoorArithA
import Derived.Test.YtgbbkgmimcomkabDoorStrTab
/-! layer 4: the project's table of names, Op, Name -/
namespace Go.Proofs.YtgbbkgmimcomkabDoor
set_option linter.unusedVariables false
open Go.RowKit

theorem lt_of_cell {w : World} {a : Addr} {v : Value} (h : w.cell? a = some v) : a.block < w.heap.size := by
  rcases Nat.lt_or_ge a.block w.heap.size with h' | h'
  · exact h'
  · simp [World.cell?, Array.getElem?_eq_none h'] at h
/-- the table of the operators' names -/
def nameT (k : Nat) : ByteArray := match k with | 0 => ⟨#[]⟩ | k + 1 => opW k
def namesL : List (List UInt8) := [[], [97, 100, 100], [115, 117, 98], [109, 117, 108], [100, 105, 118], [109, 111, 100], [97, 110, 100], [111, 114], [120, 111, 114], [115, 104, 108], [115, 104, 114], [101, 113], [108, 101, 115, 115]]
def Names (w : World) : Prop := ∀ k : Nat, k < 13 → w.cell? ⟨0, k, none⟩ = some (.string (nameT k))
theorem gNames : Tryd.prog.globalNamed "interdict/arith.names" = some 0 := by kernel_rfl
theorem gNamesType : (Tryd.prog.globals[0]?).map (·.type) = some 31 := by kernel_rfl
theorem names_of {W : World} (h : laidMet Tryd.prog [("interdict/arith.names", Rows.laid_interdict_arith_names)] W) : Names W := by
  have e := strs_of_head (zs := namesL) (rest := []) gNames gNamesType Tryd.underlying31 Tryd.underlying9 (by kernel_rfl) (by kernel_rfl) h
  intro k hk
  rw [World.var?_cell gNames e k]
  rcases (show k = 0 ∨ k = 1 ∨ k = 2 ∨ k = 3 ∨ k = 4 ∨ k = 5 ∨ k = 6 ∨ k = 7 ∨ k = 8 ∨ k = 9 ∨ k = 10 ∨ k = 11 ∨ k = 12 by omega) with rfl | rfl | rfl | rfl | rfl | rfl | rfl | rfl | rfl | rfl | rfl | rfl | rfl <;> rfl
theorem Names.below {w w' : World} (h : Names w) (hb : Below w.heap.size w w') : Names w' := fun k hk => (hb.cell (lt_of_cell (h k hk))).trans (h k hk)

set_option maxRecDepth 100000 in
set_option maxHeartbeats 1600000 in
theorem name4_any (op : Int) (h0 : 0 ≤ op) (h1 : op ≤ 255) (w : World) (hN : Names w) :
    Calls Tryd.prog 7 #[.int .u8 op] w fun e w' => e = .returned (.string (nameW op)) ∧ w' = w := by
  by_cases ho : 13 ≤ op
  · have HV := Lib.hid (show nameW op = ⟨#[]⟩ by unfold nameW; rw [if_pos (.inr (by omega))])
    clear hN
    go_enter Tryd.func7, Tryd.ntmps7
    go_wp2_with fail
    go_ret
    exact ⟨ret_str HV.out.symm, rfl⟩
  · obtain ⟨k, rfl⟩ : ∃ k : Nat, op = k := ⟨op.toNat, by omega⟩
    have hk : k < 13 := by omega
    have hc := hN k hk
    have HV := Lib.hid (show nameT k = nameW k by
      unfold nameW
      cases k with
      | zero => rfl
      | succ k => rw [if_neg (by omega)]; show opW k = opW _; congr 1)
    clear hN ho
    go_enter Tryd.func7, Tryd.ntmps7
    go_wp2_with fail
    go_ret
    exact ⟨ret_str HV.out, rfl⟩

theorem ret_op {s : ByteArray} {x : Int} (h : opI s = x) (hx : x ≠ 0) : Ending.returned (.tuple #[.int .u8 x, .bool true]) = .returned (.tuple #[.int .u8 (opI s), .bool (opI s != 0)]) := by
  rw [h, show (x != 0) = true by rw [bne_iff_ne]; exact hx]
theorem ret_op0 {s : ByteArray} (h : opI s = 0) : Ending.returned (.tuple #[.int .u8 0, .bool false]) = .returned (.tuple #[.int .u8 (opI s), .bool (opI s != 0)]) := by
  rw [h]; rfl
set_option maxRecDepth 100000 in
set_option maxHeartbeats 1600000 in
theorem op4_any (s : ByteArray) (w : World) (hN : Names w) :
    Calls Tryd.prog 5 #[.string s] w fun e w' => e = .returned (.tuple #[.int .u8 (opI s), .bool (opI s != 0)]) ∧ Below w.heap.size w w' := by
  have HN := Lib.hid hN
  clear hN
  go_enter Tryd.func5, Tryd.ntmps5
  go_wp2_with fail
  go_loop [4] (fun i => ∃ k : Nat, k ≤ 12 ∧ i = .int .u8 ((k : Int) + 1) ∧ RowKit.Hid (opI s = opFrom s (12 - k) k)) (fun i => 13 - (intOf i).toNat)
  case atStart => exact ⟨0, by omega, rfl, rfl⟩
  case round =>
    obtain ⟨k, hk, rfl, HP⟩ := hrel
    by_cases hlt : k < 12
    · have hc := HN.out (k + 1) (by omega)
      rw [show nameT (k + 1) = opW k from rfl] at hc
      have hle : (k : Int) + 1 ≤ 12 := by omega
      have e1 : ((k : Int) + 1).toNat = k + 1 := by omega
      cases ht : ((opW k).toList == s.toList)
      · have HX := Lib.hid (show opI s = opFrom s (12 - (k + 1)) (k + 1) by
          rw [HP.out, show 12 - k = (12 - (k + 1)) + 1 by omega]; simp only [opFrom]; rw [if_neg (by rw [ht]; decide)])
        go_wp2_with fail
        go_round
        case rel => exact ⟨k + 1, by omega, by go_num, HX⟩
        case measure => simp [intOf]; omega
      · have HX := Lib.hid (show opI s = (k : Int) + 1 by
          rw [HP.out, show 12 - k = (12 - (k + 1)) + 1 by omega]; simp only [opFrom]; rw [if_pos ht])
        go_wp2_with fail
        go_ret2
        exact ⟨ret_op HX.out (by omega), Below.refl _ _⟩
    · obtain rfl : k = 12 := by omega
      go_wp2_with fail
      go_ret2
      exact ⟨ret_op0 HP.out, Below.refl _ _⟩
end Go.Proofs.YtgbbkgmimcomkabDoor
