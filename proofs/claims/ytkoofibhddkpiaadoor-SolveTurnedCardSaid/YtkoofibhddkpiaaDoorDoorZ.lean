import Derived.Test.YtkoofibhddkpiaaDoorDoor
import Derived.Test.YtkoofibhddkpiaaDoorMaskG
/-! the library's table out of a row's list -/
namespace Go.Proofs.YtkoofibhddkpiaaDoor
set_option linter.unusedVariables false
open Go.RowKit
theorem gTz : Tryd.prog.globalNamed "math/bits.deBruijn64tab" = some 0 := by kernel_rfl
theorem gTzType : (Tryd.prog.globals[0]?).map (·.type) = some 84 := by kernel_rfl
def tzL : List Int := Lib.deBruijn64tab.map fun (n : Nat) => (n : Int)
theorem tz_of {l : List (String × DataW Unit)} {W : World} (h : laidMetH Tryd.prog l W)
    (e : ((l.filter fun x => x.2.handleName?.isNone).filter fun x => x.1 == "math/bits.deBruijn64tab") = [("math/bits.deBruijn64tab", Rows.laid_math_bits_deBruijn64tab)]) : Tz W := by
  have h' := laid_one h _ e
  have ht : Lib.TabIs Tryd.prog W "math/bits.deBruijn64tab" .u8 tzL :=
    Lib.tabIs_of_head (rest := []) gTz gTzType Tryd.underlying84 Tryd.underlying5 (by kernel_rfl) (by kernel_rfl) h'
  intro j hj
  have hc := ht.cell gTz j (by unfold tzL; rw [List.length_map]; exact hj)
  rw [hc]
  unfold tzL
  rw [List.getD_eq_getElem?_getD, List.getD_eq_getElem?_getD, List.getElem?_map, List.getElem?_eq_getElem hj]
  rfl
end Go.Proofs.YtkoofibhddkpiaaDoor
