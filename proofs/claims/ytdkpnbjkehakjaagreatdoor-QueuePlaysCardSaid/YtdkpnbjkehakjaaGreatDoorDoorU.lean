import Derived.Test.YtdkpnbjkehakjaaGreatDoorDoor
import Derived.Test.YtdkpnbjkehakjaaGreatDoorLays
import Derived.Lib.LaidU8
/-! the two tables of unicode/utf8: out of a row's list; the witness's world that holds them -/
namespace Go.Proofs.YtdkpnbjkehakjaaGreatDoor
set_option linter.unusedVariables false
open Go.RowKit
theorem utabs_of {l : List (String × DataW Unit)} {W : World} (h : laidMetH Tryz.prog l W)
    (e : ((l.filter fun x => x.2.handleName?.isNone).filter fun x => x.1 == "unicode/utf8.first" || x.1 == "unicode/utf8.acceptRanges") = [("unicode/utf8.acceptRanges", Rows.laid_unicode_utf8_acceptRanges), ("unicode/utf8.first", Rows.laid_unicode_utf8_first)]) :
    Lib.Utf8Tabs 0 1 W := by
  have h' := laid_one h _ e
  have ea : (Rows.laid_unicode_utf8_acceptRanges : DataW Unit) = Lib.acceptData := by kernel_rfl
  have ef : (Rows.laid_unicode_utf8_first : DataW Unit) = Lib.firstData := by kernel_rfl
  rw [ea, ef] at h'
  exact utf8Tabs_of_reads (ρ := Tryz.lays260_ren) { Tryz.lays260 with } ⟨by kernel_rfl, by kernel_rfl, by kernel_rfl, by kernel_rfl, by kernel_rfl, by kernel_rfl, by kernel_rfl⟩
    (Lib.laidMet.reads h' (.tail _ (.head _))) (Lib.laidMet.reads h' (.head _))

/-- the door's heap, and the pinned table unicode/utf8.first -/
noncomputable def doorU (os : Os) : World :=
  { doorW os with heap := (doorW os).heap.modify 0 fun
      | .cells _ t frozen => .cells (Lib.firstTab.map fun z => Value.int .u8 z).toArray t frozen
      | o => o }
end Go.Proofs.YtdkpnbjkehakjaaGreatDoor
