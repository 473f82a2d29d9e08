import Derived.Test.YtdkpnbjkehakjaaGreatDoorDoor
import Derived.Test.YtdkpnbjkehakjaaGreatDoorNumG
import Derived.Stop.LaidErr
/-! strconv's two errors and its table: out of a row's list -/
namespace Go.Proofs.YtdkpnbjkehakjaaGreatDoor
set_option linter.unusedVariables false
open Go.RowKit
theorem gSyn : Tryz.prog.globalNamed "strconv.ErrSyntax" = some 4 := by kernel_rfl
theorem gSynType : (Tryz.prog.globals[4]?).map (·.type) = some 158 := by kernel_rfl
theorem gRan : Tryz.prog.globalNamed "strconv.ErrRange" = some 5 := by kernel_rfl
theorem gRanType : (Tryz.prog.globals[5]?).map (·.type) = some 158 := by kernel_rfl
theorem starErr : "*" ++ "errors.errorString" = "*errors.errorString" := by decide
theorem rowErr (u : TypeId) (h : Tryz.prog.typeName? 3 u = some "*errors.errorString") : u = 187 :=
  typeName_ptr_named (nm := "errors.errorString") (by rw [starErr]; kernel_rfl) (by kernel_rfl) (by decide) u (by rw [starErr]; exact h)
theorem errs_of {l : List (String × DataW Unit)} {W : World} (h : laidMetH Tryz.prog l W)
    (e1 : ((l.filter fun x => x.2.handleName?.isNone).filter fun x => x.1 == "strconv.ErrSyntax") = [("strconv.ErrSyntax", Rows.laid_strconv_ErrSyntax)])
    (e2 : ((l.filter fun x => x.2.handleName?.isNone).filter fun x => x.1 == "strconv.ErrRange") = [("strconv.ErrRange", Rows.laid_strconv_ErrRange)]) : Errs W := by
  obtain ⟨a, _, ha, _⟩ := laid_sentinel (r := []) (laid_one h _ e1) gSyn gSynType Tryz.underlying158 rowErr Tryz.underlying187 Tryz.underlying189 rfl rfl Tryz.underlying9 (by kernel_rfl) (by kernel_rfl)
  obtain ⟨b, _, hb, _⟩ := laid_sentinel (r := []) (laid_one h _ e2) gRan gRanType Tryz.underlying158 rowErr Tryz.underlying187 Tryz.underlying189 rfl rfl Tryz.underlying9 (by kernel_rfl) (by kernel_rfl)
  exact ⟨⟨_, _, ha⟩, _, _, hb⟩
end Go.Proofs.YtdkpnbjkehakjaaGreatDoor
