import Derived.Test.YtdkpnbjkehakjaaGreatDoorRows
import Derived.LaidSub
import Derived.LaidMore
import Derived.Lib.LaidTab
import Derived.Lib.ItoaNum
import Derived.WalkKit
import Derived.WalkSmall
/-! what the cards of this seat share: the witness's world, the tables out of a row's list -/
namespace Go.Proofs.YtdkpnbjkehakjaaGreatDoor
set_option linter.unusedVariables false
open Go.RowKit
theorem own : ownKnob Tryz.prog.godebug = none := by kernel_rfl
theorem laidOut : laidOutB Tryz.prog = true := by kernel_rfl
/-- the heap that the door's own run leaves -/
noncomputable def doorW (os : Os) : World := World.doorLaid Tryz.prog 72 os

theorem bdrew {B : Nat} {a w : World} (h : Below B a w) (n : Nat) : Below B a (w.drewN n) := h.trans ⟨rfl, rfl, rfl, Nat.le_refl _, fun _ _ => rfl⟩
/-- one of the listed tables -/
theorem laid_one {l : List (String × DataW Unit)} {W : World} (h : laidMetH Tryz.prog l W) (keep : String × DataW Unit → Bool) {m : List (String × DataW Unit)}
    (e : ((l.filter fun x => x.2.handleName?.isNone).filter keep) = m) : laidMet Tryz.prog m W := e ▸ (laidMetH_iff.1 h).1.filter keep

theorem gPow : Tryz.prog.globalNamed "internal/strconv.uint64pow10" = some 6 := by kernel_rfl
theorem gPowType : (Tryz.prog.globals[6]?).map (·.type) = some 191 := by kernel_rfl
theorem pow_of {W : World} (h : laidMet Tryz.prog [("internal/strconv.uint64pow10", Rows.laid_internal_strconv_uint64pow10)] W) :
    Lib.TabIs Tryz.prog W "internal/strconv.uint64pow10" .u64 Lib.pow10Tab :=
  Lib.tabIs_of_head (rest := []) gPow gPowType Tryz.underlying191 Tryz.underlying117 (by kernel_rfl) (by kernel_rfl) h
end Go.Proofs.YtdkpnbjkehakjaaGreatDoor
