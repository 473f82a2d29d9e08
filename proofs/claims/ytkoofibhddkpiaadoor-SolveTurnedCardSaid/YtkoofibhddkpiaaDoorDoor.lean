import Derived.Test.YtkoofibhddkpiaaDoorRows
import Derived.LaidSub
import Derived.LaidMore
import Derived.Lib.LaidTab
import Derived.Lib.ItoaNum
import Derived.WalkKit
import Derived.WalkSmall
/-! what the cards of this seat share: the witness's world, the tables out of a row's list -/
namespace Go.Proofs.YtkoofibhddkpiaaDoor
set_option linter.unusedVariables false
open Go.RowKit
theorem own : ownKnob Tryd.prog.godebug = none := by kernel_rfl
theorem laidOut : laidOutB Tryd.prog = true := by kernel_rfl
/-- the heap that the door's own run leaves -/
noncomputable def doorW (os : Os) : World := World.doorLaid Tryd.prog 14 os

theorem bdrew {B : Nat} {a w : World} (h : Below B a w) (n : Nat) : Below B a (w.drewN n) := h.trans ⟨rfl, rfl, rfl, Nat.le_refl _, fun _ _ => rfl⟩
/-- one of the listed tables -/
theorem laid_one {l : List (String × DataW Unit)} {W : World} (h : laidMetH Tryd.prog l W) (keep : String × DataW Unit → Bool) {m : List (String × DataW Unit)}
    (e : ((l.filter fun x => x.2.handleName?.isNone).filter keep) = m) : laidMet Tryd.prog m W := e ▸ (laidMetH_iff.1 h).1.filter keep

end Go.Proofs.YtkoofibhddkpiaaDoor
