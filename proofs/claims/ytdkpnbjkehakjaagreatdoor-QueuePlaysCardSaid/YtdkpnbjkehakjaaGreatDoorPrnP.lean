import Derived.Test.YtdkpnbjkehakjaaGreatDoorPolNM
import Derived.Test.YtdkpnbjkehakjaaGreatDoorLatAll
set_option linter.unusedSimpArgs false
set_option linter.unusedVariables false
/-! plain: which policies may be -/
namespace Go.Proofs.YtdkpnbjkehakjaaGreatDoor
open Go.RowKit

/-- the first k are names, and each of them another one -/
def namesFrom (ss : List ByteArray) : Nat → Nat → Bool
  | 0, _ => true
  | f + 1, k => if pnameB (wd6 ss k) = false then false else if 0 ≤ levelI (ss.take k) (wd6 ss k) then false else namesFrom ss f (k + 1)
def namesP (ss : List ByteArray) : Bool := namesFrom ss ss.length 0
/-- the levels of channels are levels -/
def levsP (n : Int) (cs : List (ByteArray × Int)) : Bool := cs.all fun c => decide (0 ≤ c.2) && decide (c.2 < n)
def chansP (n : Int) (cs : List (ByteArray × Int)) : Bool := decide (cs.length ≤ 32) && levsP n cs && namesP (cs.map (·.1))
/-- may a policy be? -/
def rightP (st : PSt) (S : List Int) : Bool :=
  decide (1 ≤ st.D ∧ st.D ≤ 64) && decide (S.length = st.L.length) && LL.rightB S && namesP st.L && chansP st.L.length st.I && chansP st.L.length st.O

theorem take_wd {ss : List ByteArray} {k j : Nat} (h : j < k) : wd6 (ss.take k) j = wd6 ss j := by
  unfold wd6; rw [List.getElem?_take_of_lt h]
theorem level_hit {ss : List ByteArray} {s : ByteArray} {j : Nat} (h : levelI ss s = (j : Int)) : j < ss.length ∧ (wd6 ss j).toList = s.toList := by
  unfold levelI at h
  rcases idx_range (sameAt ss s) ss.length 0 with h1 | ⟨k, _, h2, h3, h4⟩
  · rw [h1] at h; omega
  · rw [h4] at h
    obtain rfl : k = j := by omega
    unfold sameAt at h3
    exact ⟨by omega, beq_iff_eq.1 h3⟩
end Go.Proofs.YtdkpnbjkehakjaaGreatDoor
