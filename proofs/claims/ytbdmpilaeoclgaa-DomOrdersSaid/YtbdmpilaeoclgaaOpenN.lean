import Derived.Test.YtbdmpilaeoclgaaLawDomOrders
import Derived.Deep.Slices
import Derived.Lib.SmallJoins
import Derived.OpenShut
import Derived.ChangeArms
import Derived.ChangeSlices
import Derived.SizedLaws
set_option linter.unusedSimpArgs false
set_option linter.unusedVariables false
/-! the argument of DomOrders: a tree and three nodes -/
namespace Go.Proofs.Ytbdmpilaeoclgaa
open Go.ChangeShapes Go.WideShapes Go.ChangeAt Go.RowKit Go.Deep Go.Joins
theorem open_nodes {H : Type} {enc : TypeId × Value → H} {r : Reach} {b0 : Nat} {W : World} {v : Value} {d : DataW H} {p : List MemPlace}
    (hv : Value.okWide Try.prog W r b0 38 v) (h : DataW.Trod enc Try.prog W 0 (fun _ => true) true 38 v d p)
    (hsz : ∀ n ∈ d.weights Try.prog 38, n ≤ reachBytes) :
    ∃ (a : Option Addr) (len cap : Nat) (A B C : Int) (zs : List Int), v = .agg #[.slice a len cap, .int .i64 A, .int .i64 B, .int .i64 C] ∧ IsRow .i64 W a len cap zs ∧ len ≤ 17592186044416 := by
  obtain ⟨v0, v1, v2, v3, y0, y1, y2, y3, n, rfl, rfl, rfl, h0, h1, h2, h3⟩ := open_agg4 Try.underlying38 (by kernel_rfl) (by kernel_rfl) hv h
  obtain ⟨A, e1, _, _⟩ := DataW.trod_int Try.underlying3 h1
  obtain ⟨B, e2, _, _⟩ := DataW.trod_int Try.underlying3 h2
  obtain ⟨C, e3, _, _⟩ := DataW.trod_int Try.underlying3 h3
  simp at e1 e2 e3
  subst e1 e2 e3
  rcases open_ints Try.underlying24 Try.underlying3 (by kernel_rfl) h0 with ⟨hcs, _⟩ | ⟨x, l, c, zs, hcs, _, hl, hm, hz, hx, hcell, hwz⟩
  · simp at hcs
    subst hcs
    exact ⟨none, 0, 0, A, B, C, [], rfl, .inl ⟨rfl, rfl, rfl, rfl⟩, Nat.zero_le _⟩
  · simp at hcs
    subst hcs
    refine ⟨some x, l, c, A, B, C, zs, rfl, .inr ⟨_, rfl, hl, hm, by simpa using hz, hcell, hwz⟩, ?_⟩
    have hd := (Prod.mk.inj hx).1
    have hzl : zs.length = c := by simpa using hz
    have hw := hsz ((zs.length) * 8) (by
      simp only [DataW.weights, Try.underlying38, hd]
      simp [DataW.weightsEach, DataW.weights, Try.underlying24, lits]
      left
      have e2 : Try.prog.bytesOf 3 = 8 := by kernel_rfl
      rw [e2]
      omega)
    have e1 : reachBytes = 140737488351232 := by decide
    rw [e1] at hw
    omega
end Go.Proofs.Ytbdmpilaeoclgaa
