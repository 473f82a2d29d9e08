import Derived.Test.YtbdmpilaeoclgaaDomW
set_option linter.unusedSimpArgs false
set_option linter.unusedVariables false
/-! dom: who dominates whom (the reference); what the tree of a graph says -/
namespace Go.Proofs.Ytbdmpilaeoclgaa
open Go.RowKit
/-- what is reached from the first node without a -/
def avB (to : List (List Int)) (a b : Nat) : Bool := decide (a ≠ 0) && GG.reachB to a 0 b
theorem av_any {v : Value} {to : List (List Int)} (a : Nat) (W : World) (hv : GraphM W.heap.size W v to) (hr : GG.rightG to = true) :
    Calls Try.prog 48 #[v, .int .i64 0, .int .i64 a] W fun e W' => NewFlags W to.length (avB to a) e W' := by
  have hl := GG.right_len hr
  by_cases h : a = 0
  · subst h
    refine (without_same 0 W hv hl.2).mono fun e W' h => ⟨h.1, World.rowIs.congr h.2.1 (fun i _ => ?_), h.2.2⟩
    unfold avB; simp
  · refine (without_new 0 a W hv hr (by omega) (by omega)).mono fun e W' h' => ⟨h'.1, World.rowIs.congr h'.2.1 (fun i _ => ?_), h'.2.2⟩
    unfold avB; rw [decide_eq_true h, Bool.true_and]
theorem ovB_eq (to : List (List Int)) (a b : Nat) : DD.ovB to a b = (decide (a = b) || !avB to a b) := rfl
set_option maxHeartbeats 800000 in
theorem rdom_any {v : Value} {to : List (List Int)} (a b : Nat) (W : World) (hv : GraphM W.heap.size W v to) (hr : GG.rightG to = true) (ha : a < to.length) (hb : b < to.length) :
    Calls Try.prog 27 #[v, .int .i64 a, .int .i64 b] W fun e W' => e = .returned (.bool (DD.ovB to a b)) ∧ Below W.heap.size W W' := by
  have HV := Lib.hid hv
  have HR := Lib.hid hr
  obtain ⟨va, vc, rfl⟩ := hv.form
  clear hv hr
  by_cases h : a = b
  · subst h
    have HS := Lib.hid (show DD.ovB to a a = true by rw [ovB_eq, decide_eq_true rfl, Bool.true_or])
    have he : ((a : Int) == (a : Int)) = true := beq_self_eq_true _
    go_enter Try.func27, Try.ntmps27
    go_wp2_with fail
    go_ret
    exact ⟨ret_bool HS.out.symm, Below.refl _ _⟩
  · have HS := Lib.hid (show DD.ovB to a b = !avB to a b by rw [ovB_eq, decide_eq_false h, Bool.false_or])
    have he : ((a : Int) == (b : Int)) = false := beq_eq_false_iff_ne.2 (by omega)
    have i1 : (0 : Int) ≤ b ∧ (b : Int) < to.length := by omega
    go_enter Try.func27, Try.ntmps27
    go_wp2_with (go_at_call 48
                 refine (av_any a _ HV.out HR.out).mono ?_
                 rintro e w1 ⟨rfl, hf, hB⟩
                 have hcb := World.rowIs.cell hf hb
                 have HB := Lib.hid hB
                 clear hf hB)
    go_ret
    exact ⟨ret_bool HS.out.symm, HB.out⟩
end Go.Proofs.Ytbdmpilaeoclgaa
namespace Go.Proofs.Ytbdmpilaeoclgaa.DD
open GG
theorem treeL_no {to : List (List Int)} (h : ¬ (rightG to = true ∧ allB to = true)) : treeL to = [] := by unfold treeL; rw [if_neg h]
section
variable {to : List (List Int)} {T : Nat → Int}
theorem fin_fn (hr : rightG to = true) (ha : allB to = true) (F : Fin to.length (adjOf to) (plOf to) T) : fnOf (treeL to) = T := by
  rw [← fin_list hr ha F]; exact fnOf_range F.inv.out
theorem treeL_len (hr : rightG to = true) (ha : allB to = true) : (treeL to).length = to.length := by unfold treeL domsL; rw [if_pos ⟨hr, ha⟩]; simp
theorem fin_tree (hr : rightG to = true) (ha : allB to = true) (F : Fin to.length (adjOf to) (plOf to) T) : treeB (treeL to) = true := by
  have hl := right_len hr
  refine treeB_iff.2 ⟨by rw [treeL_len hr ha]; exact hl, by rw [fin_fn hr ha F]; exact F.inv.root, fun i hi => ?_⟩
  rw [fin_fn hr ha F]
  rw [treeL_len hr ha] at hi
  exact F.inv.to_root _ i (Nat.le_refl _) (F.all i hi)
theorem fin_dom (hr : rightG to = true) (ha : allB to = true) (F : Fin to.length (adjOf to) (plOf to) T) {a b : Nat} (hb : b < to.length) : domB (treeL to) a b = ovB to a b := by
  have h1 := domB_iff (a := a) (b := b) (fin_tree hr ha F) (by rw [treeL_len hr ha]; exact hb)
  rw [fin_fn hr ha F] at h1
  have h2 := (ov_iff hr a b).trans (F.dom b a hb).symm
  cases c1 : domB (treeL to) a b
  · cases c2 : ovB to a b
    · rfl
    · exact absurd (h1.2 (h2.1 c2)) (by rw [c1]; simp)
  · exact (h2.2 (h1.1 c1)).symm
end
end Go.Proofs.Ytbdmpilaeoclgaa.DD
