import Derived.Test.YtbdmpilaeoclgaaGraL
set_option linter.unusedSimpArgs false
set_option linter.unusedVariables false
/-! graphs: least, Lost -/
namespace Go.Proofs.Ytbdmpilaeoclgaa
open Go.RowKit
/-- what 'least' and its callers hand back: a number, if it is not below 0 -/
def foundN (x : Int) : Int := if 0 ≤ x then x else 0
def foundB (x : Int) : Bool := decide (0 ≤ x)
def foundE (x : Int) : Ending := .returned (.tuple #[.int .i64 (foundN x), .bool (foundB x)])
theorem foundE_hit (k : Nat) : foundE (k : Int) = .returned (.tuple #[.int .i64 (k : Int), .bool true]) := by
  unfold foundE foundN foundB; rw [if_pos (by omega), decide_eq_true (by omega)]
theorem foundE_none : foundE (-1) = .returned (.tuple #[.int .i64 0, .bool false]) := by
  unfold foundE foundN foundB; rw [if_neg (by omega), decide_eq_false (by omega)]
set_option maxRecDepth 100000 in
set_option maxHeartbeats 800000 in
theorem least_any (cs : Array Value) (B : Nat → Bool) (n : Nat) (W : World) (hn : cs.size = 256) (hc : ∀ i, i < 256 → cs[i]? = some (.bool (B i))) (h : n ≤ 256) :
    Calls Try.prog 54 #[.agg cs, .int .i64 n] W fun e W' => e = foundE (GG.firstN n (fun x => !B x)) ∧ Below W.heap.size W W' := by
  have HF := Lib.hid (flags_of W cs B hn hc)
  clear hn hc
  go_enter Try.func54, Try.ntmps54
  go_wp2_with fail
  go_loop [8] (fun k => ∃ i : Nat, i ≤ n ∧ k = .int .i64 (i : Int) ∧ RowKit.Hid (∀ j, j < i → (fun x => !B x) j = false)) (fun k => n - (intOf k).toNat)
  case atStart => exact ⟨0, Nat.zero_le _, rfl, Lib.hid (fun j hj => absurd hj (Nat.not_lt_zero _))⟩
  case round =>
    obtain ⟨i, hi, rfl, HN⟩ := hrel
    by_cases hlt : i < n
    · have hc := HF.out.cell (show i < 256 by omega)
      have i1 : (0 : Int) ≤ i ∧ (i : Int) < 256 := by omega
      cases hb : B i
      · rw [hb] at hc
        have HS := Lib.hid (GG.firstN_hit (p := fun x => !B x) hlt (by show (!B i) = true; rw [hb]; rfl) HN.out)
        clear hb
        go_wp2_with fail
        go_ret2
        exact ⟨by rw [HS.out]; exact (foundE_hit i).symm, (Below.refl _ _).alloc (Nat.le_refl _) _⟩
      · rw [hb] at hc
        have HS := Lib.hid (show ∀ j, j < i + 1 → (fun x => !B x) j = false from fun j hj => (Nat.lt_succ_iff_lt_or_eq.1 hj).elim (HN.out j) (fun e => by rw [e]; show (!B i) = false; rw [hb]; rfl))
        clear hb
        go_wp2_with fail
        go_round
        case rel => exact ⟨i + 1, by omega, by go_num, HS⟩
        case measure => simp [intOf]; omega
    · have HS := Lib.hid (GG.firstN_none (n := n) (p := fun x => !B x) (fun j hj => HN.out j (by omega)))
      go_wp2_with fail
      go_ret2
      exact ⟨by rw [HS.out]; exact foundE_none.symm, (Below.refl _ _).alloc (Nat.le_refl _) _⟩

/-- the least that is not reached; -1: there is none, or no such graph -/
def lostI (to : List (List Int)) : Int := if GG.rightG to = true then GG.firstN to.length (fun x => !GG.reachB to (-1) 0 x) else -1
def stuckI (to : List (List Int)) : Int := if GG.rightG to = true then GG.firstN to.length (fun x => !GG.endsB to x) else -1

set_option maxRecDepth 100000 in
set_option maxHeartbeats 3200000 in
theorem lost_any {v : Value} {to : List (List Int)} (W : World) (hv : GraphM W.heap.size W v to) (hx : Small to) :
    Calls Try.prog 26 #[v] W fun e W' => e = foundE (lostI to) ∧ Below W.heap.size W W' := by
  have hx0 := hx.1
  have HV := Lib.hid hv
  have HX := Lib.hid hx
  obtain ⟨va, vc, rfl⟩ := hv.form
  clear hv hx
  cases hr : GG.rightG to
  · have HR := Lib.hid hr
    have HE := Lib.hid (show lostI to = -1 by unfold lostI; rw [if_neg (by rw [hr]; simp)])
    clear hr
    go_enter Try.func26, Try.ntmps26
    go_wp2_with (go_at_call 25; refine (rightG_any _ to _ HV.out HX.out).mono ?_; rintro e w' ⟨rfl, hB⟩; have HB := Lib.hid hB; clear hB; rw [HR.out])
    go_ret2
    exact ⟨by rw [HE.out]; exact foundE_none.symm, HB.out⟩
  · have HR := Lib.hid hr
    have hlen := GG.right_len hr
    have HE := Lib.hid (show lostI to = GG.firstN to.length (fun x => !(GG.runG (GG.adjOf to) [0]).1 x) by
      unfold lostI
      rw [if_pos hr]
      exact GG.firstN_congr fun x _ => by unfold GG.reachB; rw [GG.adjN_none _ _ (by decide)])
    have hz := fun (w : World) => run_zero46 w
    clear hr
    go_enter Try.func26, Try.ntmps26
    go_wp2_with (first
      | (go_at_call 25; refine (rightG_any _ to _ HV.out HX.out).mono ?_; rintro e w' ⟨rfl, hB⟩; have HB := Lib.hid hB; clear hB; rw [HR.out])
      | (go_at_call 53
         refine (walk_any (to := to) _ [0] _ HR.out (HV.out.on (HB.out.alloc HB.out.size _) (by have := HB.out.size; simp; omega)) (row_lit _ _ _) (by simp) (by intro x hx; rw [List.mem_singleton.1 hx]; omega)).mono ?_
         rintro e w' ⟨cs, bv, rfl, hn, hc, ho, hs, hB2⟩
         have HCN := Lib.hid hn
         have HCI := Lib.hid hc
         have HB2 := Lib.hid (bstep (HB.out.alloc HB.out.size _) hB2)
         have HONE := Lib.hid (one_of hn hc)
         have hgn := heap_alloc_new w' (.cells cs 53)
         clear hn hc ho hs hB2)
      | (refine wpList_store_row rfl 53 (.tmp 4) (.tmp 13) rfl _ cs rfl rfl 53 falses (heap_alloc_new _ _) (by rw [HCN.out]; kernel_rfl) (by rw [HCN.out]; simp [falses]) HONE.out ?_
         rw [setRow_new])
      | (refine wpList_load_row rfl 53 (.tmp 4) rfl _ rfl 53 cs (0, 0) _ (heap_alloc_new _ _) Try.underlying53 rfl (by rw [HCN.out]; kernel_rfl) ?_)
      | (go_at_call 54
         refine (least_any cs _ to.length _ HCN.out HCI.out hlen.2).mono ?_
         rintro e w3 ⟨rfl, hB3⟩
         have HB3 := Lib.hid (bstep (HB2.out.alloc HB2.out.size _) hB3)
         clear hB3
         unfold foundE))
    go_ret2
    exact ⟨by rw [HE.out]; rfl, HB3.out⟩
end Go.Proofs.Ytbdmpilaeoclgaa
