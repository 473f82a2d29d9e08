import Derived.Test.YtbdmpilaeoclgaaGraO
import Derived.Test.YtbdmpilaeoclgaaLaysG
import Derived.Lib.OwnBridge
set_option linter.unusedSimpArgs false
set_option linter.unusedVariables false
/-! graphs: Order -/
namespace Go.Proofs.Ytbdmpilaeoclgaa
open Go.RowKit
def NewInts (B : Nat) (l : List Int) (e : Ending) (W W' : World) : Prop := ∃ v, e = .returned v ∧ Row W'.heap.size W' v l ∧ Below B W W'
def orderE (to : List (List Int)) : List Int := if GG.rightG to = true then GG.orderL to else []
theorem run_ne (adj : Nat → List Nat) : ∃ t : GG.St, GG.runG adj [0] = (t.1, t.2 ++ [0]) := by
  unfold GG.runG GG.runF
  obtain ⟨t, e⟩ := GG.dfs_head (adj := adj) (f := 256) (i := 0) (s := ((fun _ => false), [])) rfl
  simp only [List.foldl_cons, List.foldl_nil]
  exact ⟨t, e⟩
/-- what the turning of a row leaves -/
theorem turned {B n : Nat} {W w : World} {bv : Value} {zs : List Int} (hB : Below B W w) (ho : w.ownsRow B 3 1 bv n (intsV zs)) (hzn : zs.length = n) (h0 : 0 < n) (hl : n ≤ 17592186044416) :
    ∃ g cap, bv = .slice (some ⟨g, 0, none⟩) n cap ∧ Calls Try.prog 61 #[.slice (some ⟨g, 0, none⟩) n cap] w fun e w' => e = .returned (.tuple #[]) ∧ Row w'.heap.size w' (.slice (some ⟨g, 0, none⟩) n cap) zs.reverse ∧ Below B W w' := by
  subst hzn
  obtain ⟨g, cap, rfl, hb, hg, hn, hm, hzl, hH⟩ := Lib.holds_of_ownsRow (enc := Value.int .i64) ho (fun e => by
    rcases ho.2 with ⟨_, h1⟩ | ⟨g, cap, cur, e1, _⟩
    · omega
    · rw [e] at e1; cases e1)
  refine ⟨g, cap, rfl, (Try.slices_Reverse_int g 0 cap zs w hH (by omega)).mono ?_⟩
  rintro e w' ⟨rfl, n, rfl⟩
  have h := Lib.ownsRow_putRow (q := n) (k := zs.length) (ys := zs.reverse) ho (by simp) (Nat.le_refl _)
  rw [List.take_of_length_le (by simp)] at h
  refine ⟨rfl, ?_, Lib.below_putRow hB hb⟩
  exact cells_of_row h
theorem walk_zero {v : Value} {to : List (List Int)} (u : Value) (W : World) (hr : GG.rightG to = true) (hv : GraphM W.heap.size W v to) (hu : Row W.heap.size W u [0]) :
    Calls Try.prog 53 #[v, u] W fun e W' => WalkP W.heap.size (GG.runG (GG.adjOf to) [0]) e W W' := by
  have h := walk_any u [0] W hr hv hu (by simp) (by intro x hx; rw [List.mem_singleton.1 hx]; have := GG.right_len hr; omega)
  have hm : List.map Int.toNat [(0 : Int)] = [0] := rfl
  rw [hm] at h
  exact h
set_option maxRecDepth 100000 in
set_option maxHeartbeats 3200000 in
theorem order_any {v : Value} {to : List (List Int)} (W : World) (hv : GraphM W.heap.size W v to) (hx : Small to) :
    Calls Try.prog 39 #[v] W fun e W' => NewInts W.heap.size (orderE to) e W W' := by
  have hx0 := hx.1
  have HV := Lib.hid hv
  have HX := Lib.hid hx
  obtain ⟨va, vc, rfl⟩ := hv.form
  clear hv hx
  cases hr : GG.rightG to
  · have HR := Lib.hid hr
    have HE := Lib.hid (show orderE to = [] by unfold orderE; rw [if_neg (by rw [hr]; simp)])
    clear hr
    go_enter Try.func39, Try.ntmps39
    go_wp2_with (go_at_call 25; refine (rightG_any _ to _ HV.out HX.out).mono ?_; rintro e w' ⟨rfl, hB⟩; have HB := Lib.hid hB; clear hB; rw [HR.out])
    go_ret
    exact ⟨_, rfl, by rw [HE.out]; exact cells_empty _ _ _ _ (fun _ => rfl), HB.out⟩
  · have HR := Lib.hid hr
    have hlen := GG.right_len hr
    have HLN := Lib.hid (show (GG.runG (GG.adjOf to) [0]).2.length ≤ 256 by
      have := runT_len hr (l := [0]) (by intro x hx; rw [List.mem_singleton.1 hx]; omega) 1
      rw [runT_all _ (by simp)] at this
      simp only [List.map_cons, List.map_nil, Int.toNat_zero] at this
      omega)
    have HNE := Lib.hid (show 0 < (GG.runG (GG.adjOf to) [0]).2.length by
      obtain ⟨t, e⟩ := run_ne (GG.adjOf to)
      rw [e]; simp)
    have HE := Lib.hid (show orderE to = ((GG.runG (GG.adjOf to) [0]).2.map Int.ofNat).reverse by
      unfold orderE GG.orderL
      rw [if_pos hr, List.map_reverse])
    have hz := fun (w : World) => run_zero46 w
    have HWK := Lib.hid (fun u W1 h1 h2 => walk_zero (v := .slice va to.length vc) (to := to) u W1 hr h1 h2)
    clear hr
    generalize GG.runG (GG.adjOf to) [0] = s at HWK HLN HNE HE
    go_enter Try.func39, Try.ntmps39
    go_wp2_with (first
      | (go_at_call 25; refine (rightG_any _ to _ HV.out HX.out).mono ?_; rintro e w' ⟨rfl, hB⟩; have HB := Lib.hid hB; clear hB; rw [HR.out])
      | (go_at_call 53
         refine (HWK.out _ _ (HV.out.on (HB.out.alloc HB.out.size _) (by have := HB.out.size; simp; omega)) (row_lit _ _ _)).mono ?_
         rintro e w' ⟨cs, bv, rfl, hn, hc, ho, hs, hB2⟩
         have HCN := Lib.hid hn
         have HB2 := Lib.hid (bstep (HB.out.alloc HB.out.size _) hB2)
         have HONE := Lib.hid (one_of hn hc)
         have HTU := Lib.hid (turned (n := s.2.length) (zs := s.2.map Int.ofNat) (HB2.out.alloc HB2.out.size (.cells cs 53)) ((own_base (by have := HB.out.size; simp; omega) ho).alloc _) (by rw [List.length_map]) HNE.out (by have := HLN.out; omega))
         clear hn hc ho hs hB2
         obtain ⟨g, cap, hbv, HRV⟩ := HTU.out
         subst hbv)
      | (refine wpList_store_row rfl 53 (.tmp 3) (.tmp 12) rfl _ cs rfl rfl 53 falses (heap_alloc_new _ _) (by rw [HCN.out]; kernel_rfl) (by rw [HCN.out]; simp [falses]) HONE.out ?_
         rw [setRow_new])
      | (go_at_call 61; refine HRV.mono ?_; rintro e w3 ⟨rfl, hR3, hB3⟩; have HR3 := Lib.hid hR3; have HB3 := Lib.hid hB3; clear hR3 hB3))
    go_ret
    exact ⟨_, rfl, by rw [HE.out]; exact HR3.out, HB3.out⟩
end Go.Proofs.Ytbdmpilaeoclgaa
