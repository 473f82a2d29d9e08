import Derived.Test.YtbelhoeailjkkaaCalT
import Derived.Test.YtbelhoeailjkkaaGraD
set_option linter.unusedSimpArgs false
set_option linter.unusedVariables false
/-! CallsEntries: the reference's Entries, the walk -/
namespace Go.Proofs.Ytbelhoeailjkkaa
open Go.RowKit CC
/-- is there a circle that main reaches and that leads to i, among the first k? -/
def cirK (to : List (List Int)) (main i k : Nat) : Bool := (List.range k).any fun j => leadL to main j && leadL to j i && rcB to j
theorem cirK_succ (to : List (List Int)) (main i k : Nat) : cirK to main i (k + 1) = (cirK to main i k || (leadL to main k && leadL to k i && rcB to k)) := by
  unfold cirK
  rw [List.range_succ, List.any_append]
  simp
theorem cirK_iff {to : List (List Int)} {main i : Nat} : cirK to main i to.length = true ↔ ∃ k, k < to.length ∧ leadL to main k = true ∧ leadL to k i = true ∧ CC.circP (GG.adjOf to) (leadL to) k := by
  unfold cirK
  rw [List.any_eq_true]
  constructor
  · rintro ⟨k, hk, h⟩
    rw [Bool.and_eq_true, Bool.and_eq_true] at h
    exact ⟨k, List.mem_range.1 hk, h.1.1, h.1.2, rcB_iff.1 h.2⟩
  · rintro ⟨k, hk, h1, h2, h3⟩
    exact ⟨k, List.mem_range.2 hk, by rw [h1, h2, rcB_iff.2 h3]; rfl⟩
theorem ent_zero {to : List (List Int)} (h : GG.rightG to = true) {main i : Nat} (hm : main < to.length) (hi : i < to.length) (hl : leadL to main i = false) : entriesL to main i = 0 := (entries_spec h hm i hi).z.2 hl
theorem ent_round {to : List (List Int)} (h : GG.rightG to = true) {main i : Nat} (hm : main < to.length) (hi : i < to.length) (hl : leadL to main i = true) (hc : cirK to main i to.length = true) : entriesL to main i = -1 := by
  obtain ⟨k, _, h1, h2, h3⟩ := cirK_iff.1 hc
  exact (entries_spec h hm i hi).m.2 ⟨hl, k, h1, h2, h3⟩
theorem ent_long {to : List (List Int)} (h : GG.rightG to = true) {main i : Nat} (hm : main < to.length) (hi : i < to.length) (hl : leadL to main i = true) (hc : cirK to main i to.length = false) : CC.LongH to.length (GG.adjOf to) (leadL to) main i (entriesL to main) :=
  ⟨lead_pre h, lead_adj h, hm, hi, hl, fun x hx => entries_spec h hm x hx, fun k hk h1 h2 h3 => by
    have := cirK_iff.2 ⟨k, hk, h1, h2, h3⟩
    rw [hc] at this
    cases this⟩
theorem ent_range_succ (f : Nat → Int) (i : Nat) : intsV ((List.range (i + 1)).map f) = intsV ((List.range i).map f) ++ [.int .i64 (f i)] := by
  simp [intsV, List.range_succ]
theorem ent_none {to : List (List Int)} {main : Int} (h : ¬ (GG.rightG to = true ∧ GG.inB to.length main = true)) : entL to main = [] := by unfold entL; rw [if_neg h]

set_option maxRecDepth 100000 in
set_option maxHeartbeats 12800000 in
theorem rentries_any {v : Value} {to : List (List Int)} (main : Int) (W : World) (hv : GraphM W.heap.size W v to) (hx : Small to) :
    Calls Try.prog 14 #[v, .int .i64 main] W fun e W' => ∃ u, e = .returned u ∧ Row W'.heap.size W' u (entL to main) ∧ Below W.heap.size W W' := by
  have HV := Lib.hid hv
  have HX := Lib.hid hx
  obtain ⟨va, vc, rfl⟩ := hv.form
  clear hv hx
  cases hr : GG.rightG to
  · have HR := Lib.hid hr
    have HE := Lib.hid (ent_none (to := to) (main := main) (fun h => by rw [hr] at h; exact absurd h.1 (by decide)))
    clear hr
    go_enter Try.func14, Try.ntmps14
    go_wp2_with fail
    refine (rrightG_any _ to _ _ HV.out HX.out).mono ?_
    rintro e w1 ⟨rfl, d, e1⟩
    rw [HR.out, e1]
    clear e1
    go_wp2_with fail
    go_ret
    exact ⟨_, rfl, by rw [HE.out]; exact cells_empty _ _ _ _ (fun _ => rfl), (Below.refl _ _).trans ⟨rfl, rfl, rfl, Nat.le_refl _, fun _ _ => rfl⟩⟩
  · have HR := Lib.hid hr
    have hlen := GG.right_len hr
    by_cases c1 : main < 0
    · have HE := Lib.hid (ent_none (to := to) (main := main) (fun h => by have := of_decide_eq_true h.2; omega))
      have t1 : decide (main < 0) = true := decide_eq_true c1
      clear hr
      go_enter Try.func14, Try.ntmps14
      go_wp2_with fail
      refine (rrightG_any _ to _ _ HV.out HX.out).mono ?_
      rintro e w1 ⟨rfl, d, e1⟩
      rw [HR.out, e1]
      clear e1
      go_wp2_with fail
      go_ret
      exact ⟨_, rfl, by rw [HE.out]; exact cells_empty _ _ _ _ (fun _ => rfl), (Below.refl _ _).trans ⟨rfl, rfl, rfl, Nat.le_refl _, fun _ _ => rfl⟩⟩
    · have t1 : decide (main < 0) = false := decide_eq_false c1
      by_cases c2 : (to.length : Int) ≤ main
      · have HE := Lib.hid (ent_none (to := to) (main := main) (fun h => by have := of_decide_eq_true h.2; omega))
        have t2 : decide ((to.length : Int) ≤ main) = true := decide_eq_true c2
        clear hr
        go_enter Try.func14, Try.ntmps14
        go_wp2_with fail
        refine (rrightG_any _ to _ _ HV.out HX.out).mono ?_
        rintro e w1 ⟨rfl, d, e1⟩
        rw [HR.out, e1]
        clear e1
        go_wp2_with fail
        go_ret
        exact ⟨_, rfl, by rw [HE.out]; exact cells_empty _ _ _ _ (fun _ => rfl), (Below.refl _ _).trans ⟨rfl, rfl, rfl, Nat.le_refl _, fun _ _ => rfl⟩⟩
      · have t2 : decide ((to.length : Int) ≤ main) = false := decide_eq_false c2
        obtain ⟨m, rfl⟩ : ∃ m : Nat, main = (m : Int) := ⟨main.toNat, by omega⟩
        have hmn : m < to.length := by omega
        have t3 : decide (to.length ≤ m) = false := decide_eq_false (by omega)
        have HE := Lib.hid (show entL to (m : Int) = (List.range to.length).map (entriesL to m) by unfold entL; rw [if_pos ⟨hr, decide_eq_true (by omega)⟩, Int.toNat_natCast])
        have HZ := Lib.hid (fun i (hi : i < to.length) => ent_zero hr (i := i) hmn hi)
        have HRO := Lib.hid (fun i (hi : i < to.length) => ent_round hr (i := i) hmn hi)
        have HLO := Lib.hid (fun i (hi : i < to.length) => ent_long hr (i := i) hmn hi)
        obtain ⟨i0, hi0, hy0, hy1, hy2⟩ := info_parts Try.infoGInt
        clear hr c1 c2
        go_enter Try.func14, Try.ntmps14
        go_wp2_with fail
        refine (rrightG_any _ to _ _ HV.out HX.out).mono ?_
        rintro e w1 ⟨rfl, d, e1⟩
        rw [HR.out, e1]
        have HB1 := Lib.hid (show Below W.heap.size W (W.drewN d) from (Below.refl _ _).trans ⟨rfl, rfl, rfl, Nat.le_refl _, fun _ _ => rfl⟩)
        clear e1
        generalize W.drewN d = w1 at HB1 ⊢
        go_wp2_with fail
        refine (rreaches_any (to := to) w1 (HV.out.on HB1.out HB1.out.size) HR.out).mono ?_
        rintro e w2 ⟨bv, rfl, hbt, hb2⟩
        have HBT := Lib.hid hbt
        obtain ⟨bb, bf, bc, _, _, _, e0, _⟩ := hbt.at (show 0 < to.length by omega) (show 0 < to.length by omega)
        subst e0
        have HB2 := Lib.hid (HB1.out.trans (hb2.mono HB1.out.size))
        clear hbt hb2
        go_wp2_with fail
        go_loopw [6, 7] (fun out k wr => ∃ i : Nat, i ≤ to.length ∧ k = .int .i64 (i : Int) ∧ RowKit.Hid (wr.ownsRow w2.heap.size 3 1 out i (intsV ((List.range i).map (entriesL to m))) ∧ Below w2.heap.size w2 wr)) (fun _ k _ => to.length - (intOf k).toNat)
        case atStart => exact ⟨0, by omega, rfl, Lib.hid ⟨World.ownsRow_nil _ _ _ _, Below.refl _ _⟩⟩
        case round =>
          obtain ⟨w3, rfl⟩ : ∃ w3, w3 = wr := ⟨_, rfl⟩
          obtain ⟨i, hi, rfl, HQ⟩ := hrel
          obtain ⟨oa, oc, rfl⟩ := CC.ownOf HQ.out.1
          by_cases hin : i < to.length
          · have HIN := Lib.hid hin
            have HO := Lib.hid HQ.out.1
            have HB3 := Lib.hid HQ.out.2
            have HT3 := Lib.hid (HBT.out.below HB3.out)
            have HBW := Lib.hid (HB2.out.trans (HB3.out.mono HB2.out.size))
            clear HQ
            obtain ⟨tb, tf, tc, rb, rf, rc, e3, hr3, hc3⟩ := HT3.out.at hmn hin
            cases e3
            have j1 : (0 : Int) ≤ m ∧ (m : Int) < to.length := by omega
            have j2 : (0 : Int) ≤ i ∧ (i : Int) < to.length := by omega
            have HNX := Lib.hid (fun (V : World) (hV : Below w2.heap.size w2 V) (hO : V.ownsRow w2.heap.size 3 1 (.slice oa i oc) i (intsV ((List.range i).map (entriesL to m)))) (Z : World) (v1 : Value) (ho : Z.ownsRow w2.heap.size 3 1 v1 (i + 1) (intsV ((List.range i).map (entriesL to m)) ++ [.int .i64 (entriesL to m i)])) (hg : (V.alloc (.cells #[.int .i64 (entriesL to m i)] 3)).grownBy Z (Value.slice oa i oc).ownBlock) => show Z.ownsRow w2.heap.size 3 1 v1 (i + 1) (intsV ((List.range (i + 1)).map (entriesL to m))) ∧ Below w2.heap.size w2 Z from ⟨by rw [ent_range_succ]; exact ho, (hV.alloc hV.size _).grown hg (by have := hV.size; simp; omega) (fun k e => (hO.lt k e).1)⟩)
            obtain ⟨l, hl⟩ : ∃ l, l = leadL to m i := ⟨_, rfl⟩
            rw [← hl] at hc3
            have HL := Lib.hid hl
            clear hl
            cases l
            · have HEI := Lib.hid (HZ.out i HIN.out HL.out.symm)
              have hz0 : ((0 : Int) == 0) = true := rfl
              obtain ⟨x, hx⟩ : ∃ x, x = entriesL to m i := ⟨_, rfl⟩
              rw [← hx] at HEI HNX
              have hx0 : x = 0 := HEI.out
              subst hx0
              clear hx
              go_wp2_with (at_builtin
                           refine GG.wpList_append_any rfl _ _ 28 rfl w2.heap.size 3 i0 (.int .i64 0) 1 8 Try.underlying28 hi0 hy0 hy1 hy2 rfl (by decide) (.slice oa i oc) i (intsV ((List.range i).map (entriesL to m))) rfl (HO.out.alloc _) (.slice (some ⟨w3.heap.size, 0, none⟩) 1 1) 1 [.int .i64 0] rfl rfl (.inr ⟨_, _, rfl, GG.cell_one _ _ _⟩) (by intro u hu; rw [List.mem_singleton.1 hu]; rfl) (by unfold maxLen; omega) (by omega) (by have := HB3.out.size; simp; omega) ?_
                           intro v1 w9 ho hg
                           have HN9 := Lib.hid (HNX.out w3 HB3.out HO.out w9 v1 ho hg)
                           clear ho hg)
              go_roundw
              case rel => exact ⟨i + 1, by have := HIN.out; omega, by go_num, HN9⟩
              case measure => have := HIN.out; simp [intOf]; omega
            · go_wp2_with fail
              clear hr3 hc3
              go_loopw [8, 9] (fun nv k wr => ∃ q : Nat, q ≤ to.length ∧ k = .int .i64 (q : Int) ∧ w3 = wr ∧ ∃ t : Int, nv = .int .i64 t ∧ RowKit.Hid (t = if cirK to m i q = true then -1 else 0)) (fun _ k _ => to.length - (intOf k).toNat)
              case atStart => exact ⟨0, by omega, rfl, rfl, 0, rfl, Lib.hid (by simp [cirK])⟩
              case round =>
                obtain ⟨q, hq, rfl, rfl, t, rfl, HT⟩ := hrel
                by_cases hqn : q < to.length
                · have HQN := Lib.hid hqn
                  obtain ⟨tb1, tf1, tc1, rb1, rf1, rc1, e1, hr1, hc1⟩ := HT3.out.at hmn hqn
                  cases e1
                  obtain ⟨tb2, tf2, tc2, rb2, rf2, rc2, e2, hr2, hc2⟩ := HT3.out.at hqn HIN.out
                  cases e2
                  have j3 : (0 : Int) ≤ q ∧ (q : Int) < to.length := by omega
                  have HSU := Lib.hid (cirK_succ to m i q)
                  obtain ⟨z1, hz1⟩ : ∃ z1, z1 = leadL to m q := ⟨_, rfl⟩
                  obtain ⟨z2, hz2⟩ : ∃ z2, z2 = leadL to q i := ⟨_, rfl⟩
                  rw [← hz1] at hc1
                  rw [← hz2] at hc2
                  cases z1
                  · have HN := Lib.hid (show t = if cirK to m i (q + 1) = true then -1 else 0 by rw [HSU.out, ← hz1]; simp only [Bool.false_and, Bool.or_false]; exact HT.out)
                    clear hz1 hz2
                    go_wp2_with fail
                    go_roundw
                    case rel => exact ⟨q + 1, by have := HQN.out; omega, by go_num, by first | rfl | trivial, t, rfl, HN⟩
                    case measure => have := HQN.out; simp [intOf]; omega
                  · cases z2
                    · have HN := Lib.hid (show t = if cirK to m i (q + 1) = true then -1 else 0 by rw [HSU.out, ← hz2]; simp only [Bool.and_false, Bool.false_and, Bool.or_false]; exact HT.out)
                      clear hz1 hz2
                      go_wp2_with fail
                      go_roundw
                      case rel => exact ⟨q + 1, by have := HQN.out; omega, by go_num, by first | rfl | trivial, t, rfl, HN⟩
                      case measure => have := HQN.out; simp [intOf]; omega
                    · obtain ⟨z3, hz3⟩ : ∃ z3, z3 = rcB to q := ⟨_, rfl⟩
                      have HZ3 := Lib.hid hz3.symm
                      cases z3
                      · have HN := Lib.hid (show t = if cirK to m i (q + 1) = true then -1 else 0 by rw [HSU.out, ← hz3]; simp only [Bool.and_false, Bool.or_false]; exact HT.out)
                        clear hz1 hz2 hz3
                        go_wp2_with (go_at_call 31; refine (rcircle_any (n₀ := w2.heap.size) q w3 ((HV.out.on HB2.out HB2.out.size).below HB3.out) HT3.out HR.out HQN.out).mono ?_; rintro e w' ⟨rfl, e8⟩; rw [e8, HZ3.out]; clear e8)
                        go_roundw
                        case rel => exact ⟨q + 1, by have := HQN.out; omega, by go_num, by first | rfl | trivial, t, rfl, HN⟩
                        case measure => have := HQN.out; simp [intOf]; omega
                      · have HN := Lib.hid (show (-1 : Int) = if cirK to m i (q + 1) = true then -1 else 0 by rw [HSU.out, ← hz1, ← hz2, ← hz3]; simp)
                        clear hz1 hz2 hz3
                        go_wp2_with (go_at_call 31; refine (rcircle_any (n₀ := w2.heap.size) q w3 ((HV.out.on HB2.out HB2.out.size).below HB3.out) HT3.out HR.out HQN.out).mono ?_; rintro e w' ⟨rfl, e8⟩; rw [e8, HZ3.out]; clear e8)
                        go_roundw
                        case rel => exact ⟨q + 1, by have := HQN.out; omega, by go_num, by first | rfl | trivial, -1, rfl, HN⟩
                        case measure => have := HQN.out; simp [intOf]; omega
                · have HQE := Lib.hid (show q = to.length by omega)
                  cases hck : cirK to m i to.length
                  · have HT0 := Lib.hid (show t = 0 by have h := HT.out; rw [HQE.out, hck] at h; exact h)
                    have HLH := Lib.hid (HLO.out i HIN.out HL.out.symm hck)
                    have ht := HT0.out
                    subst ht
                    clear hck HT
                    obtain ⟨x, hx⟩ : ∃ x, x = entriesL to m i := ⟨_, rfl⟩
                    have HXX := Lib.hid hx
                    rw [← hx] at HNX
                    clear hx
                    go_wp2_with fail
                    refine (rlong_any (n₀ := w2.heap.size) w3 ((HV.out.on HB2.out HB2.out.size).below HB3.out) HT3.out HB3.out.size HR.out HLH.out).mono ?_
                    rintro e w4 ⟨rfl, hb4⟩
                    rw [← HXX.out]
                    have HB4 := Lib.hid (HB3.out.trans (hb4.mono HB3.out.size))
                    have HO4 := Lib.hid (show w4.ownsRow w2.heap.size 3 1 (.slice oa i oc) i (intsV ((List.range i).map (entriesL to m))) from own_of_block HO.out (fun k e => hb4.block _ (HO.out.lt k e).2))
                    clear hb4
                    go_wp2_with (at_builtin
                                 refine GG.wpList_append_any rfl _ _ 28 rfl w2.heap.size 3 i0 (.int .i64 0) 1 8 Try.underlying28 hi0 hy0 hy1 hy2 rfl (by decide) (.slice oa i oc) i (intsV ((List.range i).map (entriesL to m))) rfl (HO4.out.alloc _) (.slice (some ⟨w4.heap.size, 0, none⟩) 1 1) 1 [.int .i64 x] rfl rfl (.inr ⟨_, _, rfl, GG.cell_one _ _ _⟩) (by intro u hu; rw [List.mem_singleton.1 hu]; rfl) (by unfold maxLen; omega) (by omega) (by have := HB4.out.size; simp; omega) ?_
                                 intro v1 w9 ho hg
                                 have HN9 := Lib.hid (HNX.out w4 HB4.out HO4.out w9 v1 ho hg)
                                 clear ho hg)
                    go_roundw
                    case rel => exact ⟨i + 1, by have := HIN.out; omega, by go_num, HN9⟩
                    case measure => have := HIN.out; simp [intOf]; omega
                  · have HT0 := Lib.hid (show t = -1 by have h := HT.out; rw [HQE.out, hck] at h; exact h)
                    have HEI := Lib.hid (HRO.out i HIN.out HL.out.symm hck)
                    have ht := HT0.out
                    subst ht
                    clear hck HT
                    obtain ⟨x, hx⟩ : ∃ x, x = entriesL to m i := ⟨_, rfl⟩
                    rw [← hx] at HEI HNX
                    have hx0 : x = -1 := HEI.out
                    subst hx0
                    clear hx
                    go_wp2_with (at_builtin
                                 refine GG.wpList_append_any rfl _ _ 28 rfl w2.heap.size 3 i0 (.int .i64 0) 1 8 Try.underlying28 hi0 hy0 hy1 hy2 rfl (by decide) (.slice oa i oc) i (intsV ((List.range i).map (entriesL to m))) rfl (HO.out.alloc _) (.slice (some ⟨w3.heap.size, 0, none⟩) 1 1) 1 [.int .i64 (-1)] rfl rfl (.inr ⟨_, _, rfl, GG.cell_one _ _ _⟩) (by intro u hu; rw [List.mem_singleton.1 hu]; rfl) (by unfold maxLen; omega) (by omega) (by have := HB3.out.size; simp; omega) ?_
                                 intro v1 w9 ho hg
                                 have HN9 := Lib.hid (HNX.out w3 HB3.out HO.out w9 v1 ho hg)
                                 clear ho hg)
                    go_roundw
                    case rel => exact ⟨i + 1, by have := HIN.out; omega, by go_num, HN9⟩
                    case measure => have := HIN.out; simp [intOf]; omega
          · have HF := Lib.hid (show w3.ownsRow w2.heap.size 3 1 (.slice oa i oc) to.length (intsV ((List.range to.length).map (entriesL to m))) by have h := HQ.out.1; rwa [show i = to.length by omega] at h ⊢)
            have HBF := Lib.hid (HB2.out.trans (HQ.out.2.mono HB2.out.size))
            clear HQ
            go_wp2_with fail
            go_ret
            exact ⟨_, rfl, by rw [HE.out]; exact cells_of_row HF.out, HBF.out⟩
theorem ent_small (to : List (List Int)) (main : Int) (hx : Small to) : (entL to main).length ≤ 17592186044416 := by
  unfold entL
  split
  · rw [List.length_map, List.length_range]; exact hx.1
  · simp

set_option maxRecDepth 100000 in
set_option maxHeartbeats 3200000 in
theorem callsEntries_walk (v : Value) (to : List (List Int)) (main : Int) (W : World) (hv : GraphM W.heap.size W v to) (hx : Small to) :
    Calls Try.prog 4 #[v, .int .i64 main] W fun e W' => e = .returned (.bool true) ∧ Below W.heap.size W W' := by
  have HV := Lib.hid hv
  have HX := Lib.hid hx
  obtain ⟨va, vc, rfl⟩ := hv.form
  clear hv hx
  by_cases c1 : 30 < to.length
  · have t1 : decide ((30 : Int) < (to.length : Int)) = true := decide_eq_true (by omega)
    have t2 : decide (30 < to.length) = true := decide_eq_true c1
    go_enter Try.func4, Try.ntmps4
    go_wp2_with fail
    go_ret
    exact ⟨rfl, Below.refl _ _⟩
  · have t1 : decide ((30 : Int) < (to.length : Int)) = false := decide_eq_false (by omega)
    have t2 : decide (30 < to.length) = false := decide_eq_false c1
    go_enter Try.func4, Try.ntmps4
    go_wp2_with fail
    refine (copyG_any _ to W HV.out HX.out (by omega)).mono ?_
    rintro e w1 ⟨cv, rfl, hc, hb1⟩
    have HC1 := Lib.hid hc
    have HB1 := Lib.hid hb1
    obtain ⟨ca, cc, rfl⟩ := hc.form
    clear hc hb1
    go_wp2_with fail
    refine (centries_any (to := to) main w1 HC1.out HX.out).mono ?_
    rintro e w2 ⟨u, rfl, hr2, hb2⟩
    have HR2 := Lib.hid hr2
    have HB2 := Lib.hid (HB1.out.trans (hb2.mono HB1.out.size))
    obtain ⟨ua, uc, rfl⟩ := hr2.form
    clear hr2 hb2
    go_wp2_with fail
    refine (rentries_any (to := to) main w2 (HV.out.on HB2.out HB2.out.size) HX.out).mono ?_
    rintro e w3 ⟨r, rfl, hr3, hb3⟩
    have HR3 := Lib.hid hr3
    have HRA := Lib.hid ((HR2.out.below hb3).mono hb3.size)
    have HB3 := Lib.hid (HB2.out.trans (hb3.mono HB2.out.size))
    obtain ⟨ra, rc, rfl⟩ := hr3.form
    clear hr3 hb3
    go_wp2_with fail
    refine (ints_any _ _ (entL to main) (entL to main) _ _ HRA.out HR3.out (ent_small to main HX.out) (ent_small to main HX.out)).mono ?_
    rintro e w4 ⟨rfl, d, e4⟩
    rw [e4, decide_eq_true rfl]
    have HB4 := Lib.hid (show Below W.heap.size W (w3.drewN d) from HB3.out.trans ⟨rfl, rfl, rfl, Nat.le_refl _, fun _ _ => rfl⟩)
    clear e4
    generalize w3.drewN d = w5 at HB4 ⊢
    go_wp2_with fail
    refine (awakeC_any w5).mono ?_
    rintro e w6 ⟨rfl, hb⟩
    have HB6 := Lib.hid (HB4.out.trans (hb.mono HB4.out.size))
    clear hb
    go_wp2_with fail
    go_ret
    exact ⟨rfl, HB6.out⟩
end Go.Proofs.Ytbelhoeailjkkaa
