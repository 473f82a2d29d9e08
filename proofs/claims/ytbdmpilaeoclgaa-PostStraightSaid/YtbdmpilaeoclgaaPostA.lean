import Derived.Test.YtbdmpilaeoclgaaPostP
import Derived.Test.YtbdmpilaeoclgaaDomM
set_option linter.unusedSimpArgs false
set_option linter.unusedVariables false
/-! post: may a graph be asked about; turned round (the project) -/
namespace Go.Proofs.Ytbdmpilaeoclgaa
open Go.RowKit
theorem stuckI_no {to : List (List Int)} (hr : GG.rightG to = true) (h : DD.allEnds to = false) : ∃ k : Nat, stuckI to = (k : Int) := by
  unfold DD.allEnds at h
  rw [List.all_eq_false] at h
  unfold stuckI
  rw [if_pos hr]
  obtain ⟨x, hx, hnx⟩ := h
  obtain ⟨m, ⟨hm1, hm2⟩, hl⟩ := least_of (P := fun k => k < to.length ∧ (!GG.endsB to k) = true) x ⟨List.mem_range.1 hx, by simpa using hnx⟩
  refine ⟨m, GG.firstN_hit hm1 hm2 (fun j hj => ?_)⟩
  cases e : (!GG.endsB to j)
  · rfl
  · have := hl j ⟨by omega, e⟩; omega
theorem stuckI_all {to : List (List Int)} (hr : GG.rightG to = true) (h : DD.allEnds to = true) : stuckI to = -1 := by
  unfold stuckI
  rw [if_pos hr]
  exact GG.firstN_none fun j hj => by rw [List.all_eq_true.1 h j (List.mem_range.2 hj)]; rfl
theorem lost_cases {to : List (List Int)} (hr : GG.rightG to = true) : foundE (lostI to) = .returned (.tuple #[.int .i64 (foundN (lostI to)), .bool (!DD.allB to)]) := by
  cases h : DD.allB to
  · obtain ⟨k, hk⟩ := lostI_no hr h
    rw [hk]; unfold foundE foundB; rw [decide_eq_true (by omega)]; rfl
  · rw [lostI_all hr h]; rfl
theorem stuck_cases {to : List (List Int)} (hr : GG.rightG to = true) : foundE (stuckI to) = .returned (.tuple #[.int .i64 (foundN (stuckI to)), .bool (!DD.allEnds to)]) := by
  cases h : DD.allEnds to
  · obtain ⟨k, hk⟩ := stuckI_no hr h
    rw [hk]; unfold foundE foundB; rw [decide_eq_true (by omega)]; rfl
  · rw [stuckI_all hr h]; rfl
set_option maxHeartbeats 1600000 in
set_option maxRecDepth 100000 in
theorem pright_any {v : Value} {to : List (List Int)} (W : World) (hv : GraphM W.heap.size W v to) (hx : Small to) :
    Calls Try.prog 55 #[v] W fun e W' => e = .returned (.bool (DD.postOk to)) ∧ Below W.heap.size W W' := by
  have hx0 := hx.1
  have HV := Lib.hid hv
  have HX := Lib.hid hx
  obtain ⟨va, vc, rfl⟩ := hv.form
  clear hv hx
  by_cases hl : to.length ≤ 255
  · cases hr : GG.rightG to
    · have HR := Lib.hid hr
      have HE := Lib.hid (show DD.postOk to = false by unfold DD.postOk; rw [hr]; simp)
      clear hr
      go_enter Try.func55, Try.ntmps55
      go_wp2_with (go_at_call 25; refine (rightG_any _ to _ HV.out HX.out).mono ?_; rintro e w' ⟨rfl, hB⟩; have HB := Lib.hid hB; clear hB; rw [HR.out])
      go_ret
      exact ⟨ret_bool HE.out.symm, HB.out⟩
    · have HR := Lib.hid hr
      have HE := Lib.hid (show DD.postOk to = (DD.allB to && DD.allEnds to) by unfold DD.postOk; rw [hr, decide_eq_true hl]; simp)
      have HLC := Lib.hid (lost_cases hr)
      have HSC := Lib.hid (stuck_cases hr)
      clear hr
      generalize DD.allB to = p at HE HLC
      generalize DD.allEnds to = q at HE HSC
      cases p <;> cases q
      all_goals
        go_enter Try.func55, Try.ntmps55
        go_wp2_with (first
          | (go_at_call 25; refine (rightG_any _ to _ HV.out HX.out).mono ?_; rintro e w' ⟨rfl, hB⟩; have HB := Lib.hid hB; clear hB; rw [HR.out])
          | (go_at_call 26; refine (lost_any (to := to) _ (HV.out.on HB.out HB.out.size) HX.out).mono ?_; rintro e w2 ⟨rfl, hB2⟩; have HB2 := Lib.hid (bstep HB.out hB2); clear hB2; rw [HLC.out])
          | (go_at_call 66; refine (stuck_any (to := to) _ (HV.out.on HB2.out HB2.out.size) HX.out).mono ?_; rintro e w3 ⟨rfl, hB3⟩; have HB3 := Lib.hid (bstep HB2.out hB3); clear hB3; rw [HSC.out]))
        go_ret
        exact ⟨ret_bool HE.out.symm, HB3.out⟩
  · have HE := Lib.hid (show DD.postOk to = false by unfold DD.postOk; rw [decide_eq_false hl]; simp)
    have h2 : 256 ≤ to.length := by omega
    go_enter Try.func55, Try.ntmps55
    go_wp2_with fail
    go_ret
    exact ⟨ret_bool HE.out.symm, Below.refl _ _⟩
/-- the rows of the graph that is turned round, gone as far as node i and q of those that lead to it -/
def rowsT (to : List (List Int)) (e i q k : Nat) : List Int := match k with
  | 0 => DD.exitsUp to e
  | m + 1 => if m < i then (GG.ledBy to m to.length).map (· + 1) else if m = i then ((GG.ledBy to m to.length).take q).map (· + 1) else []
theorem rowsT_zero (to : List (List Int)) (k : Nat) : [] = rowsT to 0 0 0 k := by
  cases k with
  | zero => simp [rowsT, DD.exitsUp, GG.exitsL]
  | succ m => simp [rowsT]
theorem rowsT_exit {to : List (List Int)} {i : Nat} (h : GG.exitB to i = true) (k : Nat) : (if k = 0 then rowsT to i i 0 0 ++ [(i : Int) + 1] else rowsT to i i 0 k) = rowsT to (i + 1) i 0 k := by
  cases k with
  | zero =>
    rw [if_pos rfl]
    show DD.exitsUp to i ++ _ = DD.exitsUp to (i + 1)
    unfold DD.exitsUp GG.exitsL
    rw [List.range_succ, List.filter_append, List.map_append]
    simp [h]
  | succ m => rw [if_neg (by omega)]; rfl
theorem rowsT_no {to : List (List Int)} {i : Nat} (h : GG.exitB to i = false) (k : Nat) : rowsT to i i 0 k = rowsT to (i + 1) i 0 k := by
  cases k with
  | zero =>
    show DD.exitsUp to i = DD.exitsUp to (i + 1)
    unfold DD.exitsUp GG.exitsL
    rw [List.range_succ, List.filter_append]
    simp [h]
  | succ m => rfl
theorem rowsT_way {to : List (List Int)} {e i q : Nat} (hq : q < (GG.ledBy to i to.length).length) (k : Nat) : (if k = i + 1 then rowsT to e i q (i + 1) ++ [(GG.ledBy to i to.length)[q]?.getD 0 + 1] else rowsT to e i q k) = rowsT to e i (q + 1) k := by
  by_cases h : k = i + 1
  · subst h
    rw [if_pos rfl]
    show (if i < i then _ else if i = i then _ else _) ++ _ = (if i < i then _ else if i = i then _ else _)
    rw [if_neg (Nat.lt_irrefl _), if_pos rfl, if_neg (Nat.lt_irrefl _), if_pos rfl, List.take_succ_eq_append_getElem hq, List.map_append, List.getElem?_eq_getElem hq]
    rfl
  · rw [if_neg h]
    cases k with
    | zero => rfl
    | succ m =>
      show (if m < i then _ else if m = i then _ else _) = (if m < i then _ else if m = i then _ else _)
      by_cases h2 : m < i
      · rw [if_pos h2, if_pos h2]
      · rw [if_neg h2, if_neg h2, if_neg (by omega), if_neg (by omega)]
theorem rowsT_next {to : List (List Int)} {e i q : Nat} (hq : (GG.ledBy to i to.length).length ≤ q) (k : Nat) : rowsT to e i q k = rowsT to e (i + 1) 0 k := by
  cases k with
  | zero => rfl
  | succ m =>
    show (if m < i then _ else if m = i then _ else _) = (if m < i + 1 then _ else if m = i + 1 then _ else _)
    by_cases h2 : m < i
    · rw [if_pos h2, if_pos (by omega)]
    · rw [if_neg h2]
      by_cases h3 : m = i
      · subst h3
        rw [if_pos rfl, if_pos (by omega), List.take_of_length_le hq]
      · rw [if_neg h3, if_neg (by omega)]
        split <;> simp
theorem rowsT_all {to : List (List Int)} : (List.range (to.length + 1)).map (rowsT to to.length to.length 0) = DD.turnG to := by
  unfold DD.turnG
  rw [List.range_succ_eq_map, List.map_cons, List.map_map]
  congr 1
  refine List.map_congr_left fun m hm => ?_
  have := List.mem_range.1 hm
  show (if m < to.length then _ else _) = _
  rw [if_pos this]
theorem rowsT_len (to : List (List Int)) {e i q k : Nat} (he : e ≤ to.length) : (rowsT to e i q k).length ≤ to.length := by
  cases k with
  | zero =>
    show (DD.exitsUp to e).length ≤ _
    unfold DD.exitsUp GG.exitsL
    rw [List.length_map]
    have := List.length_filter_le (GG.exitB to) (List.range e)
    simp at this; omega
  | succ m =>
    have h1 := ledBy_len to m to.length
    show (if m < i then _ else if m = i then _ else _ : List Int).length ≤ _
    split
    · rw [List.length_map]; exact h1
    · split
      · rw [List.length_map, List.length_take]; omega
      · simp
set_option maxRecDepth 100000 in
set_option maxHeartbeats 3200000 in
theorem turn_any {v : Value} {to : List (List Int)} (W : World) (hv : GraphM W.heap.size W v to) (hx : Small to) (hr : GG.rightG to = true) :
    Calls Try.prog 56 #[v] W fun e W' => NewGraph W.heap.size (DD.turnG to) e W W' := by
  have hlen := GG.right_len hr
  have HV := Lib.hid hv
  have HX := Lib.hid hx
  have HR := Lib.hid hr
  have HBE := Lib.hid (show backE to = GG.backG to by unfold backE; rw [if_pos hr])
  obtain ⟨va, vo, vc, rfl⟩ := hv.addr (by omega)
  obtain ⟨i0, hi0, hz0, hz1, hz2⟩ := info_parts Try.infoGInt
  have hmk := run_make_row' (P := Try.prog) 22 24 (.slice none 0 0) 24 (by kernel_rfl) Try.infoGRow rfl .i64 .i64 (to.length + 1) (by omega) (by omega)
  simp only [show ((to.length + 1 : Nat) : Int) = (to.length : Int) + 1 by omega] at hmk
  clear hv hx hr
  go_enter Try.func56, Try.ntmps56
  go_wp2_with (go_at_call 40; refine (back_any (to := to) _ HV.out HX.out).mono ?_; rintro e w1 ⟨bv, rfl, hg, hB⟩; rw [HBE.out] at hg; have HG := Lib.hid hg; have HB := Lib.hid hB; clear hg hB)
  have H0 := Lib.hid (ownG_new w1 (to.length + 1))
  obtain ⟨bb, bo, bc, hbv⟩ := HG.out.addr (by rw [GG.back_len]; omega)
  rw [GG.back_len] at hbv
  subst hbv
  clear hmk
  go_loopw [16] (fun k wr => ∃ i : Nat, i ≤ to.length ∧ k = .int .i64 (i : Int) ∧ OwnG w1 (to.length + 1) (rowsT to i i 0) wr) (fun k _ => to.length - (intOf k).toNat)
  case atStart => exact ⟨0, Nat.zero_le _, rfl, H0.out.congr fun j _ => rowsT_zero to j⟩
  case round =>
    obtain ⟨i, hi, rfl, hO⟩ := hrel
    clear H0
    have HO := Lib.hid hO
    clear hO
    by_cases hlt : i < to.length
    · obtain ⟨vs, hT⟩ := HO.out
      have HT := Lib.hid hT
      clear hT HO
      obtain ⟨ra, rac, hx1, _⟩ := (HV.out.below (HB.out.trans (HT.out.below.mono HB.out.size))).at hlt
      have b1 : (to[i]?.getD []).length ≤ 17592186044416 := by have := GG.row_len (GG.right_at HR.out hlt); omega
      have i1 : (0 : Int) ≤ i ∧ (i : Int) < to.length := by omega
      obtain ⟨rb, rbc, hxg, hrb⟩ := HG.out.at (show i < (GG.backG to).length by rw [GG.back_len]; exact hlt)
      rw [GG.back_at hlt] at hxg hrb
      have HXG := Lib.hid hxg
      have HRB := Lib.hid hrb
      have HBK := Lib.hid (HG.out.blk (by rw [GG.back_len]; omega))
      have hx2 := (HT.out.below.cell (p := ⟨bb, bo + i, none⟩) HBK.out).trans HXG.out
      clear hxg hrb
      have hll1 := ledBy_len to i to.length
      have hwi : IntKind.i64.wrap ((i : Int) + 1) = (i : Int) + 1 := IntWalk.i64_in _ (by omega)
      have hni : ((i : Int) + 1).toNat = i + 1 := by omega
      have hni2 : (0 : Int) ≤ (i : Int) + 1 ∧ (i : Int) + 1 < (to.length : Int) + 1 := by omega
      cases hex : GG.exitB to i
      · have HO3 := Lib.hid (show OwnG w1 (to.length + 1) (rowsT to (i + 1) i 0) wr from (show OwnG w1 (to.length + 1) (rowsT to i i 0) wr from ⟨vs, HT.out⟩).congr fun j _ => rowsT_no hex j)
        have hne : ((((to[i]?.getD []).length : Nat) : Int) == 0) = false := by
          rw [beq_eq_false_iff_ne]
          intro e
          unfold GG.exitB at hex
          rw [List.isEmpty_eq_false_iff] at hex
          exact hex (List.length_eq_zero_iff.1 (by omega))
        generalize to[i]?.getD [] = r at hx1 b1 hne
        clear hex HT
        go_wp2_with fail
        clear hx1 hx2 hne
        go_loopw [39] (fun k wr => ∃ q : Nat, q ≤ (GG.ledBy to i to.length).length ∧ k = .int .i64 (q : Int) ∧ OwnG w1 (to.length + 1) (rowsT to (i + 1) i q) wr) (fun k _ => (GG.ledBy to i to.length).length - (intOf k).toNat)
        case atStart => exact ⟨0, Nat.zero_le _, rfl, HO3.out⟩
        case round =>
          obtain ⟨q, hq, rfl, hO2⟩ := hrel
          clear HO3
          obtain ⟨vs2, hT2⟩ := hO2
          have HT2 := Lib.hid hT2
          clear hT2
          by_cases hqt : q < (GG.ledBy to i to.length).length
          · obtain ⟨lb, lo, elb, hcx⟩ := (HRB.out.below HT2.out.below).cellAt hqt
            subst elb
            have HX2 := Lib.hid (show 0 ≤ (GG.ledBy to i to.length)[q]?.getD 0 ∧ (GG.ledBy to i to.length)[q]?.getD 0 < (to.length : Int) by
              obtain ⟨k, hk, hkn, _⟩ := GG.mem_ledBy.1 (GG.getD_mem (d := (0 : Int)) hqt)
              rw [hk]; omega)
            have HST := Lib.hid (fun k => rowsT_way (to := to) (e := i + 1) hqt k)
            have HLN2 := Lib.hid (rowsT_len to (e := i + 1) (i := i) (q := q) (k := i + 1) (by omega))
            have hj1 : i + 1 < to.length + 1 := by omega
            have hcj := World.rowIs.cell HT2.out.tab hj1
            obtain ⟨sa, sc, hsv⟩ := GG.own_slice (HT2.out.own (i + 1) hj1)
            have HSV := Lib.hid hsv
            obtain ⟨x, ex⟩ : ∃ x, x = (GG.ledBy to i to.length)[q]?.getD 0 := ⟨_, rfl⟩
            rw [← ex] at hcx HX2 HST
            have i2 : (0 : Int) ≤ q ∧ (q : Int) < (GG.ledBy to i to.length).length := by omega
            have hwx : IntKind.i64.wrap (x + 1) = x + 1 := IntWalk.i64_in _ (by have := HX2.out; omega)
            generalize hll : GG.ledBy to i to.length = l at *
            clear ex hsv
            go_wp2_with (at_builtin
                         refine wpList_append_lies _ rfl _ _ 24 rfl (w1.heap.size + 1) 3 i0 (.int .i64 0) 1 8 Try.underlying24 hi0 hz0 hz1 hz2 rfl (by decide) (vs2 (i + 1)) _ _ rfl ((HT2.out.own (i + 1) hj1).alloc _) ⟨wr.heap.size, 0, none⟩ 1 1 [.int .i64 (x + 1)] rfl rfl (GG.cell_one _ _ _) (by intro u hu; rw [List.mem_singleton.1 hu]; rfl) (by decide) (by have := HLN2.out; unfold maxLen; omega) (by have := HLN2.out; omega) (by have := HT2.out.size; simp; omega) (wr.heap.size + 1) (by simp) ?_
                         intro g cap w2 ho hg hat _
                         have HA := Lib.hid (HT2.out.app hj1 ho hg hat)
                         have hcw := HA.out.2.1
                         have hfw := HA.out.2.2
                         clear ho hg hat)
            go_roundw
            case rel => exact ⟨q + 1, by omega, by go_num, HA.out.1.congr fun j _ => HST.out j⟩
            case measure => simp [intOf]; omega
          · have HN := Lib.hid (show OwnG w1 (to.length + 1) (rowsT to (i + 1) (i + 1) 0) wr from (show OwnG w1 (to.length + 1) (rowsT to (i + 1) i q) wr from ⟨vs2, HT2.out⟩).congr fun j _ => rowsT_next (by omega) j)
            clear HT2
            go_wp2_with fail
            go_roundw
            case rel => exact ⟨i + 1, by omega, by go_num, HN.out⟩
            case measure => simp [intOf]; omega
      · have hne : ((((to[i]?.getD []).length : Nat) : Int) == 0) = true := by
          rw [beq_iff_eq]
          unfold GG.exitB at hex
          rw [List.isEmpty_iff] at hex
          rw [hex]; rfl
        have HSTE := Lib.hid (fun k => rowsT_exit hex k)
        have HLN1 := Lib.hid (rowsT_len to (e := i) (i := i) (q := 0) (k := 0) hi)
        have hj0 : 0 < to.length + 1 := by omega
        have hcj := World.rowIs.cell HT.out.tab hj0
        obtain ⟨sa, sc, hsv⟩ := GG.own_slice (HT.out.own 0 hj0)
        have HSV := Lib.hid hsv
        generalize to[i]?.getD [] = r at hx1 b1 hne
        clear hex hsv hx2
        go_wp2_with (at_builtin
                     refine wpList_append_lies _ rfl _ _ 24 rfl (w1.heap.size + 1) 3 i0 (.int .i64 0) 1 8 Try.underlying24 hi0 hz0 hz1 hz2 rfl (by decide) (vs 0) _ _ rfl ((HT.out.own 0 hj0).alloc _) ⟨wr.heap.size, 0, none⟩ 1 1 [.int .i64 ((i : Int) + 1)] rfl rfl (GG.cell_one _ _ _) (by intro u hu; rw [List.mem_singleton.1 hu]; rfl) (by decide) (by have := HLN1.out; unfold maxLen; omega) (by have := HLN1.out; omega) (by have := HT.out.size; simp; omega) (wr.heap.size + 1) (by simp) ?_
                     intro g cap w2 ho hg hat _
                     have HA0 := Lib.hid (HT.out.app hj0 ho hg hat)
                     have hcw := HA0.out.2.1
                     have hfw := HA0.out.2.2
                     have HO3 := Lib.hid (HA0.out.1.congr fun j _ => HSTE.out j)
                     have hx4 := (HO3.out.choose_spec.below.cell (p := ⟨bb, bo + i, none⟩) HBK.out).trans HXG.out
                     clear ho hg hat)
        clear hx1 hne hcj
        go_loopw [39] (fun k wr => ∃ q : Nat, q ≤ (GG.ledBy to i to.length).length ∧ k = .int .i64 (q : Int) ∧ OwnG w1 (to.length + 1) (rowsT to (i + 1) i q) wr) (fun k _ => (GG.ledBy to i to.length).length - (intOf k).toNat)
        case atStart => exact ⟨0, Nat.zero_le _, rfl, HO3.out⟩
        case round =>
          obtain ⟨q, hq, rfl, hO2⟩ := hrel
          clear HO3
          obtain ⟨vs2, hT2⟩ := hO2
          have HT2 := Lib.hid hT2
          clear hT2
          by_cases hqt : q < (GG.ledBy to i to.length).length
          · obtain ⟨lb, lo, elb, hcx⟩ := (HRB.out.below HT2.out.below).cellAt hqt
            subst elb
            have HX2 := Lib.hid (show 0 ≤ (GG.ledBy to i to.length)[q]?.getD 0 ∧ (GG.ledBy to i to.length)[q]?.getD 0 < (to.length : Int) by
              obtain ⟨k, hk, hkn, _⟩ := GG.mem_ledBy.1 (GG.getD_mem (d := (0 : Int)) hqt)
              rw [hk]; omega)
            have HST := Lib.hid (fun k => rowsT_way (to := to) (e := i + 1) hqt k)
            have HLN2 := Lib.hid (rowsT_len to (e := i + 1) (i := i) (q := q) (k := i + 1) (by omega))
            have hj1 : i + 1 < to.length + 1 := by omega
            have hcj := World.rowIs.cell HT2.out.tab hj1
            obtain ⟨sa, sc, hsv⟩ := GG.own_slice (HT2.out.own (i + 1) hj1)
            have HSV := Lib.hid hsv
            obtain ⟨x, ex⟩ : ∃ x, x = (GG.ledBy to i to.length)[q]?.getD 0 := ⟨_, rfl⟩
            rw [← ex] at hcx HX2 HST
            have i2 : (0 : Int) ≤ q ∧ (q : Int) < (GG.ledBy to i to.length).length := by omega
            have hwx : IntKind.i64.wrap (x + 1) = x + 1 := IntWalk.i64_in _ (by have := HX2.out; omega)
            generalize hll : GG.ledBy to i to.length = l at *
            clear ex hsv
            go_wp2_with (at_builtin
                         refine wpList_append_lies _ rfl _ _ 24 rfl (w1.heap.size + 1) 3 i0 (.int .i64 0) 1 8 Try.underlying24 hi0 hz0 hz1 hz2 rfl (by decide) (vs2 (i + 1)) _ _ rfl ((HT2.out.own (i + 1) hj1).alloc _) ⟨wr.heap.size, 0, none⟩ 1 1 [.int .i64 (x + 1)] rfl rfl (GG.cell_one _ _ _) (by intro u hu; rw [List.mem_singleton.1 hu]; rfl) (by decide) (by have := HLN2.out; unfold maxLen; omega) (by have := HLN2.out; omega) (by have := HT2.out.size; simp; omega) (wr.heap.size + 1) (by simp) ?_
                         intro g cap w2 ho hg hat _
                         have HA := Lib.hid (HT2.out.app hj1 ho hg hat)
                         have hcw := HA.out.2.1
                         have hfw := HA.out.2.2
                         clear ho hg hat)
            go_roundw
            case rel => exact ⟨q + 1, by omega, by go_num, HA.out.1.congr fun j _ => HST.out j⟩
            case measure => simp [intOf]; omega
          · have HN := Lib.hid (show OwnG w1 (to.length + 1) (rowsT to (i + 1) (i + 1) 0) wr from (show OwnG w1 (to.length + 1) (rowsT to (i + 1) i q) wr from ⟨vs2, HT2.out⟩).congr fun j _ => rowsT_next (by omega) j)
            clear HT2
            go_wp2_with fail
            go_roundw
            case rel => exact ⟨i + 1, by omega, by go_num, HN.out⟩
            case measure => simp [intOf]; omega
    · have HE := Lib.hid (show GraphM wr.heap.size wr (.slice (some ⟨w1.heap.size, 0, none⟩) (to.length + 1) (to.length + 1)) (DD.turnG to) by
        rw [← rowsT_all]
        have h := HO.out
        rw [show i = to.length by omega] at h
        exact h.graph)
      have HBE2 := Lib.hid (show Below W.heap.size W wr from HB.out.trans (HO.out.choose_spec.below.mono HB.out.size))
      clear HO
      go_wp2_with fail
      go_ret
      exact ⟨_, rfl, HE.out, HBE2.out⟩
end Go.Proofs.Ytbdmpilaeoclgaa
