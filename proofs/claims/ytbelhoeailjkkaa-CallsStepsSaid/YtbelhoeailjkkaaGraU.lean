import Derived.Test.YtbelhoeailjkkaaGraT
set_option linter.unusedSimpArgs false
set_option linter.unusedVariables false
/-! graphs: turned round (the project); exits; Stuck -/
namespace Go.Proofs.Ytbelhoeailjkkaa
open Go.RowKit
/-- the rows of the project's Back: the first q ways of the node i are gone -/
def backP (to : List (List Int)) (row : List Int) (i q : Nat) (j : Nat) : List Int := GG.ledBy to j i ++ (if (j : Int) ∈ row.take q then [(i : Int)] else [])
theorem backP_zero (to : List (List Int)) (row : List Int) (i j : Nat) : GG.ledBy to j i = backP to row i 0 j := by simp [backP]
theorem backP_succ {to : List (List Int)} {row : List Int} {i q y : Nat} (hq : q < row.length) (hy : row[q]?.getD 0 = (y : Int)) (hn : row.Nodup) (j : Nat) : (if j = y then backP to row i q y ++ [(i : Int)] else backP to row i q j) = backP to row i (q + 1) j := by
  rw [List.getElem?_eq_getElem hq, Option.getD_some] at hy
  unfold backP
  rw [List.take_succ_eq_append_getElem hq, hy]
  have hfr : ¬ ((y : Int) ∈ row.take q) := by
    intro h
    obtain ⟨k, hk, e⟩ := List.mem_take_iff_getElem.1 h
    have := (List.getElem_inj (h₀ := by omega) (h₁ := hq) hn).1 (e.trans hy.symm)
    omega
  by_cases e : j = y
  · subst e
    rw [if_pos rfl, if_neg hfr, if_pos (List.mem_append.2 (.inr (List.mem_singleton.2 rfl))), List.append_nil]
  · rw [if_neg e]
    have : (j : Int) ≠ (y : Int) := fun h => e (by omega)
    simp only [List.mem_append, List.mem_singleton, this, or_false]
theorem backP_all {to : List (List Int)} {i q : Nat} (hq : (to[i]?.getD []).length ≤ q) (j : Nat) : backP to (to[i]?.getD []) i q j = GG.ledBy to j (i + 1) := by
  unfold backP
  rw [List.take_of_length_le hq, GG.ledBy_succ]
  unfold GG.leadsB
  by_cases h : (j : Int) ∈ to[i]?.getD []
  · rw [if_pos h, if_pos (decide_eq_true h)]
  · rw [if_neg h, if_neg (by simpa using h)]
theorem backP_len (to : List (List Int)) (row : List Int) (i q j : Nat) : (backP to row i q j).length ≤ i + 1 := by
  unfold backP
  rw [List.length_append]
  have := ledBy_len to j i
  split <;> simp <;> omega
def backE (to : List (List Int)) : List (List Int) := if GG.rightG to = true then GG.backG to else []

set_option maxRecDepth 100000 in
set_option maxHeartbeats 3200000 in
theorem back_any {v : Value} {to : List (List Int)} (W : World) (hv : GraphM W.heap.size W v to) (hx : Small to) :
    Calls Try.prog 17 #[v] W fun e W' => NewGraph W.heap.size (backE to) e W W' := by
  have hx0 := hx.1
  have HV := Lib.hid hv
  have HX := Lib.hid hx
  cases hr : GG.rightG to
  · obtain ⟨va, vc, rfl⟩ := hv.form
    clear hv hx
    have HR := Lib.hid hr
    have HE := Lib.hid (show backE to = [] by unfold backE; rw [if_neg (by rw [hr]; simp)])
    clear hr
    go_enter Try.func17, Try.ntmps17
    go_wp2_with (go_at_call 15; refine (rightG_any _ to _ HV.out HX.out).mono ?_; rintro e w' ⟨rfl, hB⟩; have HB := Lib.hid hB; clear hB; rw [HR.out])
    go_ret
    exact ⟨_, rfl, by rw [HE.out]; exact ⟨[], cells_empty _ _ _ _ (fun _ => rfl), rfl, fun j hj => absurd hj (Nat.not_lt_zero _)⟩, HB.out⟩
  · have hlen := GG.right_len hr
    have HR := Lib.hid hr
    have HE := Lib.hid (show backE to = GG.backG to by unfold backE; rw [if_pos hr])
    obtain ⟨va, vo, vc, rfl⟩ := hv.addr (by omega)
    have hvb := hv.blk (by omega)
    obtain ⟨i0, hi0, hz0, hz1, hz2⟩ := info_parts Try.infoGInt
    have hmk := run_make_row' (P := Try.prog) 22 28 (.slice none 0 0) 24 (by kernel_rfl) Try.infoGRow rfl .i64 .i64 to.length (by omega) (by omega)
    clear hv hx hr
    go_enter Try.func17, Try.ntmps17
    go_wp2_with (go_at_call 15; refine (rightG_any _ to _ HV.out HX.out).mono ?_; rintro e w' ⟨rfl, hB⟩; have HB := Lib.hid hB; clear hB; rw [HR.out])
    clear hmk
    obtain ⟨W1, eW1⟩ : ∃ W1 : World, W1 = w' := ⟨_, rfl⟩
    rw [← eW1]
    rw [← eW1] at HB
    clear eW1
    have H0 := Lib.hid (ownG_new W1 to.length)
    have HV1 := Lib.hid (HV.out.on HB.out HB.out.size)
    have hvb1 : va < W1.heap.size := Nat.lt_of_lt_of_le hvb HB.out.size
    go_loopw [16] (fun k wr => ∃ i : Nat, i ≤ to.length ∧ k = .int .i64 (i : Int) ∧ OwnG W1 to.length (fun j => GG.ledBy to j i) wr) (fun k _ => to.length - (intOf k).toNat)
    case atStart => exact ⟨0, Nat.zero_le _, rfl, H0.out.congr fun j _ => (ledBy_zero to j).symm⟩
    case round =>
      obtain ⟨i, hi, rfl, hO⟩ := hrel
      clear H0
      have HO := Lib.hid hO
      clear hO
      by_cases hlt : i < to.length
      · have HBo := Lib.hid (show Below W1.heap.size W1 wr from HO.out.choose_spec.below)
        obtain ⟨ra, rac, hx1, hrx⟩ := (HV1.out.below HBo.out).at hlt
        have i1 : (0 : Int) ≤ i ∧ (i : Int) < to.length := by omega
        have b1 : (to[i]?.getD []).length ≤ 17592186044416 := by have := GG.row_len (GG.right_at HR.out hlt); omega
        have HRO := Lib.hid (GG.right_at HR.out hlt)
        have HALL := Lib.hid (fun q (hq : (to[i]?.getD []).length ≤ q) j => backP_all (to := to) hq j)
        obtain ⟨r, er⟩ : ∃ r, r = to[i]?.getD [] := ⟨_, rfl⟩
        rw [← er] at hx1 hrx b1 HRO HALL
        have HRX := Lib.hid hrx
        clear er hrx
        go_wp2_with fail
        obtain ⟨wo, ewo⟩ : ∃ wo : World, wo = wr := ⟨_, rfl⟩
        rw [← ewo]
        rw [← ewo] at HO HBo HRX hx1
        clear ewo hx1
        go_loopw [23] (fun k wr => ∃ q : Nat, q ≤ r.length ∧ k = .int .i64 (q : Int) ∧ OwnG W1 to.length (backP to r i q) wr) (fun k _ => r.length - (intOf k).toNat)
        case atStart => exact ⟨0, Nat.zero_le _, rfl, HO.out.congr fun j _ => backP_zero to r i j⟩
        case round =>
          obtain ⟨q, hq, rfl, hO2⟩ := hrel
          clear HO
          by_cases hqt : q < r.length
          · obtain ⟨vs, hT⟩ := hO2
            have HT := Lib.hid hT
            clear hT
            obtain ⟨xb2, xo2, rfl, hx2⟩ := (HRX.out.of_both HBo.out HT.out.below).cellAt hqt
            have i3 : (0 : Int) ≤ q ∧ (q : Int) < r.length := by omega
            have HX2 := Lib.hid (GG.row_in HRO.out _ (GG.getD_mem (d := 0) hqt))
            have HST := Lib.hid (fun y hy => backP_succ (to := to) (i := i) (y := y) hqt hy (GG.row_nodup HRO.out))
            obtain ⟨x, ex⟩ : ∃ x, x = r[q]?.getD 0 := ⟨_, rfl⟩
            rw [← ex] at hx2 HX2 HST
            clear ex
            obtain ⟨y, rfl⟩ : ∃ y : Nat, x = (y : Int) := ⟨x.toNat, by have := HX2.out; omega⟩
            have hyn : y < to.length := by have := HX2.out; omega
            have i4 : (0 : Int) ≤ (y : Int) ∧ (y : Int) < to.length := by omega
            have hcj := World.rowIs.cell HT.out.tab hyn
            have HLN := Lib.hid (backP_len to r i q y)
            obtain ⟨sa, sc, hsv⟩ := GG.own_slice (HT.out.own y hyn)
            have HSV := Lib.hid hsv
            clear hsv
            go_wp2_with (first
              | (at_builtin
                 refine wpList_append_lies _ rfl _ _ 28 rfl (W1.heap.size + 1) 3 i0 (.int .i64 0) 1 8 Try.underlying28 hi0 hz0 hz1 hz2 rfl (by decide) (vs y) _ _ rfl ((HT.out.own y hyn).alloc _) ⟨wr.heap.size, 0, none⟩ 1 1 [.int .i64 (i : Int)] rfl rfl (GG.cell_one _ _ _) (by intro u hu; rw [List.mem_singleton.1 hu]; rfl) (by decide) (by have := HLN.out; unfold maxLen; omega) (by have := HLN.out; omega) (by have := HT.out.size; simp; omega) (wr.heap.size + 1) (by simp) ?_
                 intro g cap w1 ho hg hat _
                 have HA := Lib.hid (HT.out.app hyn ho hg hat)
                 have hcw := HA.out.2.1
                 have hfw := HA.out.2.2
                 clear ho hg hat))
            go_roundw
            case rel => exact ⟨q + 1, by omega, by go_num, HA.out.1.congr fun j _ => HST.out y rfl j⟩
            case measure => simp [intOf]; omega
          · have HN := Lib.hid (show OwnG W1 to.length (fun j => GG.ledBy to j (i + 1)) wr from hO2.congr fun j _ => HALL.out q (by omega) j)
            clear hO2
            go_wp2_with fail
            go_roundw
            case rel => exact ⟨i + 1, by omega, by go_num, HN.out⟩
            case measure => simp [intOf]; omega
      · have HG := Lib.hid (show GraphM wr.heap.size wr (.slice (some ⟨W1.heap.size, 0, none⟩) to.length to.length) (GG.backG to) from (HO.out.congr (rows' := fun j => GG.ledBy to j to.length) fun j hj => by rw [show i = to.length by omega]).graph)
        have HB2 := Lib.hid (bstep HB.out (show Below W1.heap.size W1 wr from HO.out.choose_spec.below))
        clear HO
        go_wp2_with fail
        go_ret
        exact ⟨_, rfl, by rw [HE.out]; exact HG.out, HB2.out⟩

end Go.Proofs.Ytbelhoeailjkkaa
