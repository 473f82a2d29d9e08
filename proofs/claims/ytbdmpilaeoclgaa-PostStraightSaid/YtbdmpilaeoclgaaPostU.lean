import Derived.Test.YtbdmpilaeoclgaaPostS
set_option linter.unusedSimpArgs false
set_option linter.unusedVariables false
/-! post: the reference's Marks -/
namespace Go.Proofs.Ytbdmpilaeoclgaa.DD
open GG
/-- what the way k out of a node reaches -/
def wayB (to : List (List Int)) (m : Int) (f k x : Nat) : Bool := decide ((to[f]?.getD [])[k]?.getD 0 ≠ m) && reachB to m ((to[f]?.getD [])[k]?.getD 0).toNat x
def waysB (to : List (List Int)) (m : Int) (f k x : Nat) : Bool := (List.range k).any fun q => wayB to m f q x
def waysC (to : List (List Int)) (m : Int) (f k i x : Nat) : Bool := waysB to m f k x || (decide (x < i) && wayB to m f k x)
theorem waysC_zero (to : List (List Int)) (m : Int) (f k x : Nat) : waysB to m f k x = waysC to m f k 0 x := by unfold waysC; simp
theorem waysC_succ (to : List (List Int)) (m : Int) (f k i x : Nat) : (if x = i then (waysC to m f k i i || wayB to m f k i) else waysC to m f k i x) = waysC to m f k (i + 1) x := by
  unfold waysC
  by_cases e : x = i
  · subst e
    rw [if_pos rfl, decide_eq_false (Nat.lt_irrefl _), decide_eq_true (Nat.lt_succ_self _)]; simp
  · rw [if_neg e]
    by_cases h : x < i
    · rw [decide_eq_true h, decide_eq_true (show x < i + 1 by omega)]
    · rw [decide_eq_false h, decide_eq_false (show ¬ x < i + 1 by omega)]
theorem waysC_next {to : List (List Int)} {m : Int} {f k i x : Nat} (h : x < i) : waysC to m f k i x = waysB to m f (k + 1) x := by
  unfold waysC waysB
  rw [decide_eq_true h, Bool.true_and, List.range_succ, List.any_append]; simp
theorem waysB_all {to : List (List Int)} {m : Int} {f k x : Nat} (h : k = (to[f]?.getD []).length) : waysB to m f k x = markB to m f x := by
  unfold waysB markB wayB
  subst h
  rw [Bool.eq_iff_iff, List.any_eq_true, List.any_eq_true]
  constructor
  · rintro ⟨q, hq, h⟩
    have hq := List.mem_range.1 hq
    refine ⟨(to[f]?.getD [])[q]?.getD 0, getD_mem (d := 0) hq, ?_⟩
    exact h
  · rintro ⟨y, hy, h⟩
    obtain ⟨q, hq, e⟩ := List.mem_iff_getElem.1 hy
    refine ⟨q, List.mem_range.2 hq, ?_⟩
    rw [List.getElem?_eq_getElem hq, e]
    exact h
end Go.Proofs.Ytbdmpilaeoclgaa.DD
namespace Go.Proofs.Ytbdmpilaeoclgaa
open Go.RowKit
theorem woz_any {v : Value} {to : List (List Int)} (y : Nat) (m : Int) (W : World) (hv : GraphM W.heap.size W v to) (hr : GG.rightG to = true) (hy : y < to.length) :
    Calls Try.prog 48 #[v, .int .i64 y, .int .i64 m] W fun e W' => NewFlags W to.length (fun x => decide ((y : Int) ≠ m) && GG.reachB to m y x) e W' := by
  have hl := GG.right_len hr
  by_cases h : (y : Int) = m
  · subst h
    refine (without_same y W hv hl.2).mono fun e W' h => ⟨h.1, World.rowIs.congr h.2.1 (fun i _ => ?_), h.2.2⟩
    simp
  · refine (without_new y m W hv hr hy h).mono fun e W' h' => ⟨h'.1, World.rowIs.congr h'.2.1 (fun i _ => ?_), h'.2.2⟩
    simp only [decide_eq_true h, Bool.true_and]
set_option maxHeartbeats 1600000 in
set_option maxRecDepth 100000 in
theorem marks_any {v tv : Value} {to : List (List Int)} (W : World) (hv : GraphM W.heap.size W v to) (ht : Row W.heap.size W tv (DD.postL to)) (hp : DD.postOk to = true) (f : Nat) (hf : f < to.length) :
    Calls Try.prog 60 #[v, tv, .int .i64 f] W fun e W' => NewFlags W to.length (DD.inRegion to f) e W' := by
  have HP := Lib.hid hp
  have HR := Lib.hid (DD.postOk_iff.1 hp).2.1
  have hlen := GG.right_len HR.out
  have HV := Lib.hid hv
  have HT := Lib.hid ht
  have HLN := Lib.hid (DD.postL_len hp)
  have HAT := Lib.hid (DD.postL_at hp hf)
  obtain ⟨vb, vo, vc, rfl⟩ := hv.addr (by omega)
  obtain ⟨ta, tc, rfl⟩ := ht.form
  have hmk := run_make_row' (P := Try.prog) 45 4 (.bool false) 1 (by kernel_rfl) Try.infoGBool rfl .i64 .i64 to.length (by omega) (by omega)
  have hi : (0 : Int) ≤ f ∧ (f : Int) < to.length := by omega
  have HM0 := Lib.hid (show FlagsN (W.alloc (.cells (madeCells #[.bool false] to.length) 4)) W.heap.size to.length (fun _ => false) from World.rowIs_made W (.bool false) to.length 4)
  have HB0 := Lib.hid ((Below.refl W.heap.size W).alloc (Nat.le_refl _) (.cells (madeCells #[.bool false] to.length) 4))
  obtain ⟨ra, rac, hx0, hrx⟩ := hv.at hf
  have HRX := Lib.hid hrx
  have HVB := Lib.hid (hv.blk (by omega))
  have hx1 := (HB0.out.cell (p := ⟨vb, vo + f, none⟩) HVB.out).trans hx0
  have b1 : (to[f]?.getD []).length ≤ 17592186044416 := by have := GG.row_len (GG.right_at HR.out hf); omega
  rw [HLN.out] at HT ⊢
  cases hfk : DD.forkB to f
  · have HE := Lib.hid (fun x => DD.inRegion_no hfk x)
    have hlt : (to[f]?.getD []).length < 2 := by
      unfold DD.forkB at hfk
      have := of_decide_eq_false hfk; omega
    have h0 : (((to[f]?.getD []).length : Nat) : Int) < 2 := by omega
    clear hx0
    generalize to[f]?.getD [] = r at hx1 hlt h0 b1 HRX
    clear hv ht hrx hfk hp
    go_enter Try.func60, Try.ntmps60
    go_wp2_with fail
    go_ret
    exact ⟨rfl, HM0.out.congr (fun x _ => by rw [HE.out x]), HB0.out⟩
  · have HE := Lib.hid (fun x => DD.inRegion_fork hfk x)
    have hlt : 2 ≤ (to[f]?.getD []).length := by
      unfold DD.forkB at hfk
      exact of_decide_eq_true hfk
    have HBD := Lib.hid (DD.meetI_bd to f)
    obtain ⟨m, em⟩ : ∃ m, m = DD.meetI to f := ⟨_, rfl⟩
    rw [← em] at HE HBD HAT
    have HZ0 := Lib.hid (fun x => (show DD.waysB to m f 0 x = false from rfl))
    have HC0 := Lib.hid (fun q x => DD.waysC_zero to m f q x)
    have HCS := Lib.hid (fun q i x => DD.waysC_succ to m f q i x)
    have HCN := Lib.hid (fun q i x h => DD.waysC_next (to := to) (m := m) (f := f) (k := q) (i := i) (x := x) h)
    have HCA := Lib.hid (fun q x h => DD.waysB_all (to := to) (m := m) (f := f) (k := q) (x := x) h)
    have HWY := Lib.hid (fun q x => (show DD.wayB to m f q x = (decide ((to[f]?.getD [])[q]?.getD 0 ≠ m) && GG.reachB to m ((to[f]?.getD [])[q]?.getD 0).toNat x) from rfl))
    have HRW := Lib.hid (GG.right_at HR.out hf)
    obtain ⟨r, er⟩ : ∃ r, r = to[f]?.getD [] := ⟨_, rfl⟩
    rw [← er] at hx1 hx0 hlt b1 HRX HCA HRW
    have HX0 := Lib.hid hx0
    clear hx0
    simp only [← er] at HWY
    have h0 : ¬ ((r.length : Int) < 2) := by omega
    have h0' : (2 : Int) ≤ (r.length : Int) := by omega
    clear hv ht hrx hfk hp er em
    go_enter Try.func60, Try.ntmps60
    go_wp2_with fail
    clear hmk
    go_loopw [8] (fun k wr => ∃ q : Nat, q ≤ r.length ∧ k = .int .i64 (q : Int) ∧ FlagsN wr W.heap.size to.length (DD.waysB to m f q) ∧ Below W.heap.size W wr) (fun k _ => r.length - (intOf k).toNat)
    case atStart => exact ⟨0, Nat.zero_le _, rfl, HM0.out.congr (fun x _ => by rw [HZ0.out x]), HB0.out⟩
    case round =>
      obtain ⟨q, hq, rfl, hF, hB⟩ := hrel
      have HF := Lib.hid hF
      have HB := Lib.hid hB
      clear hF hB hx1
      have hx2 := (HB.out.cell (p := ⟨vb, vo + f, none⟩) HVB.out).trans HX0.out
      by_cases hqt : q < r.length
      · obtain ⟨xb, xo, era, hcx⟩ := (HRX.out.below HB.out).cellAt hqt
        obtain ⟨tb, tof, eta, hct⟩ := (HT.out.below HB.out).cellAt (show f < (DD.postL to).length by rw [HLN.out]; exact hf)
        rw [HAT.out] at hct
        have HXB := Lib.hid (GG.row_in HRW.out _ (GG.getD_mem (d := 0) hqt))
        have HWQ := Lib.hid (fun x => HWY.out q x)
        obtain ⟨x, ex⟩ : ∃ x, x = r[q]?.getD 0 := ⟨_, rfl⟩
        rw [← ex] at hcx HXB
        simp only [← ex] at HWQ
        clear ex
        obtain ⟨y, rfl⟩ : ∃ y : Nat, x = (y : Int) := ⟨x.toNat, by have := HXB.out; omega⟩
        have HY := Lib.hid (show y < to.length by have := HXB.out; omega)
        have i3 : (0 : Int) ≤ q ∧ (q : Int) < r.length := by omega
        subst era
        subst eta
        go_wp2_with fail
        go_still_tail 12, (by kernel_rfl)
        change wpList _ _ _ _ _ wr.drew
        clear hx2 hcx hct
        go_wp2_with (go_at_call 48; refine (woz_any (to := to) y m _ (HV.out.on HB.out.drew HB.out.drew.size) HR.out HY.out).mono ?_; rintro e w3 ⟨rfl, hfl, hb⟩; have HL := Lib.hid hfl; have HB3 := Lib.hid (show Below wr.heap.size wr w3 from (Below.refl wr.heap.size wr).drew.trans hb); clear hfl hb)
        have HL2 := Lib.hid (show FlagsN w3 wr.heap.size to.length (DD.wayB to m f q) from HL.out.congr (fun x _ => by rw [HWQ.out x]; simp))
        have HF3 := Lib.hid (show FlagsN w3 W.heap.size to.length (DD.waysC to m f q 0) from (HF.out.on HB3.out).congr (fun x _ => by rw [HC0.out q x]))
        have HBB := Lib.hid (bstep HB.out HB3.out)
        have HGT := Lib.hid (show W.heap.size < wr.heap.size from HF.out.lt)
        clear HL
        go_loopw [10] (fun k wq => ∃ i : Nat, i ≤ to.length ∧ k = .int .i64 (i : Int) ∧ FlagsN wq W.heap.size to.length (DD.waysC to m f q i) ∧ FlagsN wq wr.heap.size to.length (DD.wayB to m f q) ∧ Below W.heap.size W wq) (fun k _ => to.length - (intOf k).toNat)
        case atStart => exact ⟨0, Nat.zero_le _, rfl, HF3.out, HL2.out, HBB.out⟩
        case round =>
          obtain ⟨i, hi, rfl, hF4, hL4, hB4⟩ := hrel
          have HF4 := Lib.hid hF4
          have HL4 := Lib.hid hL4
          have HB4 := Lib.hid hB4
          clear hF4 hL4 hB4 HF3 HL2 HBB
          by_cases hli : i < to.length
          · have hco := World.rowIs.cell HF4.out hli
            have hcl := World.rowIs.cell HL4.out hli
            have hfo := World.rowIs.frozen HF4.out i
            have i2 : (0 : Int) ≤ i ∧ (i : Int) < to.length := by omega
            have HPUT := Lib.hid (fun (x : Bool) (hx : x = (DD.waysC to m f q i i || DD.wayB to m f q i)) => (show FlagsN (wr.setCell ⟨W.heap.size, i, none⟩ (.bool x)) W.heap.size to.length (DD.waysC to m f q (i + 1)) from
              (HF4.out.put i x).congr (fun j _ => by rw [← HCS.out q i j, hx])))
            have HLP := Lib.hid (fun (x : Bool) => HL4.out.other (h := W.heap.size) (b := i) (v := .bool x) (by have := HGT.out; omega))
            have HBP := Lib.hid (fun (x : Bool) => HB4.out.setCell (p := ⟨W.heap.size, i, none⟩) (Nat.le_refl _) (.bool x))
            generalize hc1 : DD.waysC to m f q i i = c1 at *
            generalize hc2 : DD.wayB to m f q i = c2 at *
            cases c1
            · have HN := Lib.hid (HPUT.out c2 (by simp))
              go_wp2_with fail
              go_roundw
              case rel => exact ⟨i + 1, by omega, by go_num, HN.out, HLP.out _, HBP.out _⟩
              case measure => simp [intOf]; omega
            · have HN := Lib.hid (HPUT.out true (by simp))
              go_wp2_with fail
              go_roundw
              case rel => exact ⟨i + 1, by omega, by go_num, HN.out, HLP.out _, HBP.out _⟩
              case measure => simp [intOf]; omega
          · have HN := Lib.hid (show FlagsN wr W.heap.size to.length (DD.waysB to m f (q + 1)) from HF4.out.congr (fun x hx => by rw [HCN.out q i x (by omega)]))
            go_wp2_with fail
            go_roundw
            case rel => exact ⟨q + 1, by omega, by go_num, HN.out, HB4.out⟩
            case measure => simp [intOf]; omega
      · have HE2 := Lib.hid (show FlagsN wr W.heap.size to.length (DD.inRegion to f) from HF.out.congr (fun x _ => by rw [HE.out x, HCA.out q x (by omega)]))
        go_wp2_with fail
        go_ret
        exact ⟨rfl, HE2.out, HB.out⟩
end Go.Proofs.Ytbdmpilaeoclgaa
