import Derived.Test.YtbdmpilaeoclgaaDomV
import Derived.Test.YtbdmpilaeoclgaaGraD
set_option linter.unusedSimpArgs false
set_option linter.unusedVariables false
/-! DomEdges: the walk -/
namespace Go.Proofs.Ytbdmpilaeoclgaa.DD
open GG
theorem ChR.split {T : Nat → Int} {n : Nat} {c : Int} {l : List Nat} (h : ChR T n c l) : ∀ {us bs : List Nat} {y : Nat}, l = us ++ y :: bs → ChR T n (y : Int) (y :: bs) := by
  induction h with
  | nil => intro us bs y e; simp at e
  | @cons k l hk h ih =>
    intro us bs y e
    cases us with
    | nil =>
      simp at e
      obtain ⟨rfl, rfl⟩ := e
      exact .cons hk h
    | cons a us =>
      simp at e
      exact ih e.2
section
variable {to : List (List Int)} {T : Nat → Int}
/-- what the tree says of a way -/
theorem edge_near (hr : rightG to = true) (ha : allB to = true) (F : Fin to.length (adjOf to) (plOf to) T) {i j : Nat} (hi : i < to.length) (hj : j ∈ adjOf to i) (h0 : j ≠ 0) (hn : domB (treeL to) j i = false) :
    domB (treeL to) ((treeL to)[j]?.getD 0) i = true ∧ nearI (treeL to) i j = (treeL to)[j]?.getD 0 ∧ 0 ≤ (treeL to)[j]?.getD 0 := by
  have hjn := adj_lt hr i j hj
  have ht := fin_tree hr ha F
  have hl := treeL_len hr ha
  have hf := fin_fn hr ha F
  rw [← fnOf_at (by rw [hl]; exact hjn), hf]
  obtain ⟨d, hd⟩ : ∃ d : Nat, T j = (d : Int) := by
    rcases F.all j hjn with e | e
    · exact absurd e h0
    · exact e
  obtain ⟨_, hdn, hdp, _, _⟩ := F.inv.ok j d hd
  have hdj : d ≠ j := fun e => by subst e; omega
  have nij : ¬ Up T i j := fun hu => by
    have := (domB_iff (a := j) (b := i) ht (by rw [hl]; exact hi)).2 (by rw [hf]; exact hu)
    rw [hn] at this; cases this
  have udi : Up T i d := (F.dom i d hi).2 fun hav => (F.dom j d hjn).1 (.one hd) (hav.step hj (fun e => hdj e.symm))
  rw [hd]
  refine ⟨(domB_iff (a := d) (b := i) ht (by rw [hl]; exact hi)).2 (by rw [hf]; exact udi), ?_, by omega⟩
  have hci := chainN_yes ht (show i < (treeL to).length by rw [hl]; exact hi)
  have mi : ∀ x : Int, x ∈ chainL (treeL to) i ↔ ∃ k : Nat, x = (k : Int) ∧ Up T i k := fun x => by rw [mem_chainL ht (by rw [hl]; exact hi), hf]
  have mj : ∀ x : Int, x ∈ chainL (treeL to) j ↔ ∃ k : Nat, x = (k : Int) ∧ Up T j k := fun x => by rw [mem_chainL ht (by rw [hl]; exact hjn), hf]
  unfold nearI
  cases hfd : (chainL (treeL to) i).find? fun x => decide (x ∈ chainL (treeL to) j) with
  | none =>
    rw [List.find?_eq_none] at hfd
    exact absurd (decide_eq_true ((mj d).2 ⟨d, rfl, .one hd⟩)) (hfd d ((mi d).2 ⟨d, rfl, udi⟩))
  | some y =>
    obtain ⟨hy, us, bs, e, hno⟩ := List.find?_eq_some_iff_append.1 hfd
    have hyj := of_decide_eq_true hy
    obtain ⟨k, rfl, hk⟩ := (mj y).1 hyj
    have hdl : (d : Int) ∈ us ++ (k : Int) :: bs := by rw [← e]; exact (mi d).2 ⟨d, rfl, udi⟩
    simp only [Option.getD_some]
    have hkj : k ≠ j := fun e2 => by
      subst e2
      obtain ⟨k', e3, hu⟩ := (mi k).1 (by rw [e]; simp)
      have : k' = k := by omega
      subst this; exact nij hu
    have hdk : Up T d k := hk.head_of hd hkj
    rcases List.mem_append.1 hdl with h1 | h1
    · have h2 := hno _ h1
      rw [decide_eq_true ((mj d).2 ⟨d, rfl, .one hd⟩)] at h2
      cases h2
    · rcases List.mem_cons.1 h1 with h2 | h2
      · exact h2.symm
      · -- d is behind k in the chain of i
        unfold chainL at e
        obtain ⟨us', cs', e1, e2, e3⟩ := List.map_eq_append_iff.1 e
        obtain ⟨k', bs', e4, e5, e6⟩ := List.map_eq_cons_iff.1 e3
        subst e4
        have hs := hci.split e1
        have hkk : k' = k := Int.ofNat.inj e5
        subst hkk
        rw [← e6] at h2
        obtain ⟨d', hd', e7⟩ := List.mem_map.1 h2
        have : d' = d := Int.ofNat.inj e7
        subst this
        have hkd : Up (fnOf (treeL to)) k' d' := (hs.mem_up rfl d').1 (List.mem_cons_of_mem _ hd')
        rw [hf] at hkd
        have := F.inv.anti hkd hdk
        rw [this]
end
end Go.Proofs.Ytbdmpilaeoclgaa.DD
namespace Go.Proofs.Ytbdmpilaeoclgaa
open Go.RowKit
theorem row_blk {n₀ : Nat} {W : World} {b off n cap : Nat} {xs : List Int} (h : Row n₀ W (.slice (some ⟨b, off, none⟩) n cap) xs) (h0 : 0 < xs.length) : b < n₀ := by
  obtain ⟨b', off', cap', e, hb, _⟩ := h.at h0
  cases e; exact hb
set_option maxRecDepth 100000 in
set_option maxHeartbeats 3200000 in
theorem domEdges_in {va : Option Addr} {vc : Nat} {to : List (List Int)} (W : World) (HV : RowKit.Hid (GraphM W.heap.size W (.slice va to.length vc) to)) (HX : RowKit.Hid (Small to)) (hl : to.length ≤ 40) (HR : RowKit.Hid (GG.rightG to = true)) :
    Calls Try.prog 6 #[.slice va to.length vc] W fun e W' => e = .returned (.bool true) ∧ Below W.heap.size W W' := by
  have HT := Lib.hid (fun (h : DD.allB to = true) => DD.treeL_len HR.out h)
  have HN := Lib.hid (fun (h : DD.allB to = false) => DD.treeL_no (to := to) (fun hh => by rw [h] at hh; cases hh.2))
  have hlen := GG.right_len HR.out
  go_enter Try.func6, Try.ntmps6
  go_wp2_with (first
    | (go_at_call 25; refine (rightG_any _ to _ HV.out HX.out).mono ?_; rintro e w' ⟨rfl, hB⟩; have HB := Lib.hid hB; clear hB; rw [HR.out])
    | (go_at_call 15; refine (tree_full (to := to) _ (HV.out.on HB.out HB.out.size) HX.out).mono ?_; rintro e w2 ⟨⟨tv, rfl, ht, hB2⟩, hok⟩; have HTR := Lib.hid ht; have HB2 := Lib.hid (bstep HB.out hB2); have HOK := Lib.hid (hok HR.out); clear ht hB2 hok))
  cases hall : DD.allB to
  · obtain ⟨k, hk⟩ := lostI_no HR.out hall
    have HK := Lib.hid hk
    have hte := HN.out hall
    have htr := HTR.out
    rw [hte] at htr
    obtain ⟨ta, tc, rfl⟩ := htr.form
    clear hk hall hte htr
    refine (lost_any (to := to) _ (HV.out.on HB2.out HB2.out.size) HX.out).mono ?_
    rintro e w3 ⟨rfl, hB3⟩
    rw [HK.out, foundE_hit]
    have HB3 := Lib.hid (bstep HB2.out hB3)
    clear hB3
    go_wp2_with fail
    refine (awakeD_any _).mono ?_
    rintro e w4 ⟨rfl, hb4⟩
    have HB4 := Lib.hid (bstep HB3.out hb4)
    clear hb4
    go_wp2_with fail
    go_ret
    exact ⟨rfl, HB4.out⟩
  · obtain ⟨T, hF⟩ := HOK.out hall
    have HK := Lib.hid (lostI_all HR.out hall)
    have HEN := Lib.hid (fun i j => DD.edge_near (i := i) (j := j) HR.out hall hF)
    have HTL := Lib.hid (HT.out hall)
    obtain ⟨ta, tc, htv⟩ := HTR.out.form
    rw [HTL.out] at htv
    subst htv
    clear hall hF
    refine (lost_any (to := to) _ (HV.out.on HB2.out HB2.out.size) HX.out).mono ?_
    rintro e w3 ⟨rfl, hB3⟩
    rw [HK.out, foundE_none]
    have HT3 := Lib.hid (HTR.out.on hB3 hB3.size)
    have HB3 := Lib.hid (bstep HB2.out hB3)
    have hnn : ((to.length : Int) != (to.length : Int)) = false := bne_self_eq_false _
    clear hB3 HOK HT HN
    obtain ⟨vb, vo, vc', e1⟩ := HV.out.addr (by omega)
    cases e1
    go_wp2_with fail
    clear hnn
    have HXL := Lib.hid (show (DD.treeL to).length ≤ 17592186044416 by rw [HTL.out]; omega)
    have HLL := Lib.hid (show (DD.treeL to).length = to.length from HTL.out)
    have HADJ := Lib.hid (fun (i : Nat) (hi : i < to.length) (k : Nat) (hk : k < (to[i]?.getD []).length) (y : Nat) (e : (to[i]?.getD [])[k]?.getD 0 = (y : Int)) => (show y ∈ GG.adjOf to i from (GG.adj_mem HR.out hi y).2 (by rw [← e]; exact GG.getD_mem hk)))
    clear HTR
    generalize DD.treeL to = xs at HT3 HEN HTL HXL HLL
    go_loopw [6] (fun k wr => ∃ i : Nat, i ≤ to.length ∧ k = .int .i64 (i : Int) ∧ Below w3.heap.size w3 wr) (fun k _ => to.length - (intOf k).toNat)
    case atStart => exact ⟨0, Nat.zero_le _, rfl, Below.refl _ _⟩
    case round =>
      obtain ⟨i, hi, rfl, hB⟩ := hrel
      have HBW := Lib.hid hB
      clear hB
      by_cases hlt : i < to.length
      · have HROW := Lib.hid (GG.row_in (GG.right_at HR.out hlt))
        have b1 : (to[i]?.getD []).length ≤ 17592186044416 := by have := GG.row_len (GG.right_at HR.out hlt); omega
        have HAI := Lib.hid (HADJ.out i hlt)
        have HEI := Lib.hid (fun j => HEN.out i j hlt)
        have HV3 := Lib.hid (HV.out.on HB3.out HB3.out.size)
        have i1 : (0 : Int) ≤ i ∧ (i : Int) < to.length := by omega
        go_wp2_with fail
        go_loopw [7] (fun k wr => ∃ q : Nat, q ≤ (to[i]?.getD []).length ∧ k = .int .i64 (q : Int) ∧ Below w3.heap.size w3 wr) (fun k _ => (to[i]?.getD []).length - (intOf k).toNat)
        case atStart => exact ⟨0, Nat.zero_le _, rfl, HBW.out⟩
        case round =>
          obtain ⟨q, hq, rfl, hB2⟩ := hrel
          have HBQ := Lib.hid hB2
          clear hB2
          obtain ⟨ra, rac, hx1, hrx⟩ := (HV3.out.below HBQ.out).at hlt
          have HRX := Lib.hid hrx
          obtain ⟨r, er⟩ : ∃ r, r = to[i]?.getD [] := ⟨_, rfl⟩
          rw [← er] at hx1 HRX hq b1 HROW HAI
          rw [← er]
          clear hrx er
          by_cases hqt : q < r.length
          · obtain ⟨xb, xo, rfl, hx2⟩ := HRX.out.cellAt hqt
            have i3 : (0 : Int) ≤ q ∧ (q : Int) < r.length := by omega
            have HX := Lib.hid (HROW.out _ (GG.getD_mem (d := 0) hqt))
            have HAY := Lib.hid (HAI.out q hqt)
            obtain ⟨x, ex⟩ : ∃ x, x = r[q]?.getD 0 := ⟨_, rfl⟩
            rw [← ex] at hx2 HX HAY
            clear ex
            obtain ⟨y, rfl⟩ : ∃ y : Nat, x = (y : Int) := ⟨x.toNat, by have := HX.out; omega⟩
            have HYA := Lib.hid (HAY.out y rfl)
            have hyn : y < to.length := by have := HX.out; omega
            clear HAY
            by_cases h0 : y = 0
            · subst h0
              go_wp2_with fail
              go_roundw
              case rel => exact ⟨q + 1, by omega, by go_num, HBQ.out⟩
              case measure => simp [intOf]; omega
            · have h0' : ((y : Int) == 0) = false := beq_eq_false_iff_ne.2 (by omega)
              have HTQ := Lib.hid (HT3.out.on HBQ.out HBQ.out.size)
              cases hd : DD.domB xs y i
              · obtain ⟨e1, e2, e3⟩ := HEI.out y HYA.out h0 hd
                have HD := Lib.hid hd
                obtain ⟨tb, to', e4, hct⟩ := HTQ.out.cellAt (show y < xs.length by rw [HLL.out]; exact hyn)
                cases e4
                have HTB := Lib.hid (row_blk HTQ.out (by rw [HLL.out]; omega))
                obtain ⟨z, ez⟩ : ∃ z, z = xs[y]?.getD 0 := ⟨_, rfl⟩
                rw [← ez] at e1 e2 e3 hct
                obtain ⟨t, rfl⟩ : ∃ t : Nat, z = (t : Int) := ⟨z.toNat, by omega⟩
                have E1 := Lib.hid e1
                have E2 := Lib.hid e2
                have i5 : (0 : Int) ≤ y ∧ (y : Int) < to.length := by omega
                have hzz : ((t : Int) != (t : Int)) = false := bne_self_eq_false _
                have HCT := Lib.hid hct
                clear hd e1 e2 e3 ez hct h0
                go_wp2_with fail
                refine (ddom_any (xs := xs) y i _ HTQ.out HXL.out).mono ?_
                rintro e w5 ⟨rfl, hb5⟩
                rw [HD.out]
                have hct := (hb5.cell (p := ⟨tb, to' + y, none⟩) HTB.out).trans HCT.out
                have HB5 := Lib.hid hb5
                have HT5 := Lib.hid (HTQ.out.on hb5 hb5.size)
                clear hb5
                go_wp2_with fail
                refine (ddom_any (xs := xs) t i _ HT5.out HXL.out).mono ?_
                rintro e w6 ⟨rfl, hb6⟩
                rw [E1.out]
                have HB6 := Lib.hid (bstep HB5.out hb6)
                have HT6 := Lib.hid (HT5.out.on hb6 hb6.size)
                clear hb6 hct
                go_wp2_with fail
                refine (dnear_any (xs := xs) i y _ HT6.out HXL.out).mono ?_
                rintro e w7 ⟨rfl, hb7⟩
                rw [E2.out, foundE_hit]
                have HB7 := Lib.hid (bstep HB6.out hb7)
                have hct := (HB7.out.cell (p := ⟨tb, to' + y, none⟩) HTB.out).trans HCT.out
                have HB8 := Lib.hid (bstep HBQ.out HB7.out)
                clear hb7
                go_wp2_with fail
                go_roundw
                case rel => exact ⟨q + 1, by omega, by go_num, HB8.out⟩
                case measure => simp [intOf]; omega
              · have HD := Lib.hid hd
                clear hd
                go_wp2_with fail
                refine (ddom_any (xs := xs) y i _ HTQ.out HXL.out).mono ?_
                rintro e w5 ⟨rfl, hb5⟩
                rw [HD.out]
                have HB5 := Lib.hid (bstep HBQ.out hb5)
                clear hb5
                go_wp2_with fail
                go_roundw
                case rel => exact ⟨q + 1, by omega, by go_num, HB5.out⟩
                case measure => simp [intOf]; omega
          · go_wp2_with fail
            go_roundw
            case rel => exact ⟨i + 1, by omega, by go_num, HBQ.out⟩
            case measure => simp [intOf]; omega
      · go_wp2_with fail
        refine (awakeD_any _).mono ?_
        rintro e w4 ⟨rfl, hb4⟩
        have HB4 := Lib.hid (bstep (HB3.out.trans (HBW.out.mono HB3.out.size)) hb4)
        clear hb4
        go_wp2_with fail
        go_ret
        exact ⟨rfl, HB4.out⟩
set_option maxRecDepth 100000 in
set_option maxHeartbeats 1600000 in
theorem edges_long {va : Option Addr} {vc : Nat} {to : List (List Int)} (W : World) (HV : RowKit.Hid (GraphM W.heap.size W (.slice va to.length vc) to)) (HX : RowKit.Hid (Small to)) (hx0 : to.length ≤ 17592186044416) (h : ¬ to.length ≤ 40) :
    Calls Try.prog 6 #[.slice va to.length vc] W fun e W' => e = .returned (.bool true) ∧ Below W.heap.size W W' := by
  have HBB := Lib.hid (Below.refl W.heap.size W)
  go_enter Try.func6, Try.ntmps6
  go_wp2_with (first
    | (go_at_call 25; refine (rightG_any _ to _ HV.out HX.out).mono ?_; rintro e w' ⟨rfl, hB⟩; have HB := Lib.hid (bstep HBB.out hB); clear hB HBB; have HBB := HB; clear HB; rw [HR.out])
    | (go_at_call 18; refine (awakeD_any _).mono ?_; rintro e w' ⟨rfl, hbn⟩; have HB2 := Lib.hid (bstep HBB.out hbn); clear HBB hbn; have HBB := HB2; clear HB2))
  go_ret
  exact ⟨rfl, HBB.out⟩

set_option maxRecDepth 100000 in
set_option maxHeartbeats 1600000 in
theorem edges_no {va : Option Addr} {vc : Nat} {to : List (List Int)} (W : World) (HV : RowKit.Hid (GraphM W.heap.size W (.slice va to.length vc) to)) (HX : RowKit.Hid (Small to)) (hx0 : to.length ≤ 17592186044416) (h : to.length ≤ 40) (HR : RowKit.Hid (GG.rightG to = false)) :
    Calls Try.prog 6 #[.slice va to.length vc] W fun e W' => e = .returned (.bool true) ∧ Below W.heap.size W W' := by
  have HBB := Lib.hid (Below.refl W.heap.size W)
  go_enter Try.func6, Try.ntmps6
  go_wp2_with (first
    | (go_at_call 25; refine (rightG_any _ to _ HV.out HX.out).mono ?_; rintro e w' ⟨rfl, hB⟩; have HB := Lib.hid (bstep HBB.out hB); clear hB HBB; have HBB := HB; clear HB; rw [HR.out])
    | (go_at_call 18; refine (awakeD_any _).mono ?_; rintro e w' ⟨rfl, hbn⟩; have HB2 := Lib.hid (bstep HBB.out hbn); clear HBB hbn; have HBB := HB2; clear HB2))
  go_ret
  exact ⟨rfl, HBB.out⟩
theorem domEdges_walk {v : Value} {to : List (List Int)} (W : World) (hv : GraphM W.heap.size W v to) (hx : Small to) :
    Calls Try.prog 6 #[v] W fun e W' => e = .returned (.bool true) ∧ Below W.heap.size W W' := by
  have HV := Lib.hid hv
  have HX := Lib.hid hx
  have hx0 := hx.1
  obtain ⟨va, vc, rfl⟩ := hv.form
  clear hv hx
  by_cases h : to.length ≤ 40
  · cases hr : GG.rightG to
    · exact edges_no W HV HX hx0 h (Lib.hid hr)
    · exact domEdges_in W HV HX h (Lib.hid hr)
  · exact edges_long W HV HX hx0 h
end Go.Proofs.Ytbdmpilaeoclgaa
