import Derived.Test.YtbdmpilaeoclgaaDomG
import Derived.ScopeJumps
import Derived.WalkMore
set_option linter.unusedSimpArgs false
set_option linter.unusedVariables false
/-! dom: Tree (the project) -/
namespace Go
theorem least_of {P : Nat → Prop} : ∀ (n : Nat), P n → ∃ m, P m ∧ ∀ k, P k → m ≤ k := by
  intro n
  induction n using Nat.strongRecOn with
  | _ n ih =>
    intro h
    by_cases hl : ∃ k, k < n ∧ P k
    · obtain ⟨k, hk, hp⟩ := hl
      exact ih k hk hp
    · exact ⟨n, h, fun k hk => Nat.le_of_not_lt fun hlt => hl ⟨k, hlt, hk⟩⟩
open Classical in
/-- the least number of which something is so -/
noncomputable def leastN (P : Nat → Prop) : Nat := if h : ∃ m, P m ∧ ∀ k, P k → m ≤ k then Classical.choose h else 0
theorem leastN_spec {P : Nat → Prop} {n : Nat} (h : P n) : P (leastN P) ∧ ∀ k, P k → leastN P ≤ k := by
  unfold leastN
  rw [dif_pos (least_of n h)]
  exact Classical.choose_spec (least_of n h)
/-- a scope with one label to which is jumped back: a ghost that each round lowers -/
theorem wp_scope_ghost {P : Program} {a : Act} {w : World} {Q : Exit → Act → World → Prop} {c rest : Code} (l : Nat) (J : Nat → Act → World → Prop) (hf : findLabel c l = some (.seq .skip rest))
    (pass : ∀ n a w, J n a w → rest.wp P (Exit.jump l (fun a' w' => ∃ m, m < n ∧ J m a' w') Q) a w)
    (first : ∀ R : Exit → Act → World → Prop, (∀ n a w, J n a w → rest.wp P R a w) → c.wp P R a w) : (Code.scope c).wp P Q a w := by
  have hmono : ∀ n a w, J n a w → rest.wp P (Exit.jump l (fun a' w' => (∃ m, J m a' w') ∧ leastN (fun m => J m a' w') < n) Q) a w := fun n a w h => by
    refine Code.wp_mono (fun e a' w' hq => ?_) (pass n a w h)
    cases e with
    | goto l' =>
      obtain ⟨h1, m, hm, hj⟩ := hq
      exact ⟨h1, ⟨m, hj⟩, Nat.lt_of_le_of_lt ((leastN_spec (P := fun m => J m a' w') hj).2 m hj) hm⟩
    | normal => exact hq
    | exit _ => exact hq
    | ret => exact hq
    | panic _ => exact hq
    | outgrown => exact hq
  refine wp_scope_jumps l (fun a w => ∃ n, J n a w) (fun a w => leastN (fun m => J m a w)) hf (first _ fun n a w h => ?_) (fun a w ⟨n, h⟩ => ?_)
  · refine Code.wp_mono (fun e a' w' hq => ?_) (hmono n a w h)
    cases e with
    | goto l' => exact ⟨hq.1, hq.2.1⟩
    | normal => exact hq
    | exit _ => exact hq
    | ret => exact hq
    | panic _ => exact hq
    | outgrown => exact hq
  · exact wp_seq (wp_skip (hmono _ a w (leastN_spec (P := fun m => J m a w) h).1))
end Go
namespace Go.Proofs.Ytbdmpilaeoclgaa
open Go.RowKit
theorem lostI_no {to : List (List Int)} (hr : GG.rightG to = true) (h : DD.allB to = false) : ∃ k : Nat, lostI to = (k : Int) := by
  unfold DD.allB at h
  rw [List.all_eq_false] at h
  unfold lostI
  rw [if_pos hr]
  obtain ⟨x, hx, hnx⟩ := h
  obtain ⟨m, ⟨hm1, hm2⟩, hl⟩ := least_of (P := fun k => k < to.length ∧ (!GG.reachB to (-1) 0 k) = true) x ⟨List.mem_range.1 hx, by simpa using hnx⟩
  refine ⟨m, GG.firstN_hit hm1 hm2 (fun j hj => ?_)⟩
  cases e : (!GG.reachB to (-1) 0 j)
  · rfl
  · have := hl j ⟨by omega, e⟩; omega
theorem lostI_all {to : List (List Int)} (hr : GG.rightG to = true) (h : DD.allB to = true) : lostI to = -1 := by
  unfold lostI
  rw [if_pos hr]
  exact GG.firstN_none fun j hj => by rw [DD.all_at h hj]; rfl
/-- the frame at the label: the order, those that lead to each node, the places, the tree -/
def TFrame (o b p t : Value) (a : Act) : Prop := ∃ u0 u1 u2 u3 u4 u9 u10 u11 u12 u13 u14 u15 u16 u17 u18 u19 u20 u21 u22 u23 u24 u25 u26 u27 u28 u29 u30 u31 u32 u33 u34 u35 u36 u37 u38 u39 u40 u41 u42 u43 u44 u45 u46 u47 u48 u49 u50 u51 u52 u53 u54 u55 : Value, a = { tmps := #[u0, u1, u2, u3, u4, o, b, p, t, u9, u10, u11, u12, u13, u14, u15, u16, u17, u18, u19, u20, u21, u22, u23, u24, u25, u26, u27, u28, u29, u30, u31, u32, u33, u34, u35, u36, u37, u38, u39, u40, u41, u42, u43, u44, u45, u46, u47, u48, u49, u50, u51, u52, u53, u54, u55], defers := [] }
theorem cell_new (W : World) (x : Value) (t : TypeId) : (W.alloc (.cells #[x] t)).cell? ⟨W.heap.size, 0, none⟩ = some x := by
  have := GG.cell_one W x t 0 x rfl
  rwa [Addr.add_lit] at this
theorem places_n (la : Option Addr) (lc n : Nat) (l : List Int) (w : World) (HF : Row w.heap.size w (.slice la n lc) l) (hln : l.length = n) (hn : l.Nodup) (hll : n ≤ 256) (hl : ∀ x ∈ l, 0 ≤ x ∧ x < n) :
    Calls Try.prog 41 #[.slice la n lc] w fun e w' => e = .returned (.slice (some ⟨w.heap.size, 0, none⟩) n n) ∧ IntsN w' w.heap.size n (plA l n) ∧ Below w.heap.size w w' := by
  subst hln
  exact places_any la lc l w HF hn hll hl
theorem own_rd {W : World} {B n : Nat} {T : Nat → Int} {v : Value} {xs : List Value} (h : W.ownsRow B 3 1 v n xs) (hx : xs = intsV ((List.range n).map T)) (h0 : 0 < n) : ∃ g cap, v = .slice (some ⟨g, 0, none⟩) n cap ∧ B ≤ g ∧ g < W.heap.size ∧ Rd W g 0 n T := by
  subst hx
  have hl := h.lt
  have hr := cells_of_row h
  rcases h.2 with ⟨rfl, e⟩ | ⟨g, cap, cur, rfl, hb, hg, _⟩
  · omega
  · refine ⟨g, cap, rfl, hb, (hl g rfl).2, fun i hi => ?_⟩
    rcases hr with ⟨_, e⟩ | ⟨g', off, cap', e, _, _, hc⟩
    · have : (intsV ((List.range n).map T)).length = 0 := by rw [e]; rfl
      rw [intsV_len] at this; simp at this; omega
    · simp at e
      obtain ⟨⟨rfl, rfl⟩, _⟩ := e
      refine hc i _ ?_
      unfold intsV
      rw [List.getElem?_map, List.getElem?_map, List.getElem?_range hi]; rfl
theorem Rd.setCell {W : World} {b off n g i : Nat} {f : Nat → Int} (h : Rd W b off n f) (hne : b ≠ g) (v : Value) : Rd (W.setCell ⟨g, i, none⟩ v) b off n f := fun j hj => by
  rw [World.cell?_setCell_other _ _ _ _ (by simp [Ne.symm hne])]; exact h j hj
theorem Rd.below {W W' : World} {b off n B : Nat} {f : Nat → Int} (h : Rd W b off n f) (hb : Below B W W') (hl : b < B) : Rd W' b off n f := fun j hj => (hb.cell (p := ⟨b, off + j, none⟩) hl).trans (h j hj)
/-- what holds at the label -/
structure TJ (W : World) (to : List (List Int)) (R n : Nat) (W1 : World) (ob oo oc : Nat) (bv : Value) (pb tb r : Nat) (T : Nat → Int) (w : World) : Prop where
  at_ : tb = W1.heap.size
  order : Row W1.heap.size W1 (.slice (some ⟨ob, oo, none⟩) to.length oc) (GG.orderL to)
  back : GraphM W1.heap.size W1 bv (GG.backG to)
  place : Rd W1 pb 0 to.length (fun i => (DD.plOf to i : Int))
  placeAt : pb < W1.heap.size
  base : Below W.heap.size W W1
  tree : IntsN w tb to.length T
  below : Below W1.heap.size W1 w
  st : DD.St to.length (GG.adjOf to) (DD.plOf to) r 1 T
  ghost : n + r = R + 2
def TJump (W : World) (to : List (List Int)) (R n : Nat) (a : Act) (w : World) : Prop :=
  ∃ (W1 : World) (ob oo oc : Nat) (bv : Value) (pb tb r : Nat) (T : Nat → Int), TFrame (.slice (some ⟨ob, oo, none⟩) to.length oc) bv (.slice (some ⟨pb, 0, none⟩) to.length to.length) (.slice (some ⟨tb, 0, none⟩) to.length to.length) a ∧ TJ W to R n W1 ob oo oc bv pb tb r T w
theorem map_eq {n : Nat} {T T0 : Nat → Int} (h : (List.range n).map T = (List.range n).map T0) : ∀ k, k < n → T k = T0 k := fun k hk => by
  have := congrArg (fun l => l[k]?) h
  simpa [List.getElem?_map, List.getElem?_range hk] using this
theorem fun_eq {n : Nat} {T T0 : Nat → Int} (h : ∀ k, k < n → T k = T0 k) (h1 : ∀ k, n ≤ k → T k = -1) (h2 : ∀ k, n ≤ k → T0 k = -1) : T = T0 := by
  funext k
  by_cases e : k < n
  · exact h k e
  · rw [h1 k (by omega), h2 k (by omega)]
theorem tj_first {W : World} {to : List (List Int)} {R : Nat} {w5 w6 w7 : World} {oa : Option Addr} {oc pb : Nat} {bv : Value} (hr : GG.rightG to = true) (ha : DD.allB to = true) (G : DD.Gr to.length (GG.adjOf to) (DD.plOf to))
    (ho : Row w5.heap.size w5 (.slice oa to.length oc) (GG.orderL to)) (hg : GraphM w5.heap.size w5 bv (GG.backG to)) (hp : IntsN w5 pb to.length (plA (GG.orderL to) to.length)) (hpb : pb < w5.heap.size) (hb : Below W.heap.size W w5) (h6 : Below w5.heap.size w5 w6) (ht : IntsN w7 w6.heap.size to.length (fun _ => -1)) (h7 : Below w6.heap.size w6 w7) {tb : Nat} (htb : tb = w6.heap.size) :
    ∃ ob oo, oa = some ⟨ob, oo, none⟩ ∧ TJ W to R (R + 2) w6 ob oo oc bv pb tb 0 (fun k => -1) w7 := by
  have hl := DD.order_len hr ha
  obtain ⟨ob, oo, cap, e, _⟩ := ho.at (by have := GG.right_len hr; omega)
  simp at e
  obtain ⟨rfl, -, rfl⟩ := e
  have ho6 := ho.on h6 h6.size
  have hs := h6.size
  subst htb
  refine ⟨ob, oo, rfl, ⟨rfl, ho6, hg.on h6 h6.size, (hp.congr (f' := fun i => (DD.plOf to i : Int)) (fun i hi => plA_all (by omega) ((DD.order_mem hr ha).2 hi))).rd.below h6 hpb, by omega, bstep hb h6, ht, h7, DD.st_first G (fun _ => rfl), by omega⟩⟩
/-- a round that has changed something was not one too many -/
theorem round_left {n : Nat} {adj : Nat → List Nat} {pl : Nat → Nat} {r R : Nat} {T T0 : Nat → Int} (G : DD.Gr n adj pl) (hR : ∀ a k, a < n → k < n → DD.Av adj a k → DD.RP adj pl a R k) (h0 : DD.St n adj pl r 1 T0) (h1 : DD.St n adj pl (r + 1) 1 T) (hne : T ≠ T0) : r ≤ R := by
  rcases Nat.lt_or_ge R r with h | h
  · exact absurd ((h1.fin_far G hR (by omega)).same (h0.fin_far G hR h)) hne
  · exact h
/-- the tree is one of dominators -/
def TreeOk (to : List (List Int)) : Prop := GG.rightG to = true → DD.allB to = true → ∃ T, DD.Fin to.length (GG.adjOf to) (DD.plOf to) T
set_option maxRecDepth 100000 in
set_option maxHeartbeats 3200000 in
theorem tree_full {v : Value} {to : List (List Int)} (W : World) (hv : GraphM W.heap.size W v to) (hx : Small to) :
    Calls Try.prog 15 #[v] W fun e W' => NewInts W.heap.size (DD.treeL to) e W W' ∧ TreeOk to := by
  have hx0 := hx.1
  have HV := Lib.hid hv
  have HX := Lib.hid hx
  obtain ⟨va, vc, rfl⟩ := hv.form
  clear hv hx
  cases hr : GG.rightG to
  · have HR := Lib.hid hr
    have HE := Lib.hid (show DD.treeL to = [] by unfold DD.treeL; rw [if_neg (by rw [hr]; simp)])
    clear hr
    go_enter Try.func15, Try.ntmps15
    go_wp2
    go_step3
    go_wp2_with (go_at_call 25; refine (rightG_any _ to _ HV.out HX.out).mono ?_; rintro e w' ⟨rfl, hB⟩; have HB := Lib.hid hB; clear hB; rw [HR.out])
    try rw [Exit.noGoto_ret]
    go_ret
    exact ⟨⟨_, rfl, by rw [HE.out]; exact cells_empty _ _ _ _ (fun _ => rfl), HB.out⟩, fun h => absurd (h.symm.trans HR.out) (by decide)⟩
  · cases ha : DD.allB to
    · have HR := Lib.hid hr
      obtain ⟨k, hk⟩ := lostI_no hr ha
      have HK := Lib.hid hk
      have HE := Lib.hid (show DD.treeL to = [] by unfold DD.treeL; rw [if_neg (by rw [ha]; simp)])
      have HA := Lib.hid ha
      clear hr ha hk
      go_enter Try.func15, Try.ntmps15
      go_wp2
      go_step3
      go_wp2_with (first
        | (go_at_call 25; refine (rightG_any _ to _ HV.out HX.out).mono ?_; rintro e w' ⟨rfl, hB⟩; have HB := Lib.hid hB; clear hB; rw [HR.out])
        | (go_at_call 26; refine (lost_any (to := to) _ (HV.out.on HB.out HB.out.size) HX.out).mono ?_; rintro e w2 ⟨rfl, hB2⟩; have HB2 := Lib.hid (bstep HB.out hB2); clear hB2; rw [HK.out, foundE_hit]))
      try rw [Exit.noGoto_ret]
      go_ret
      exact ⟨⟨_, rfl, by rw [HE.out]; exact cells_empty _ _ _ _ (fun _ => rfl), HB2.out⟩, fun _ h => absurd (h.symm.trans HA.out) (by decide)⟩
    · have HR := Lib.hid hr
      have HA := Lib.hid ha
      have HG := Lib.hid (DD.gr_of hr ha)
      have hlen := GG.right_len hr
      have HK := Lib.hid (lostI_all hr ha)
      have HOE := Lib.hid (show orderE to = GG.orderL to by unfold orderE; rw [if_pos hr])
      have HOL := Lib.hid (DD.order_len hr ha)
      have HON := Lib.hid (GG.order_nodup hr)
      have HBE := Lib.hid (show backE to = GG.backG to by unfold backE; rw [if_pos hr])
      have HFL := Lib.hid (fun T F => DD.fin_list (T := T) hr ha F)
      obtain ⟨R, hR⟩ := DD.RP.all (GG.adjOf to) (DD.plOf to) to.length
      have HRR := Lib.hid hR
      clear hr ha hR
      go_enter Try.func15, Try.ntmps15
      go_wp2
      refine wp_scope_ghost 0 (TJump W to R) rfl ?pass ?first
      case first =>
        intro QR hrest
        go_wp2_with (first
          | (go_at_call 25; refine (rightG_any _ to _ HV.out HX.out).mono ?_; rintro e w' ⟨rfl, hB⟩; have HB := Lib.hid hB; clear hB; rw [HR.out])
          | (go_at_call 26; refine (lost_any (to := to) _ (HV.out.on HB.out HB.out.size) HX.out).mono ?_; rintro e w2 ⟨rfl, hB2⟩; have HB2 := Lib.hid (bstep HB.out hB2); clear hB2; rw [HK.out, foundE_none])
          | (go_at_call 39
             refine (order_any (to := to) _ (HV.out.on HB2.out HB2.out.size) HX.out).mono ?_
             rintro e w3 ⟨ov, rfl, ho, hB3⟩
             rw [HOE.out] at ho
             obtain ⟨oa, oc, hov⟩ := ho.form
             rw [HOL.out] at hov
             subst hov
             have HO3 := Lib.hid ho
             have HB3 := Lib.hid (bstep HB2.out hB3)
             clear ho hB3)
          | (go_at_call 40
             refine (back_any (to := to) _ (HV.out.on HB3.out HB3.out.size) HX.out).mono ?_
             rintro e w4 ⟨bv, rfl, hg, hB4⟩
             rw [HBE.out] at hg
             have HG4 := Lib.hid hg
             have HO4 := Lib.hid (HO3.out.on hB4 hB4.size)
             have HB4 := Lib.hid (bstep HB3.out hB4)
             clear hg hB4)
          | (go_at_call 41
             refine (places_n oa oc to.length (GG.orderL to) w4 HO4.out HOL.out HON.out hlen.2 (fun x hx => by have := (GG.mem_order HR.out x).1 hx; exact ⟨this.1, this.2.1⟩)).mono ?_
             rintro e w5 ⟨rfl, hp, hB5⟩
             have HP5 := Lib.hid hp
             have HO5 := Lib.hid (HO4.out.on hB5 hB5.size)
             have HG5 := Lib.hid (HG4.out.on hB5 hB5.size)
             have HB5 := Lib.hid (bstep HB4.out hB5)
             have HS5 := Lib.hid (show w4.heap.size < w5.heap.size from World.rowIs.lt hp)
             clear hp hB5)
          | (go_at_call 42
             have HB6 := Lib.hid ((Below.refl w5.heap.size w5).alloc (Nat.le_refl _) (.cells #[.int .i64 (-1)] 3))
             refine (repeat_any w5.heap.size 0 1 to.length (-1) _ (cell_new _ _ _) (by simp) hlen.1 hlen.2).mono ?_
             rintro e w7 ⟨rfl, ht, hB7⟩
             have HT7 := Lib.hid ht
             have HB7 := Lib.hid hB7
             clear ht hB7))
        have HJ := Lib.hid (fun (tb : Nat) (e : tb = w5.heap.size + 1) => tj_first (W := W) (R := R) (tb := tb) HR.out HA.out HG.out HO5.out HG5.out HP5.out HS5.out HB5.out HB6.out HT7.out HB7.out (by rw [e]; simp))
        obtain ⟨ob, oo, rfl, hj⟩ := HJ.out _ rfl
        rename_i hK
        go_step3
        refine hK _ _ (hrest (R + 2) _ _ ⟨_, _, _, _, _, _, _, _, _, ?_, hj⟩)
        exact ⟨_, _, _, _, _, _, _, _, _, _, _, _, _, _, _, _, _, _, _, _, _, _, _, _, _, _, _, _, _, _, _, _, _, _, _, _, _, _, _, _, _, _, _, _, _, _, _, _, _, _, _, _, rfl⟩
      case pass =>
        intro gh a w hJ
        obtain ⟨W1, ob, oo, oc, bv, pb, tb, r, T0, hfr, hj⟩ := hJ
        obtain ⟨u0, u1, u2, u3, u4, u9, u10, u11, u12, u13, u14, u15, u16, u17, u18, u19, u20, u21, u22, u23, u24, u25, u26, u27, u28, u29, u30, u31, u32, u33, u34, u35, u36, u37, u38, u39, u40, u41, u42, u43, u44, u45, u46, u47, u48, u49, u50, u51, u52, u53, u54, u55, rfl⟩ := hfr
        have HJ := Lib.hid hj
        have HOC := Lib.hid (show to.length ≤ oc by
          rcases HJ.out.order with ⟨⟨_, _, e, _⟩, e2⟩ | ⟨_, _, _, e, _, h, _⟩
          · have : (intsV (GG.orderL to)).length = 0 := by rw [e2]; rfl
            rw [intsV_len, HOL.out] at this; omega
          · rw [intsV_len, HOL.out] at h e
            cases e; exact h)
        have hcp : ∀ j, j < ((List.range to.length).map T0).length → w.cell? ⟨tb, 0 + j, none⟩ = some (.int .i64 (((List.range to.length).map T0).getD j 0)) := fun j hjl => by
          have hjn : j < to.length := by simpa using hjl
          rw [hj.tree.rd j hjn, List.getD_eq_getElem?_getD, List.getElem?_map, List.getElem?_range hjn]; rfl
        have HC := Lib.hid (Try.slices_Clone_int tb 0 to.length to.length ((List.range to.length).map T0) w (by simp) (by omega) hcp)
        clear hj hcp
        go_wp2_with (go_at_call 43
                     refine HC.out.mono ?_
                     rintro e w2 ⟨cv, rfl, hown, _, hB2⟩
                     rw [List.take_of_length_le (by simp)] at hown
                     obtain ⟨cb, cc, rfl, hcb, hcl, hrd⟩ := own_rd hown rfl (by omega)
                     have HRD := Lib.hid hrd
                     have HB2 := Lib.hid hB2
                     clear hown hrd hB2)
        all_goals try subst h
        all_goals
          obtain ⟨bb, bo, bc, hbv⟩ := HJ.out.back.addr (by rw [GG.back_len]; omega)
          rw [GG.back_len] at hbv
          subst hbv
          go_loopw [36] (fun k wr => ∃ (q : Nat) (T : Nat → Int), q ≤ to.length - 1 ∧ k = .int .i64 (q : Int) ∧ IntsN wr tb to.length T ∧ Below W1.heap.size W1 wr ∧ Rd wr cb 0 to.length T0 ∧ RowKit.Hid (DD.St to.length (GG.adjOf to) (DD.plOf to) r (q + 1) T ∧ DD.Fx to.length (GG.adjOf to) (DD.plOf to) T0 (q + 1) T)) (fun k _ => to.length - 1 - (intOf k).toNat)
          case atStart =>
            have htl := HJ.out.at_
            have hts := World.rowIs.lt HJ.out.tree
            exact ⟨0, T0, Nat.zero_le _, rfl, HJ.out.tree.below HB2.out hts, HJ.out.below.trans (HB2.out.mono (by omega)), HRD.out, Lib.hid ⟨HJ.out.st, DD.fx_first HG.out⟩⟩
          case round =>
            obtain ⟨q, T, hq, rfl, hI, hB, hR0, HS⟩ := hrel
            have HI := Lib.hid hI
            have HB := Lib.hid hB
            have HR0 := Lib.hid hR0
            clear hI hB hR0
            have htb : cb ≠ tb := by have := World.rowIs.lt HJ.out.tree; omega
            by_cases hlt : q < to.length - 1
            · first
              | (exfalso; have := HOC.out; omega)
              | (obtain ⟨i, hin, hoi, hpi⟩ := DD.at_pl HR.out HA.out (show q + 1 < to.length by omega)
                 have hc : wr.cell? ⟨ob, oo + 1 + q, none⟩ = some (.int .i64 (i : Int)) := by
                   obtain ⟨b', o', e1, e2⟩ := (HJ.out.order.below HB.out).cellAt (show q + 1 < (GG.orderL to).length by rw [HOL.out]; omega)
                   cases e1
                   rw [hoi, show oo + (q + 1) = oo + 1 + q by omega] at e2
                   exact e2
                 have hi0 : i ≠ 0 := fun e => by rw [e, HG.out.first] at hpi; omega
                 obtain ⟨ra, rc, hrc, hrr⟩ := (HJ.out.back.below HB.out).at (show i < (GG.backG to).length by rw [GG.back_len]; exact hin)
                 rw [GG.back_at hin] at hrc hrr
                 have hll := ledBy_len to i to.length
                 have HPR := Lib.hid (show DD.preds to i = natsOf (GG.ledBy to i to.length) from rfl)
                 have HLB := Lib.hid (fun x (hx : x ∈ GG.ledBy to i to.length) => (show 0 ≤ x ∧ x < (to.length : Int) by obtain ⟨k, rfl, hk, _⟩ := GG.mem_ledBy.1 hx; omega))
                 have HMP := Lib.hid (DD.mem_preds HR.out hin)
                 rw [HPR.out] at HMP
                 obtain ⟨l, el⟩ : ∃ l, l = GG.ledBy to i to.length := ⟨_, rfl⟩
                 rw [← el] at hrc hrr hll HLB HMP
                 have HRR2 := Lib.hid (hrr.mono (show W1.heap.size ≤ wr.heap.size by have := HB.out.size; omega))
                 have hct := World.rowIs.cell HI.out hin
                 have hft := World.rowIs.frozen HI.out i
                 have i1 : (0 : Int) ≤ q ∧ (q : Int) < (to.length - 1 : Nat) := by omega
                 have i2 : (0 : Int) ≤ i ∧ (i : Int) < to.length := by omega
                 have HSTEP := Lib.hid (fun c hm => (And.intro (HS.out.1.step (near := c) HG.out hin hi0 hpi HMP.out hm) (HS.out.2.step (near := c) HS.out.1 (fun k hk => HJ.out.st.inv.out k hk) HG.out hin hi0 hpi HMP.out hm)))
                 clear el hrr HPR hoi hpi
                 go_wp2_with (go_at_call 44
                              refine (above_any tb 0 to.length pb 0 to.length ra rc l _ HI.out.rd (HJ.out.place.below HB.out HJ.out.placeAt) HRR2.out HS.out.1.inv HG.out hlen.2 (by omega) HLB.out).mono ?_
                              rintro e w5 ⟨⟨c, rfl, hm⟩, d, rfl⟩
                              have HN := Lib.hid (HSTEP.out c hm)
                              clear hm)
                 go_roundw
                 case rel => exact ⟨q + 1, DD.setI T i c, by omega, by go_num, IntsN.set (W := wr.drewN d) HI.out i c, (below_dN HB.out d).setCell (p := ⟨tb, i, none⟩) (by have := HJ.out.at_; simp; omega) _, Rd.setCell (W := wr.drewN d) HR0.out htb _, HN⟩
                 case measure => simp [intOf]; omega)
            · have HE := Lib.hid (Try.slices_Equal_int tb 0 to.length to.length cb 0 to.length cc ((List.range to.length).map T) ((List.range to.length).map T0) wr (by simp) (by simp) (by omega) (by omega) (fun j hj => by
                have hjn : j < to.length := by simpa using hj
                rw [HI.out.rd j hjn, List.getD_eq_getElem?_getD, List.getElem?_map, List.getElem?_range hjn]; rfl) (fun j hj => by
                have hjn : j < to.length := by simpa using hj
                rw [HR0.out j hjn, List.getD_eq_getElem?_getD, List.getElem?_map, List.getElem?_range hjn]; rfl))
              rw [List.take_of_length_le (by simp), List.take_of_length_le (by simp)] at HE
              cases hb : ((List.range to.length).map T == (List.range to.length).map T0)
              · have HNX := Lib.hid (HS.out.1.next HG.out (show to.length ≤ q + 1 by omega))
                have HRL := Lib.hid (round_left HG.out HRR.out HJ.out.st HNX.out (fun e => by rw [e, beq_self_eq_true] at hb; cases hb))
                have hgh := HJ.out.ghost
                have hrl := HRL.out
                rw [hb] at HE
                clear hb
                go_wp2_with (go_at_call 45; refine HE.out.mono ?_; rintro e w5 ⟨rfl, d, rfl⟩)
                go_step3
                exact ⟨rfl, gh - 1, by omega, W1, ob, oo, _, _, pb, tb, r + 1, T, ⟨_, _, _, _, _, _, _, _, _, _, _, _, _, _, _, _, _, _, _, _, _, _, _, _, _, _, _, _, _, _, _, _, _, _, _, _, _, _, _, _, _, _, _, _, _, _, _, _, _, _, _, _, rfl⟩, ⟨HJ.out.at_, HJ.out.order, HJ.out.back, HJ.out.place, HJ.out.placeAt, HJ.out.base, HI.out, below_dN HB.out d, HNX.out, by omega⟩⟩
              · have hTT : T = T0 := fun_eq (map_eq (by simpa using hb)) (fun k hk => HS.out.1.inv.out k hk) (fun k hk => HJ.out.st.inv.out k hk)
                have HFIN := Lib.hid (HS.out.1.fin_fix HG.out (show to.length ≤ q + 1 by omega) (by have h := HS.out.2; rw [← hTT] at h; exact h))
                have HFN := Lib.hid (HFL.out T HFIN.out)
                rw [hb] at HE
                clear hb hTT
                go_wp2_with (go_at_call 45; refine HE.out.mono ?_; rintro e w5 ⟨rfl, d, rfl⟩)
                simp only [Exit.jump]
                go_ret
                exact ⟨⟨_, rfl, by rw [← HFN.out]; exact (IntsN.row (W := wr.drewN d) HI.out), (HJ.out.base.trans ((below_dN HB.out d).mono HJ.out.base.size))⟩, fun _ _ => ⟨_, HFIN.out⟩⟩
theorem tree_any {v : Value} {to : List (List Int)} (W : World) (hv : GraphM W.heap.size W v to) (hx : Small to) :
    Calls Try.prog 15 #[v] W fun e W' => NewInts W.heap.size (DD.treeL to) e W W' := (tree_full W hv hx).mono fun e W' h => h.1
end Go.Proofs.Ytbdmpilaeoclgaa
