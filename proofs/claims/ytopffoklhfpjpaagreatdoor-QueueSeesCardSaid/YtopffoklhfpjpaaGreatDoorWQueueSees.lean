import Derived.Test.YtopffoklhfpjpaaGreatDoorQuI
import Derived.Test.YtopffoklhfpjpaaGreatDoorQuS
import Derived.Deep.Cut
set_option linter.unusedSimpArgs false
set_option linter.unusedVariables false
/-! QueueSees: the walk -/
namespace Go.Proofs.YtopffoklhfpjpaaGreatDoor
open Go.RowKit
theorem sees_pol {A B : World} {v0 v1 v2 v3 : Value} {st : PSt} {S : List Int} (h : PolIn A v0 v1 v2 v3 st S) (hs : A.heap.size ≤ B.heap.size) (hc : ∀ a v, A.cell? a = some v → B.cell? a = some v) : PolIn B v0 v1 v2 v3 st S := by
  refine { h with s0 := ?_, s1 := ?_, s2 := ?_, s3 := ?_ }
  · rcases h.s0 with e | ⟨b, off, cap, e, hb, hl, hcc⟩
    · exact .inl e
    · exact .inr ⟨b, off, cap, e, by omega, hl, fun j hj => hc _ _ (hcc j hj)⟩
  · rcases h.s1 with e | ⟨b, off, cap, e, hb, hl, hcc⟩
    · exact .inl e
    · exact .inr ⟨b, off, cap, e, by omega, hl, fun j hj => hc _ _ (hcc j hj)⟩
  · rcases h.s2 with e | ⟨b, off, cap, e, hb, hl, hcc⟩
    · exact .inl e
    · exact .inr ⟨b, off, cap, e, by omega, hl, fun j hj => ⟨hc _ _ (hcc j hj).1, hc _ _ (hcc j hj).2⟩⟩
  · rcases h.s3 with e | ⟨b, off, cap, e, hb, hl, hcc⟩
    · exact .inl e
    · exact .inr ⟨b, off, cap, e, by omega, hl, fun j hj => ⟨hc _ _ (hcc j hj).1, hc _ _ (hcc j hj).2⟩⟩
theorem sees_lit {A B : World} {g : Nat} {t : TypeId} (hg : A.heap[g]? = some (.cells #[] t)) (h : A.grownBy B (some g)) : ∀ a v, A.cell? a = some v → B.cell? a = some v := by
  intro a v ha
  by_cases e : a.block = g
  · exfalso
    unfold World.cell? at ha
    rw [e, hg] at ha
    simp at ha
  · exact h.cell ha (by intro h'; cases h'; exact e rfl)
theorem sees_own {V : World} {g B size : Nat} {t : TypeId} (hg : V.heap[g]? = some (.cells #[] t)) (hB : B ≤ g) : V.ownsRow B t size (.slice (some ⟨g, 0, none⟩) 0 0) 0 [] :=
  ⟨by simp, .inr ⟨g, 0, #[], rfl, hB, hg, Nat.le_refl _, by unfold maxLen; omega, by simp, by simp⟩⟩
theorem obj10_held {W0 W V : World} {g : Nat} {c0 c1 c2 c3 c4 c5 c6 c7 c8 c9 : Value} {t : TypeId} (h : W0.heap[g]? = some (.cells #[c0, c1, c2, c3, c4, c5, c6, c7, c8, c9] t)) (hW : Below W0.heap.size W0 W) (hV : Below W.heap.size W V) :
    Below W.heap.size W V ∧ V.cell? ⟨g, 0, none⟩ = some c0 ∧ V.cell? ⟨g, 1, none⟩ = some c1 ∧ V.cell? ⟨g, 2, none⟩ = some c2 ∧ V.cell? ⟨g, 3, none⟩ = some c3 ∧ V.cell? ⟨g, 4, none⟩ = some c4 ∧ V.cell? ⟨g, 5, none⟩ = some c5 ∧ V.cell? ⟨g, 6, none⟩ = some c6 ∧ V.cell? ⟨g, 7, none⟩ = some c7 ∧ V.cell? ⟨g, 8, none⟩ = some c8 ∧ V.cell? ⟨g, 9, none⟩ = some c9 :=
  ⟨hV, obj10_cell h (hW.trans (hV.mono hW.size))⟩
theorem step_append_sees {P : Program} {w : World} {ops : Array Oper} {o : Oper} {a : Act} {K : Act → World → Prop} {Q : Exit → Act → World → Prop} {E : Prop} (hg : o.guard = none) (s x : Operand) (t : TypeId)
    (ho : o.op = .call { callee := .builtin .append, args := #[s, x], argTypes := #[t, t] })
    (base : Nat) (e : TypeId) (i : TypeInfo) (z : Value) (size bytes : Nat) (ht : P.underlying t = some (.slice e)) (hi : P.info? e = some i) (hz : i.zero = some z)
    (hsize : i.size = size) (hby : i.bytes = bytes) (hzs : z.cells.size = size) (hsz : 0 < size)
    (v : Value) (n : Nat) (xs : List Value) (hs : a.eval s = v) (hown : w.ownsRow base e size v n xs)
    (xv : Value) (m : Nat) (news : List Value) (hx : a.eval x = xv) (hl : news.length = m * size)
    (hsrc : xv = .slice none 0 0 ∧ m = 0 ∨ ∃ ad c, xv = .slice (some ad) m c ∧ ∀ j u, news[j]? = some u → w.cell? (ad.add j) = some u) (h1 : ∀ u ∈ news, u.oneCell' = true)
    (h63 : n + m ≤ maxLen) (hbytes : (n + m) * bytes ≤ 140737488355328) (hbase : base ≤ w.heap.size)
    (h : ∀ v' w', w'.ownsRow base e size v' (n + m) (xs ++ news) → w.grownBy w' v.ownBlock → K (a.put o.dst v') w') :
    if Region.wanted o (yielded ops a.tmps) = true then Oper.wp P o a w K Q else E := by
  rw [if_pos (by simp [Region.wanted, hg])]
  rcases hsrc with ⟨rfl, rfl⟩ | ⟨ad, c, rfl, hn⟩
  · have hn : news = [] := List.eq_nil_of_length_eq_zero (by simpa using hl)
    subst hn
    have hr := run_append_owned_none (P := P) (w := w) base t o.type e i size ht hi v n xs hown
    unfold Oper.wp execOp
    simp only [ho, resolve, invoke, builtin, Sem.run_bind, Sem.run_pure, Result.andThen_ok, List.map_toArray, List.map_cons, List.map_nil, hs, hx, hr]
    exact h v w (by simpa using hown) ⟨rfl, rfl, rfl, Nat.le_refl _, fun _ _ _ => rfl⟩
  · exact wp_append_own w s x t ho base e i z size bytes ht hi hz hsize hby hzs hsz v n xs hs hown ad m c news hx hl hn h1 h63 hbytes hbase (fun v' w' p1 p2 _ => h v' w' p1 p2)
def mixF (st : PSt) (S : List Int) (lv : Int) (A C : List (List Int)) : Int := if pairOkB st S lv A C = true then 0 else 1
def mixX (st : PSt) (S : List Int) (lv : Int) (A C : List (List Int)) : List (List Int) := if pairOkB st S lv A C = true then mixL st S lv A C else []
theorem seenList_len (st : PSt) (S : List Int) (lv kd : Int) (es : List Ev) : (seenList st S lv kd es).length ≤ es.length := by
  unfold seenList
  split
  · exact List.length_filter_le _ _
  · exact Nat.zero_le _
theorem graph_dN {n : Nat} {W : World} {v : Value} {xs : List (List Int)} (h : GraphM n W v xs) (d : Nat) : GraphM n (W.drewN d) v xs := h.below ⟨rfl, rfl, rfl, Nat.le_refl _, fun _ _ => rfl⟩
theorem sees_none (n : Nat) (W : World) : GraphM n W (.slice none 0 0) [] := ⟨[], cells_empty _ _ _ _ (fun _ => rfl), rfl, fun j hj => absurd hj (Nat.not_lt_zero _)⟩
theorem mixX_small {st : PSt} {S : List Int} {lv : Int} {A C : List (List Int)} : Small (mixX st S lv A C) := by
  unfold mixX
  split
  · rename_i h; exact mixL_small h
  · exact ⟨by simp, fun row h => by cases h⟩
theorem mixed_some (v0 v1 v2 v3 : Value) (st : PSt) (S : List Int) (lv : Int) (a c : Value) (A C : List (List Int)) (w : World) (h : PolIn w v0 v1 v2 v3 st S) (hw : Wide S) (hTz : Tz w) (hsh : Short6 st)
    (ha : GraphM w.heap.size w a A) (hc : GraphM w.heap.size w c C) (hxA : Small A) (hxC : Small C) :
    Calls Tryz.prog 23 #[.agg #[v0, v1, v2, v3, .int .i64 st.D], .int .i64 lv, a, c] w fun e w' => (∃ v, e = .returned (.tuple #[v, .int .i64 (mixF st S lv A C)]) ∧ GraphM w'.heap.size w' v (mixX st S lv A C)) ∧ Below w.heap.size w w' := by
  refine (mixed_any v0 v1 v2 v3 st S lv a c A C w h hw hTz hsh ha hc hxA hxC).mono ?_
  rintro e w' ⟨hb, ⟨hp, rb, vb, rfl, ht⟩ | ⟨hp, rfl⟩⟩
  · refine ⟨⟨_, by unfold mixF; rw [if_pos hp], ?_⟩, hb⟩
    unfold mixX; rw [if_pos hp]; exact ht.graph
  · refine ⟨⟨_, by unfold mixF; rw [if_neg (by rw [hp]; exact Bool.false_ne_true)], ?_⟩, hb⟩
    unfold mixX; rw [if_neg (by rw [hp]; exact Bool.false_ne_true)]; exact sees_none _ _
theorem rmixed_some (v0 v1 v2 v3 : Value) (st : PSt) (S : List Int) (lv : Int) (a c : Value) (A C : List (List Int)) (w : World) (h : PolIn w v0 v1 v2 v3 st S) (hw : Wide S) (hsh : Short9 st)
    (ha : GraphM w.heap.size w a A) (hc : GraphM w.heap.size w c C) (hxA : Small A) (hxC : Small C) :
    Calls Tryz.prog 24 #[.agg #[v0, v1, v2, v3, .int .i64 st.D], .int .i64 lv, a, c] w fun e w' => (∃ v, e = .returned (.tuple #[v, .int .i64 (mixF st S lv A C)]) ∧ GraphM w'.heap.size w' v (mixX st S lv A C)) ∧ Below w.heap.size w w' := by
  refine (rmixed_any v0 v1 v2 v3 st S lv a c A C w h hw hsh ha hc hxA hxC).mono ?_
  rintro e w' ⟨hb, ⟨hp, v, rfl, hg⟩ | ⟨hp, rfl⟩⟩
  · refine ⟨⟨_, by unfold mixF; rw [if_pos hp], ?_⟩, hb⟩
    unfold mixX; rw [if_pos hp]; exact hg
  · refine ⟨⟨_, by unfold mixF; rw [if_neg (by rw [hp]; exact Bool.false_ne_true)], ?_⟩, hb⟩
    unfold mixX; rw [if_neg (by rw [hp]; exact Bool.false_ne_true)]; exact sees_none _ _

set_option maxRecDepth 100000 in
set_option maxHeartbeats 12800000 in
theorem queueSees_walk (v0 v1 v2 v3 : Value) (st : PSt) (S : List Int) (lv kd : Int) (a c ve : Value) (A C : List (List Int)) (es : List Ev) (w : World) (h : PolIn w v0 v1 v2 v3 st S) (hw : Wide S) (hsh : Short9 st)
    (ha : GraphM w.heap.size w a A) (hxA : Small A) (hc : GraphM w.heap.size w c C) (hxC : Small C) (he : EvRow w.heap.size w ve es)
    (hT : Go.Lib.Utf8Tabs 0 1 w) (hE : Errs w) (hP : Pow w) (hM : MaxL w) (hTz : Tz w) :
    Calls Tryz.prog 4 #[.agg #[v0, v1, v2, v3, .int .i64 st.D, .int .i64 lv, a, c, .int .u8 kd, ve]] w fun e w' => e = .returned (.bool true) ∧ Below w.heap.size w w' := by
  obtain ⟨a0, k0, rfl⟩ := h.s0.form
  obtain ⟨a1, k1, rfl⟩ := h.s1.form
  obtain ⟨a2, k2, rfl⟩ := h.s2.form
  obtain ⟨a3, k3, rfl⟩ := h.s3.form
  obtain ⟨aa, ca, rfl⟩ := ha.form
  obtain ⟨ac, cc, rfl⟩ := hc.form
  obtain ⟨ae, ce, rfl⟩ := he.form
  obtain ⟨i0, hi0, hz0, hz1, hz2⟩ := info_parts Tryz.infoQEvent
  obtain ⟨W0, eW0⟩ : ∃ W0, W0 = w.alloc (.cells #[.slice a0 st.L.length k0, .slice a1 S.length k1, .slice a2 st.I.length k2, .slice a3 st.O.length k3, .int .i64 st.D, .int .i64 lv, .slice aa A.length ca, .slice ac C.length cc, .int .u8 kd, .slice ae es.length ce] 59) := ⟨_, rfl⟩
  have HB0 := Lib.hid (show Below w.heap.size w W0 by rw [eW0]; exact (Below.refl _ _).alloc (Nat.le_refl _) _)
  have HO0 := Lib.hid (show W0.heap[w.heap.size]? = some (.cells #[.slice a0 st.L.length k0, .slice a1 S.length k1, .slice a2 st.I.length k2, .slice a3 st.O.length k3, .int .i64 st.D, .int .i64 lv, .slice aa A.length ca, .slice ac C.length cc, .int .u8 kd, .slice ae es.length ce] 59) by rw [eW0]; exact new_block rfl rfl)
  have HP0 := Lib.hid (h.below HB0.out)
  have HTz := Lib.hid (hTz.on HB0.out)
  have HT := Lib.hid (Utf8Tabs_below hT HB0.out)
  have HE := Lib.hid (hE.below HB0.out)
  have HPw := Lib.hid (hP.below HB0.out)
  have HM := Lib.hid (hM.below HB0.out)
  have HA0 := Lib.hid ((ha.below HB0.out).mono HB0.out.size)
  have HC0 := Lib.hid ((hc.below HB0.out).mono HB0.out.size)
  have HE0 := Lib.hid ((he.below HB0.out).mono HB0.out.size)
  have HSH := Lib.hid hsh
  have HWD := Lib.hid hw
  have EW0 := Lib.hid eW0
  have HXA := Lib.hid hxA
  have HXC := Lib.hid hxC
  have la := hxA.1
  have lc := hxC.1
  have HAW := Lib.hid (fun (W : World) (hb : Below W0.heap.size W0 W) => (awake15_any W (Utf8Tabs_below HT.out hb) (HE.out.below hb) (HPw.out.below hb) (HM.out.below hb) (HTz.out.on hb)))
  clear h hTz hsh hw eW0 ha hc hxA hxC hT hE hP hM HT HE HPw HM he
  by_cases g0 : 300 < es.length
  · have s1 : decide (300 < es.length) = true := decide_eq_true g0
    have s2 : decide ((300 : Int) < (es.length : Int)) = true := decide_eq_true (by omega)
    go_enter Tryz.func4, Tryz.ntmps4
    go_wp2_with fail
    go_ret
    exact ⟨rfl, by rw [← EW0.out]; exact HB0.out⟩
  · have s1 : decide (300 < es.length) = false := decide_eq_false g0
    have s2 : decide ((300 : Int) < (es.length : Int)) = false := decide_eq_false (by omega)
    have HES := Lib.hid (show es.length ≤ 1000000 by omega)
    have he3 : es.length ≤ 300 := by omega
    clear g0
    by_cases g1 : 40 < A.length
    · have t1 : decide (40 < A.length) = true := decide_eq_true g1
      have t2 : decide ((40 : Int) < (A.length : Int)) = true := decide_eq_true (by omega)
      go_enter Tryz.func4, Tryz.ntmps4
      go_wp2_with fail
      go_ret
      exact ⟨rfl, by rw [← EW0.out]; exact HB0.out⟩
    · have t1 : decide (40 < A.length) = false := decide_eq_false g1
      have t2 : decide ((40 : Int) < (A.length : Int)) = false := decide_eq_false (by omega)
      by_cases g2 : 40 < C.length
      · have t3 : decide (40 < C.length) = true := decide_eq_true g2
        have t4 : decide ((40 : Int) < (C.length : Int)) = true := decide_eq_true (by omega)
        clear g1
        go_enter Tryz.func4, Tryz.ntmps4
        go_wp2_with fail
        go_ret
        exact ⟨rfl, by rw [← EW0.out]; exact HB0.out⟩
      · have t3 : decide (40 < C.length) = false := decide_eq_false g2
        have t4 : decide ((40 : Int) < (C.length : Int)) = false := decide_eq_false (by omega)
        have hA40 : A.length ≤ 40 := by omega
        have hC40 : C.length ≤ 40 := by omega
        clear g1 g2
        go_enter Tryz.func4, Tryz.ntmps4
        go_wp2_with fail
        rw [← EW0.out]
        clear t1 t2 t3 t4 s1 s2
        obtain ⟨y0, y1, y2, y3, y4, y5, y6, y7, y8, y9⟩ := obj10_cell HO0.out (Below.refl _ _)
        go_loopw [3] (fun k wr => ∃ i : Nat, i ≤ 40 ∧ k = .int .i64 (i : Int) ∧ RowKit.Hid (W0 = wr)) (fun k _ => 40 - (intOf k).toNat)
        case atStart => exact ⟨0, by omega, rfl, Lib.hid rfl⟩
        case round =>
          obtain ⟨i, hi, rfl, HW⟩ := hrel
          have hw0 := HW.out
          subst hw0
          by_cases hlt : i < 40
          · have i1 : decide ((i : Int) < 40) = true := decide_eq_true (by omega)
            by_cases r1 : 5000 < (rowZ A i).length
            · have t1 : decide (5000 < (rowZ A i).length) = true := decide_eq_true r1
              have t2 : decide ((5000 : Int) < ((rowZ A i).length : Int)) = true := decide_eq_true (by omega)
              clear r1
              go_wp2_with (go_at_call 20; refine (rrow_any (.slice aa A.length ca) A _ i _ HA0.out la).mono ?_; rintro e w1 ⟨⟨v, rfl, hv⟩, rfl⟩; obtain ⟨va, vc, rfl⟩ := hv.form; clear hv)
              go_ret
              exact ⟨rfl, HB0.out⟩
            · have t1 : decide (5000 < (rowZ A i).length) = false := decide_eq_false r1
              have t2 : decide ((5000 : Int) < ((rowZ A i).length : Int)) = false := decide_eq_false (by omega)
              by_cases r2 : 5000 < (rowZ C i).length
              · have t3 : decide (5000 < (rowZ C i).length) = true := decide_eq_true r2
                have t4 : decide ((5000 : Int) < ((rowZ C i).length : Int)) = true := decide_eq_true (by omega)
                clear r1 r2
                go_wp2_with fail
                refine (rrow_any (.slice aa A.length ca) A _ i _ HA0.out la).mono ?_
                rintro e w1 ⟨⟨v, rfl, hv⟩, rfl⟩
                obtain ⟨va, vc, rfl⟩ := hv.form
                clear hv
                go_wp2_with fail
                refine (rrow_any (.slice ac C.length cc) C _ i _ HC0.out lc).mono ?_
                rintro e w1 ⟨⟨v, rfl, hv⟩, rfl⟩
                obtain ⟨va2, vc2, rfl⟩ := hv.form
                clear hv
                go_wp2_with fail
                go_ret
                exact ⟨rfl, HB0.out⟩
              · have t3 : decide (5000 < (rowZ C i).length) = false := decide_eq_false r2
                have t4 : decide ((5000 : Int) < ((rowZ C i).length : Int)) = false := decide_eq_false (by omega)
                clear r1 r2
                go_wp2_with fail
                refine (rrow_any (.slice aa A.length ca) A _ i _ HA0.out la).mono ?_
                rintro e w1 ⟨⟨v, rfl, hv⟩, rfl⟩
                obtain ⟨va, vc, rfl⟩ := hv.form
                clear hv
                go_wp2_with fail
                refine (rrow_any (.slice ac C.length cc) C _ i _ HC0.out lc).mono ?_
                rintro e w1 ⟨⟨v, rfl, hv⟩, rfl⟩
                obtain ⟨va2, vc2, rfl⟩ := hv.form
                clear hv
                go_wp2_with fail
                go_roundw
                case rel => exact ⟨i + 1, by omega, by go_num, by first | exact Lib.hid rfl | exact Lib.hid trivial | exact trivial⟩
                case measure => simp [intOf]; omega
          · have i1 : decide ((i : Int) < 40) = false := decide_eq_false (by omega)
            obtain ⟨X, hX⟩ : ∃ X, X = seenList st S lv kd es := ⟨_, rfl⟩
            obtain ⟨z, hz⟩ : ∃ z, z = alikeB st S lv A C := ⟨_, rfl⟩
            obtain ⟨ff, hff⟩ : ∃ ff, ff = mixF st S lv A C := ⟨_, rfl⟩
            have HX := Lib.hid hX
            have HZ := Lib.hid hz
            have HFF := Lib.hid hff
            clear hX hz hff
            go_upto_region 8 with fail
            clear y0 y1 y2 y3 y4 y5 y6 y7 y8 y9
            go_cut [4] from 44 (fun s4 w9 => EvRow w9.heap.size w9 s4 (seenList st S lv kd es) ∧ Below W0.heap.size W0 w9)
            case first =>
              refine wp_region_held_drew (S := (fun V => Below W0.heap.size W0 V ∧ V.cell? ⟨w.heap.size, 0, none⟩ = some (.slice a0 st.L.length k0) ∧ V.cell? ⟨w.heap.size, 1, none⟩ = some (.slice a1 S.length k1) ∧ V.cell? ⟨w.heap.size, 2, none⟩ = some (.slice a2 st.I.length k2) ∧ V.cell? ⟨w.heap.size, 3, none⟩ = some (.slice a3 st.O.length k3) ∧ V.cell? ⟨w.heap.size, 4, none⟩ = some (.int .i64 st.D) ∧ V.cell? ⟨w.heap.size, 5, none⟩ = some (.int .i64 lv) ∧ V.cell? ⟨w.heap.size, 6, none⟩ = some (.slice aa A.length ca) ∧ V.cell? ⟨w.heap.size, 7, none⟩ = some (.slice ac C.length cc) ∧ V.cell? ⟨w.heap.size, 8, none⟩ = some (.int .u8 kd) ∧ V.cell? ⟨w.heap.size, 9, none⟩ = some (.slice ae es.length ce))) (by kernel_rfl) ?_ (fun hHeld => ?_)
              · first | exact obj10_held HO0.out (Below.refl _ _) (Below.refl _ _) | exact obj10_held HO0.out (Below.refl _ _) (Below.refl _ _).drew
              refine wpAnyH_take (i := 0) (v := .pointer (some ⟨w.heap.size, 0, none⟩)) rfl (by kernel_rfl) (by kernel_rfl) (by kernel_rfl) (fun _ _ _ h => h) (Or.inl ⟨by rfl, fun W hSW => ?_⟩) hHeld ?_
              · ((try dsimp only at hSW); go_split_ands; go_simp <;> with_reducible rfl)
              try simp only [List.getElem_toArray, List.getElem_cons_succ, List.getElem_cons_zero, Act.put, List.setIfInBounds_toArray, List.set_cons_zero, List.set_cons_succ]
              refine wpAnyH_take (i := 1) (v := .agg #[.slice a0 st.L.length k0, .slice a1 S.length k1, .slice a2 st.I.length k2, .slice a3 st.O.length k3, .int .i64 st.D]) rfl (by kernel_rfl) (by kernel_rfl) (by kernel_rfl) (fun _ _ _ h => h) (Or.inl ⟨by rfl, fun W hSW => ?_⟩) hHeld ?_
              · ((try dsimp only at hSW); go_split_ands; go_simp <;> with_reducible rfl)
              try simp only [List.getElem_toArray, List.getElem_cons_succ, List.getElem_cons_zero, Act.put, List.setIfInBounds_toArray, List.set_cons_zero, List.set_cons_succ]
              refine wpAnyH_take (i := 3) (v := .pointer (some ⟨w.heap.size, 5, none⟩)) rfl (by kernel_rfl) (by kernel_rfl) (by kernel_rfl) (fun _ _ _ h => h) (Or.inl ⟨by rfl, fun W hSW => ?_⟩) hHeld ?_
              · ((try dsimp only at hSW); go_split_ands; go_simp <;> with_reducible rfl)
              try simp only [List.getElem_toArray, List.getElem_cons_succ, List.getElem_cons_zero, Act.put, List.setIfInBounds_toArray, List.set_cons_zero, List.set_cons_succ]
              refine wpAnyH_take (i := 4) (v := .int .i64 lv) rfl (by kernel_rfl) (by kernel_rfl) (by kernel_rfl) (fun _ _ _ h => h) (Or.inl ⟨by rfl, fun W hSW => ?_⟩) hHeld ?_
              · ((try dsimp only at hSW); go_split_ands; go_simp <;> with_reducible rfl)
              try simp only [List.getElem_toArray, List.getElem_cons_succ, List.getElem_cons_zero, Act.put, List.setIfInBounds_toArray, List.set_cons_zero, List.set_cons_succ]
              refine wpAnyH_take (i := 5) (v := .pointer (some ⟨w.heap.size, 8, none⟩)) rfl (by kernel_rfl) (by kernel_rfl) (by kernel_rfl) (fun _ _ _ h => h) (Or.inl ⟨by rfl, fun W hSW => ?_⟩) hHeld ?_
              · ((try dsimp only at hSW); go_split_ands; go_simp <;> with_reducible rfl)
              try simp only [List.getElem_toArray, List.getElem_cons_succ, List.getElem_cons_zero, Act.put, List.setIfInBounds_toArray, List.set_cons_zero, List.set_cons_succ]
              refine wpAnyH_take (i := 6) (v := .int .u8 kd) rfl (by kernel_rfl) (by kernel_rfl) (by kernel_rfl) (fun _ _ _ h => h) (Or.inl ⟨by rfl, fun W hSW => ?_⟩) hHeld ?_
              · ((try dsimp only at hSW); go_split_ands; go_simp <;> with_reducible rfl)
              try simp only [List.getElem_toArray, List.getElem_cons_succ, List.getElem_cons_zero, Act.put, List.setIfInBounds_toArray, List.set_cons_zero, List.set_cons_succ]
              refine wpAnyH_take (i := 8) (v := .pointer (some ⟨w.heap.size, 9, none⟩)) rfl (by kernel_rfl) (by kernel_rfl) (by kernel_rfl) (fun _ _ _ h => h) (Or.inl ⟨by rfl, fun W hSW => ?_⟩) hHeld ?_
              · ((try dsimp only at hSW); go_split_ands; go_simp <;> with_reducible rfl)
              try simp only [List.getElem_toArray, List.getElem_cons_succ, List.getElem_cons_zero, Act.put, List.setIfInBounds_toArray, List.set_cons_zero, List.set_cons_succ]
              refine wpAnyH_take (i := 9) (v := .slice ae es.length ce) rfl (by kernel_rfl) (by kernel_rfl) (by kernel_rfl) (fun _ _ _ h => h) (Or.inl ⟨by rfl, fun W hSW => ?_⟩) hHeld ?_
              · ((try dsimp only at hSW); go_split_ands; go_simp <;> with_reducible rfl)
              try simp only [List.getElem_toArray, List.getElem_cons_succ, List.getElem_cons_zero, Act.put, List.setIfInBounds_toArray, List.set_cons_zero, List.set_cons_succ]
              have HV := Lib.hid hHeld.1
              refine wpAnyH_ready (rs := [2, 7]) (by kernel_rfl) (by simp) ?_
              refine AllReadyH.cons rfl (fun K hK => ?_) (AllReadyH.cons rfl (fun K hK => ?_) AllReadyH.nil)
              · skip
                try simp only [List.getElem_toArray, List.getElem_cons_succ, List.getElem_cons_zero]
                go_simp
                (go_at_call 8; refine (rcopy_in _ _ _ _ st S _ (HP0.out.below hHeld.1)).mono ?_; rintro e w1 ⟨⟨p0, p1, p2, p3, rfl, hp⟩, hb⟩)
                try go_wp2_with fail
                refine hK.out _ _ ?_ (fun hHeld => ?_)
                · exact obj10_held HO0.out (Below.refl _ _) (hHeld.1.trans (hb.mono hHeld.1.size))
                clear hK K
                try simp only [List.getElem_toArray, List.getElem_cons_succ, List.getElem_cons_zero, Act.put, List.setIfInBounds_toArray, List.set_cons_zero, List.set_cons_succ]
                have HPC := Lib.hid hp
                have HG := Lib.hid hHeld.1.size
                clear hp hb
                refine wpAnyH_ready (rs := [7]) (by kernel_rfl) (by simp) ?_
                refine AllReadyH.cons rfl (fun K hK => ?_) AllReadyH.nil
                try simp only [List.getElem_toArray, List.getElem_cons_succ, List.getElem_cons_zero]
                go_simp
                try go_wp2_with fail
                refine hK.out _ _ ?_ (fun hHeld => ?_)
                · exact obj10_held HO0.out (Below.refl _ _) (hHeld.1.alloc hHeld.1.size _)
                clear hK K
                try simp only [List.getElem_toArray, List.getElem_cons_succ, List.getElem_cons_zero, Act.put, List.setIfInBounds_toArray, List.set_cons_zero, List.set_cons_succ]
                have HL := Lib.hid (show (w1.alloc (.cells #[] 44)).heap[w1.heap.size]? = some (.cells #[] 44) from new_block rfl rfl)
                refine wpAnyH_ready (rs := [10]) (by kernel_rfl) (by simp) ?_
                refine AllReadyH.cons rfl (fun K hK => ?_) AllReadyH.nil
                refine step_append_sees rfl (.tmp 51) (.tmp 53) 37 rfl W0.heap.size 44 i0 (.agg #[.int .u8 0, .int .i64 0, .int .i64 0, .int .i64 0, .int .i64 0]) 5 40 Tryz.underlying37 hi0 hz0 hz1 hz2 rfl (by decide) (.slice (some ⟨w1.heap.size, 0, none⟩) 0 0) 0 [] (by rfl) (sees_own HL.out HG.out) (.slice ae es.length ce) es.length (evCells es) (by rfl) (evCells_len es) ((HE0.out.below hHeld.1).src) (evCells_one es) (by unfold maxLen; omega) (by omega) hHeld.1.size ?_
                intro v6 w6 ho hg
                have HEV := Lib.hid (ev_of_row (own0 ho))
                have HBN := Lib.hid (hHeld.1.grown hg hHeld.1.size (fun k e => by cases e; exact HG.out))
                refine hK.out _ _ ?_ (fun hHeld => ?_)
                · exact obj10_held HO0.out (Below.refl _ _) (HBN.out)
                clear hK K
                try simp only [List.getElem_toArray, List.getElem_cons_succ, List.getElem_cons_zero, Act.put, List.setIfInBounds_toArray, List.set_cons_zero, List.set_cons_succ]
                have HPD := Lib.hid (sees_pol (HPC.out.below ((Below.refl _ _).alloc (Nat.le_refl _) _)) hg.size (sees_lit HL.out hg))
                clear hg ho
                refine wpAnyH_ready (rs := [11]) (by kernel_rfl) (by simp) ?_
                refine AllReadyH.cons rfl (fun K hK => ?_) AllReadyH.nil
                try simp only [List.getElem_toArray, List.getElem_cons_succ, List.getElem_cons_zero]
                go_simp
                (go_at_call 21; refine (seen_any _ _ _ _ st S lv kd _ es _ (HPD.out) HWD.out (HTz.out.on hHeld.1) HSH.out.six (HEV.out) HES.out).mono ?_; rintro e w9 ⟨⟨v9, rfl, h9⟩, hb9⟩)
                try go_wp2_with fail
                refine hK.out _ _ ?_ (fun hHeld => ?_)
                · exact obj10_held HO0.out (Below.refl _ _) (hHeld.1.trans (hb9.mono hHeld.1.size))
                clear hK K
                try simp only [List.getElem_toArray, List.getElem_cons_succ, List.getElem_cons_zero, Act.put, List.setIfInBounds_toArray, List.set_cons_zero, List.set_cons_succ]
                refine wpAnyH_take (i := 12) (v := v9) rfl (by kernel_rfl) (by kernel_rfl) (by kernel_rfl) (fun _ _ _ h => h) (Or.inl ⟨by rfl, fun W hSW => ?_⟩) hHeld ?_
                · ((try dsimp only at hSW); go_split_ands; go_simp <;> with_reducible rfl)
                try simp only [List.getElem_toArray, List.getElem_cons_succ, List.getElem_cons_zero, Act.put, List.setIfInBounds_toArray, List.set_cons_zero, List.set_cons_succ]
                refine wpAnyH_done (by kernel_rfl) ?_ _
                have H9 := Lib.hid h9
                have HB9 := Lib.hid hHeld.1
                clear hHeld h9 hb9
                go_wp2_with fail
                go_meet
                case rel => exact ⟨H9.out, HB9.out⟩
              · skip
                try simp only [List.getElem_toArray, List.getElem_cons_succ, List.getElem_cons_zero]
                go_simp
                try go_wp2_with fail
                refine hK.out _ _ ?_ (fun hHeld => ?_)
                · exact obj10_held HO0.out (Below.refl _ _) (hHeld.1.alloc hHeld.1.size _)
                clear hK K
                try simp only [List.getElem_toArray, List.getElem_cons_succ, List.getElem_cons_zero, Act.put, List.setIfInBounds_toArray, List.set_cons_zero, List.set_cons_succ]
                have HL0 := Lib.hid (show (W0.drew.alloc (.cells #[] 44)).heap[W0.heap.size]? = some (.cells #[] 44) from new_block rfl rfl)
                have HG := Lib.hid (Nat.le_refl W0.heap.size)
                refine wpAnyH_ready (rs := [2]) (by kernel_rfl) (by simp) ?_
                refine AllReadyH.cons rfl (fun K hK => ?_) AllReadyH.nil
                try simp only [List.getElem_toArray, List.getElem_cons_succ, List.getElem_cons_zero]
                go_simp
                (go_at_call 8; refine (rcopy_in _ _ _ _ st S _ (HP0.out.below hHeld.1)).mono ?_; rintro e w1 ⟨⟨p0, p1, p2, p3, rfl, hp⟩, hb⟩)
                try go_wp2_with fail
                refine hK.out _ _ ?_ (fun hHeld => ?_)
                · exact obj10_held HO0.out (Below.refl _ _) (hHeld.1.trans (hb.mono hHeld.1.size))
                clear hK K
                try simp only [List.getElem_toArray, List.getElem_cons_succ, List.getElem_cons_zero, Act.put, List.setIfInBounds_toArray, List.set_cons_zero, List.set_cons_succ]
                have HPC := Lib.hid hp
                have HL := Lib.hid ((hb.block _ (heap_some_lt HL0.out)).trans HL0.out)
                clear hp hb
                refine wpAnyH_ready (rs := [10]) (by kernel_rfl) (by simp) ?_
                refine AllReadyH.cons rfl (fun K hK => ?_) AllReadyH.nil
                refine step_append_sees rfl (.tmp 51) (.tmp 53) 37 rfl W0.heap.size 44 i0 (.agg #[.int .u8 0, .int .i64 0, .int .i64 0, .int .i64 0, .int .i64 0]) 5 40 Tryz.underlying37 hi0 hz0 hz1 hz2 rfl (by decide) (.slice (some ⟨W0.heap.size, 0, none⟩) 0 0) 0 [] (by rfl) (sees_own HL.out HG.out) (.slice ae es.length ce) es.length (evCells es) (by rfl) (evCells_len es) ((HE0.out.below hHeld.1).src) (evCells_one es) (by unfold maxLen; omega) (by omega) hHeld.1.size ?_
                intro v6 w6 ho hg
                have HEV := Lib.hid (ev_of_row (own0 ho))
                have HBN := Lib.hid (hHeld.1.grown hg hHeld.1.size (fun k e => by cases e; exact HG.out))
                refine hK.out _ _ ?_ (fun hHeld => ?_)
                · exact obj10_held HO0.out (Below.refl _ _) (HBN.out)
                clear hK K
                try simp only [List.getElem_toArray, List.getElem_cons_succ, List.getElem_cons_zero, Act.put, List.setIfInBounds_toArray, List.set_cons_zero, List.set_cons_succ]
                have HPD := Lib.hid (sees_pol HPC.out hg.size (sees_lit HL.out hg))
                clear hg ho
                refine wpAnyH_ready (rs := [11]) (by kernel_rfl) (by simp) ?_
                refine AllReadyH.cons rfl (fun K hK => ?_) AllReadyH.nil
                try simp only [List.getElem_toArray, List.getElem_cons_succ, List.getElem_cons_zero]
                go_simp
                (go_at_call 21; refine (seen_any _ _ _ _ st S lv kd _ es _ (HPD.out) HWD.out (HTz.out.on hHeld.1) HSH.out.six (HEV.out) HES.out).mono ?_; rintro e w9 ⟨⟨v9, rfl, h9⟩, hb9⟩)
                try go_wp2_with fail
                refine hK.out _ _ ?_ (fun hHeld => ?_)
                · exact obj10_held HO0.out (Below.refl _ _) (hHeld.1.trans (hb9.mono hHeld.1.size))
                clear hK K
                try simp only [List.getElem_toArray, List.getElem_cons_succ, List.getElem_cons_zero, Act.put, List.setIfInBounds_toArray, List.set_cons_zero, List.set_cons_succ]
                refine wpAnyH_take (i := 12) (v := v9) rfl (by kernel_rfl) (by kernel_rfl) (by kernel_rfl) (fun _ _ _ h => h) (Or.inl ⟨by rfl, fun W hSW => ?_⟩) hHeld ?_
                · ((try dsimp only at hSW); go_split_ands; go_simp <;> with_reducible rfl)
                try simp only [List.getElem_toArray, List.getElem_cons_succ, List.getElem_cons_zero, Act.put, List.setIfInBounds_toArray, List.set_cons_zero, List.set_cons_succ]
                refine wpAnyH_done (by kernel_rfl) ?_ _
                have H9 := Lib.hid h9
                have HB9 := Lib.hid hHeld.1
                clear hHeld h9 hb9
                go_wp2_with fail
                go_meet
                case rel => exact ⟨H9.out, HB9.out⟩
            case rest =>
              obtain ⟨hev, hb9⟩ := hcut
              have HEV := Lib.hid hev
              have HB9 := Lib.hid hb9
              clear hev hb9
              obtain ⟨wv, rfl⟩ : ∃ wv, wv = wc := ⟨_, rfl⟩
              go_upto_region 9 with fail
              go_cut [5] from 56 (fun s5 w10 => s5 = .bool z ∧ Below wv.heap.size wv w10)
              case first =>
                refine wp_region_held_drew (S := (fun V => Below wv.heap.size wv V ∧ V.cell? ⟨w.heap.size, 0, none⟩ = some (.slice a0 st.L.length k0) ∧ V.cell? ⟨w.heap.size, 1, none⟩ = some (.slice a1 S.length k1) ∧ V.cell? ⟨w.heap.size, 2, none⟩ = some (.slice a2 st.I.length k2) ∧ V.cell? ⟨w.heap.size, 3, none⟩ = some (.slice a3 st.O.length k3) ∧ V.cell? ⟨w.heap.size, 4, none⟩ = some (.int .i64 st.D) ∧ V.cell? ⟨w.heap.size, 5, none⟩ = some (.int .i64 lv) ∧ V.cell? ⟨w.heap.size, 6, none⟩ = some (.slice aa A.length ca) ∧ V.cell? ⟨w.heap.size, 7, none⟩ = some (.slice ac C.length cc) ∧ V.cell? ⟨w.heap.size, 8, none⟩ = some (.int .u8 kd) ∧ V.cell? ⟨w.heap.size, 9, none⟩ = some (.slice ae es.length ce))) (by kernel_rfl) ?_ (fun hHeld => ?_)
                · first | exact obj10_held HO0.out HB9.out (Below.refl _ _) | exact obj10_held HO0.out HB9.out (Below.refl _ _).drew
                refine wpAnyH_take (i := 0) (v := .pointer (some ⟨w.heap.size, 0, none⟩)) rfl (by kernel_rfl) (by kernel_rfl) (by kernel_rfl) (fun _ _ _ h => h) (Or.inl ⟨by rfl, fun W hSW => ?_⟩) hHeld ?_
                · ((try dsimp only at hSW); go_split_ands; go_simp <;> with_reducible rfl)
                try simp only [List.getElem_toArray, List.getElem_cons_succ, List.getElem_cons_zero, Act.put, List.setIfInBounds_toArray, List.set_cons_zero, List.set_cons_succ]
                refine wpAnyH_take (i := 1) (v := .agg #[.slice a0 st.L.length k0, .slice a1 S.length k1, .slice a2 st.I.length k2, .slice a3 st.O.length k3, .int .i64 st.D]) rfl (by kernel_rfl) (by kernel_rfl) (by kernel_rfl) (fun _ _ _ h => h) (Or.inl ⟨by rfl, fun W hSW => ?_⟩) hHeld ?_
                · ((try dsimp only at hSW); go_split_ands; go_simp <;> with_reducible rfl)
                try simp only [List.getElem_toArray, List.getElem_cons_succ, List.getElem_cons_zero, Act.put, List.setIfInBounds_toArray, List.set_cons_zero, List.set_cons_succ]
                refine wpAnyH_take (i := 3) (v := .pointer (some ⟨w.heap.size, 5, none⟩)) rfl (by kernel_rfl) (by kernel_rfl) (by kernel_rfl) (fun _ _ _ h => h) (Or.inl ⟨by rfl, fun W hSW => ?_⟩) hHeld ?_
                · ((try dsimp only at hSW); go_split_ands; go_simp <;> with_reducible rfl)
                try simp only [List.getElem_toArray, List.getElem_cons_succ, List.getElem_cons_zero, Act.put, List.setIfInBounds_toArray, List.set_cons_zero, List.set_cons_succ]
                refine wpAnyH_take (i := 4) (v := .int .i64 lv) rfl (by kernel_rfl) (by kernel_rfl) (by kernel_rfl) (fun _ _ _ h => h) (Or.inl ⟨by rfl, fun W hSW => ?_⟩) hHeld ?_
                · ((try dsimp only at hSW); go_split_ands; go_simp <;> with_reducible rfl)
                try simp only [List.getElem_toArray, List.getElem_cons_succ, List.getElem_cons_zero, Act.put, List.setIfInBounds_toArray, List.set_cons_zero, List.set_cons_succ]
                refine wpAnyH_take (i := 5) (v := .pointer (some ⟨w.heap.size, 6, none⟩)) rfl (by kernel_rfl) (by kernel_rfl) (by kernel_rfl) (fun _ _ _ h => h) (Or.inl ⟨by rfl, fun W hSW => ?_⟩) hHeld ?_
                · ((try dsimp only at hSW); go_split_ands; go_simp <;> with_reducible rfl)
                try simp only [List.getElem_toArray, List.getElem_cons_succ, List.getElem_cons_zero, Act.put, List.setIfInBounds_toArray, List.set_cons_zero, List.set_cons_succ]
                refine wpAnyH_take (i := 6) (v := .slice aa A.length ca) rfl (by kernel_rfl) (by kernel_rfl) (by kernel_rfl) (fun _ _ _ h => h) (Or.inl ⟨by rfl, fun W hSW => ?_⟩) hHeld ?_
                · ((try dsimp only at hSW); go_split_ands; go_simp <;> with_reducible rfl)
                try simp only [List.getElem_toArray, List.getElem_cons_succ, List.getElem_cons_zero, Act.put, List.setIfInBounds_toArray, List.set_cons_zero, List.set_cons_succ]
                refine wpAnyH_take (i := 8) (v := .pointer (some ⟨w.heap.size, 7, none⟩)) rfl (by kernel_rfl) (by kernel_rfl) (by kernel_rfl) (fun _ _ _ h => h) (Or.inl ⟨by rfl, fun W hSW => ?_⟩) hHeld ?_
                · ((try dsimp only at hSW); go_split_ands; go_simp <;> with_reducible rfl)
                try simp only [List.getElem_toArray, List.getElem_cons_succ, List.getElem_cons_zero, Act.put, List.setIfInBounds_toArray, List.set_cons_zero, List.set_cons_succ]
                refine wpAnyH_take (i := 9) (v := .slice ac C.length cc) rfl (by kernel_rfl) (by kernel_rfl) (by kernel_rfl) (fun _ _ _ h => h) (Or.inl ⟨by rfl, fun W hSW => ?_⟩) hHeld ?_
                · ((try dsimp only at hSW); go_split_ands; go_simp <;> with_reducible rfl)
                try simp only [List.getElem_toArray, List.getElem_cons_succ, List.getElem_cons_zero, Act.put, List.setIfInBounds_toArray, List.set_cons_zero, List.set_cons_succ]
                refine wpAnyH_ready (rs := [2]) (by kernel_rfl) (by simp) ?_
                refine AllReadyH.cons rfl (fun K hK => ?_) AllReadyH.nil
                try simp only [List.getElem_toArray, List.getElem_cons_succ, List.getElem_cons_zero]
                go_simp
                (go_at_call 8; refine (rcopy_in _ _ _ _ st S _ (HP0.out.below ((HB9.out).trans ((hHeld.1).mono (HB9.out).size)))).mono ?_; rintro e w1 ⟨⟨p0, p1, p2, p3, rfl, hp⟩, hb⟩)
                try go_wp2_with fail
                refine hK.out _ _ ?_ (fun hHeld => ?_)
                · exact obj10_held HO0.out HB9.out (hHeld.1.trans (hb.mono hHeld.1.size))
                clear hK K
                try simp only [List.getElem_toArray, List.getElem_cons_succ, List.getElem_cons_zero, Act.put, List.setIfInBounds_toArray, List.set_cons_zero, List.set_cons_succ]
                have HPC := Lib.hid hp
                clear hp hb
                refine wpAnyH_ready (rs := [7]) (by kernel_rfl) (by simp) ?_
                refine AllReadyH.cons rfl (fun K hK => ?_) AllReadyH.nil
                try simp only [List.getElem_toArray, List.getElem_cons_succ, List.getElem_cons_zero]
                go_simp
                (go_at_call 9; refine (rcopy15_any _ A _ ((HA0.out.below ((HB9.out).trans ((hHeld.1).mono (HB9.out).size))).mono ((HB9.out).trans ((hHeld.1).mono (HB9.out).size)).size) HXA.out (by omega)).mono ?_; rintro e w2 ⟨va, rfl, ha, hb⟩)
                try go_wp2_with fail
                refine hK.out _ _ ?_ (fun hHeld => ?_)
                · exact obj10_held HO0.out HB9.out (hHeld.1.trans (hb.mono hHeld.1.size))
                clear hK K
                try simp only [List.getElem_toArray, List.getElem_cons_succ, List.getElem_cons_zero, Act.put, List.setIfInBounds_toArray, List.set_cons_zero, List.set_cons_succ]
                have HPD := Lib.hid (HPC.out.below hb)
                have HGA := Lib.hid ha
                clear ha hb HPC
                refine wpAnyH_ready (rs := [10]) (by kernel_rfl) (by simp) ?_
                refine AllReadyH.cons rfl (fun K hK => ?_) AllReadyH.nil
                try simp only [List.getElem_toArray, List.getElem_cons_succ, List.getElem_cons_zero]
                go_simp
                (go_at_call 9; refine (rcopy15_any _ C _ ((HC0.out.below ((HB9.out).trans ((hHeld.1).mono (HB9.out).size))).mono ((HB9.out).trans ((hHeld.1).mono (HB9.out).size)).size) HXC.out (by omega)).mono ?_; rintro e w3 ⟨vc, rfl, hc, hb⟩)
                try go_wp2_with fail
                refine hK.out _ _ ?_ (fun hHeld => ?_)
                · exact obj10_held HO0.out HB9.out (hHeld.1.trans (hb.mono hHeld.1.size))
                clear hK K
                try simp only [List.getElem_toArray, List.getElem_cons_succ, List.getElem_cons_zero, Act.put, List.setIfInBounds_toArray, List.set_cons_zero, List.set_cons_succ]
                have HPE := Lib.hid (HPD.out.below hb)
                have HGB := Lib.hid ((HGA.out.below hb).mono hb.size)
                have HGC := Lib.hid hc
                clear hc hb HPD HGA
                refine wpAnyH_ready (rs := [11]) (by kernel_rfl) (by simp) ?_
                refine AllReadyH.cons rfl (fun K hK => ?_) AllReadyH.nil
                try simp only [List.getElem_toArray, List.getElem_cons_succ, List.getElem_cons_zero]
                go_simp
                (go_at_call 22; refine (alike_any _ _ _ _ st S lv _ _ A C _ HPE.out HWD.out (HTz.out.on ((HB9.out).trans ((hHeld.1).mono (HB9.out).size))) HSH.out.six HGB.out HGC.out HXA.out HXC.out).mono ?_; rintro e w4 ⟨rfl, hb4⟩; rw [← HZ.out])
                try go_wp2_with fail
                refine hK.out _ _ ?_ (fun hHeld => ?_)
                · exact obj10_held HO0.out HB9.out (hHeld.1.trans (hb4.mono hHeld.1.size))
                clear hK K
                try simp only [List.getElem_toArray, List.getElem_cons_succ, List.getElem_cons_zero, Act.put, List.setIfInBounds_toArray, List.set_cons_zero, List.set_cons_succ]
                refine wpAnyH_take (i := 12) (v := .bool z) rfl (by kernel_rfl) (by kernel_rfl) (by kernel_rfl) (fun _ _ _ h => h) (Or.inl ⟨by rfl, fun W hSW => ?_⟩) hHeld ?_
                · ((try dsimp only at hSW); go_split_ands; go_simp <;> with_reducible rfl)
                try simp only [List.getElem_toArray, List.getElem_cons_succ, List.getElem_cons_zero, Act.put, List.setIfInBounds_toArray, List.set_cons_zero, List.set_cons_succ]
                refine wpAnyH_done (by kernel_rfl) ?_ _
                have HBX := Lib.hid hHeld.1
                clear hHeld hb4
                go_wp2_with fail
                go_meet
                case rel => exact ⟨rfl, HBX.out⟩
              case rest =>
                obtain ⟨rfl, hb10⟩ := hcut
                have HB10 := Lib.hid (HB9.out.trans (hb10.mono HB9.out.size))
                have HEW := Lib.hid ((HEV.out.below hb10).mono hb10.size)
                clear hb10 HEV HB9
                obtain ⟨wx, rfl⟩ : ∃ wx, wx = wc := ⟨_, rfl⟩
                go_upto_region 10 with fail
                go_cut [6, 7] from 68 (fun s6 s7 w11 => s7 = .int .i64 ff ∧ GraphM w11.heap.size w11 s6 (mixX st S lv A C) ∧ Below wx.heap.size wx w11)
                case first =>
                  refine wp_region_held_drew (S := (fun V => Below wx.heap.size wx V ∧ V.cell? ⟨w.heap.size, 0, none⟩ = some (.slice a0 st.L.length k0) ∧ V.cell? ⟨w.heap.size, 1, none⟩ = some (.slice a1 S.length k1) ∧ V.cell? ⟨w.heap.size, 2, none⟩ = some (.slice a2 st.I.length k2) ∧ V.cell? ⟨w.heap.size, 3, none⟩ = some (.slice a3 st.O.length k3) ∧ V.cell? ⟨w.heap.size, 4, none⟩ = some (.int .i64 st.D) ∧ V.cell? ⟨w.heap.size, 5, none⟩ = some (.int .i64 lv) ∧ V.cell? ⟨w.heap.size, 6, none⟩ = some (.slice aa A.length ca) ∧ V.cell? ⟨w.heap.size, 7, none⟩ = some (.slice ac C.length cc) ∧ V.cell? ⟨w.heap.size, 8, none⟩ = some (.int .u8 kd) ∧ V.cell? ⟨w.heap.size, 9, none⟩ = some (.slice ae es.length ce))) (by kernel_rfl) ?_ (fun hHeld => ?_)
                  · first | exact obj10_held HO0.out HB10.out (Below.refl _ _) | exact obj10_held HO0.out HB10.out (Below.refl _ _).drew
                  refine wpAnyH_take (i := 0) (v := .pointer (some ⟨w.heap.size, 0, none⟩)) rfl (by kernel_rfl) (by kernel_rfl) (by kernel_rfl) (fun _ _ _ h => h) (Or.inl ⟨by rfl, fun W hSW => ?_⟩) hHeld ?_
                  · ((try dsimp only at hSW); go_split_ands; go_simp <;> with_reducible rfl)
                  try simp only [List.getElem_toArray, List.getElem_cons_succ, List.getElem_cons_zero, Act.put, List.setIfInBounds_toArray, List.set_cons_zero, List.set_cons_succ]
                  refine wpAnyH_take (i := 1) (v := .agg #[.slice a0 st.L.length k0, .slice a1 S.length k1, .slice a2 st.I.length k2, .slice a3 st.O.length k3, .int .i64 st.D]) rfl (by kernel_rfl) (by kernel_rfl) (by kernel_rfl) (fun _ _ _ h => h) (Or.inl ⟨by rfl, fun W hSW => ?_⟩) hHeld ?_
                  · ((try dsimp only at hSW); go_split_ands; go_simp <;> with_reducible rfl)
                  try simp only [List.getElem_toArray, List.getElem_cons_succ, List.getElem_cons_zero, Act.put, List.setIfInBounds_toArray, List.set_cons_zero, List.set_cons_succ]
                  refine wpAnyH_take (i := 3) (v := .pointer (some ⟨w.heap.size, 5, none⟩)) rfl (by kernel_rfl) (by kernel_rfl) (by kernel_rfl) (fun _ _ _ h => h) (Or.inl ⟨by rfl, fun W hSW => ?_⟩) hHeld ?_
                  · ((try dsimp only at hSW); go_split_ands; go_simp <;> with_reducible rfl)
                  try simp only [List.getElem_toArray, List.getElem_cons_succ, List.getElem_cons_zero, Act.put, List.setIfInBounds_toArray, List.set_cons_zero, List.set_cons_succ]
                  refine wpAnyH_take (i := 4) (v := .int .i64 lv) rfl (by kernel_rfl) (by kernel_rfl) (by kernel_rfl) (fun _ _ _ h => h) (Or.inl ⟨by rfl, fun W hSW => ?_⟩) hHeld ?_
                  · ((try dsimp only at hSW); go_split_ands; go_simp <;> with_reducible rfl)
                  try simp only [List.getElem_toArray, List.getElem_cons_succ, List.getElem_cons_zero, Act.put, List.setIfInBounds_toArray, List.set_cons_zero, List.set_cons_succ]
                  refine wpAnyH_take (i := 5) (v := .pointer (some ⟨w.heap.size, 6, none⟩)) rfl (by kernel_rfl) (by kernel_rfl) (by kernel_rfl) (fun _ _ _ h => h) (Or.inl ⟨by rfl, fun W hSW => ?_⟩) hHeld ?_
                  · ((try dsimp only at hSW); go_split_ands; go_simp <;> with_reducible rfl)
                  try simp only [List.getElem_toArray, List.getElem_cons_succ, List.getElem_cons_zero, Act.put, List.setIfInBounds_toArray, List.set_cons_zero, List.set_cons_succ]
                  refine wpAnyH_take (i := 6) (v := .slice aa A.length ca) rfl (by kernel_rfl) (by kernel_rfl) (by kernel_rfl) (fun _ _ _ h => h) (Or.inl ⟨by rfl, fun W hSW => ?_⟩) hHeld ?_
                  · ((try dsimp only at hSW); go_split_ands; go_simp <;> with_reducible rfl)
                  try simp only [List.getElem_toArray, List.getElem_cons_succ, List.getElem_cons_zero, Act.put, List.setIfInBounds_toArray, List.set_cons_zero, List.set_cons_succ]
                  refine wpAnyH_take (i := 8) (v := .pointer (some ⟨w.heap.size, 7, none⟩)) rfl (by kernel_rfl) (by kernel_rfl) (by kernel_rfl) (fun _ _ _ h => h) (Or.inl ⟨by rfl, fun W hSW => ?_⟩) hHeld ?_
                  · ((try dsimp only at hSW); go_split_ands; go_simp <;> with_reducible rfl)
                  try simp only [List.getElem_toArray, List.getElem_cons_succ, List.getElem_cons_zero, Act.put, List.setIfInBounds_toArray, List.set_cons_zero, List.set_cons_succ]
                  refine wpAnyH_take (i := 9) (v := .slice ac C.length cc) rfl (by kernel_rfl) (by kernel_rfl) (by kernel_rfl) (fun _ _ _ h => h) (Or.inl ⟨by rfl, fun W hSW => ?_⟩) hHeld ?_
                  · ((try dsimp only at hSW); go_split_ands; go_simp <;> with_reducible rfl)
                  try simp only [List.getElem_toArray, List.getElem_cons_succ, List.getElem_cons_zero, Act.put, List.setIfInBounds_toArray, List.set_cons_zero, List.set_cons_succ]
                  refine wpAnyH_ready (rs := [2]) (by kernel_rfl) (by simp) ?_
                  refine AllReadyH.cons rfl (fun K hK => ?_) AllReadyH.nil
                  try simp only [List.getElem_toArray, List.getElem_cons_succ, List.getElem_cons_zero]
                  go_simp
                  (go_at_call 8; refine (rcopy_in _ _ _ _ st S _ (HP0.out.below ((HB10.out).trans ((hHeld.1).mono (HB10.out).size)))).mono ?_; rintro e w1 ⟨⟨p0, p1, p2, p3, rfl, hp⟩, hb⟩)
                  try go_wp2_with fail
                  refine hK.out _ _ ?_ (fun hHeld => ?_)
                  · exact obj10_held HO0.out HB10.out (hHeld.1.trans (hb.mono hHeld.1.size))
                  clear hK K
                  try simp only [List.getElem_toArray, List.getElem_cons_succ, List.getElem_cons_zero, Act.put, List.setIfInBounds_toArray, List.set_cons_zero, List.set_cons_succ]
                  have HPC := Lib.hid hp
                  clear hp hb
                  refine wpAnyH_ready (rs := [7]) (by kernel_rfl) (by simp) ?_
                  refine AllReadyH.cons rfl (fun K hK => ?_) AllReadyH.nil
                  try simp only [List.getElem_toArray, List.getElem_cons_succ, List.getElem_cons_zero]
                  go_simp
                  (go_at_call 9; refine (rcopy15_any _ A _ ((HA0.out.below ((HB10.out).trans ((hHeld.1).mono (HB10.out).size))).mono ((HB10.out).trans ((hHeld.1).mono (HB10.out).size)).size) HXA.out (by omega)).mono ?_; rintro e w2 ⟨va, rfl, ha, hb⟩)
                  try go_wp2_with fail
                  refine hK.out _ _ ?_ (fun hHeld => ?_)
                  · exact obj10_held HO0.out HB10.out (hHeld.1.trans (hb.mono hHeld.1.size))
                  clear hK K
                  try simp only [List.getElem_toArray, List.getElem_cons_succ, List.getElem_cons_zero, Act.put, List.setIfInBounds_toArray, List.set_cons_zero, List.set_cons_succ]
                  have HPD := Lib.hid (HPC.out.below hb)
                  have HGA := Lib.hid ha
                  clear ha hb HPC
                  refine wpAnyH_ready (rs := [10]) (by kernel_rfl) (by simp) ?_
                  refine AllReadyH.cons rfl (fun K hK => ?_) AllReadyH.nil
                  try simp only [List.getElem_toArray, List.getElem_cons_succ, List.getElem_cons_zero]
                  go_simp
                  (go_at_call 9; refine (rcopy15_any _ C _ ((HC0.out.below ((HB10.out).trans ((hHeld.1).mono (HB10.out).size))).mono ((HB10.out).trans ((hHeld.1).mono (HB10.out).size)).size) HXC.out (by omega)).mono ?_; rintro e w3 ⟨vc, rfl, hc, hb⟩)
                  try go_wp2_with fail
                  refine hK.out _ _ ?_ (fun hHeld => ?_)
                  · exact obj10_held HO0.out HB10.out (hHeld.1.trans (hb.mono hHeld.1.size))
                  clear hK K
                  try simp only [List.getElem_toArray, List.getElem_cons_succ, List.getElem_cons_zero, Act.put, List.setIfInBounds_toArray, List.set_cons_zero, List.set_cons_succ]
                  have HPE := Lib.hid (HPD.out.below hb)
                  have HGB := Lib.hid ((HGA.out.below hb).mono hb.size)
                  have HGC := Lib.hid hc
                  clear hc hb HPD HGA
                  refine wpAnyH_ready (rs := [11]) (by kernel_rfl) (by simp) ?_
                  refine AllReadyH.cons rfl (fun K hK => ?_) AllReadyH.nil
                  try simp only [List.getElem_toArray, List.getElem_cons_succ, List.getElem_cons_zero]
                  go_simp
                  (go_at_call 23; refine (mixed_some _ _ _ _ st S lv _ _ A C _ HPE.out HWD.out (HTz.out.on ((HB10.out).trans ((hHeld.1).mono (HB10.out).size))) HSH.out.six HGB.out HGC.out HXA.out HXC.out).mono ?_; rintro e w5 ⟨⟨v5, rfl, hg5⟩, hb5⟩; rw [← HFF.out])
                  try go_wp2_with fail
                  refine hK.out _ _ ?_ (fun hHeld => ?_)
                  · exact obj10_held HO0.out HB10.out (hHeld.1.trans (hb5.mono hHeld.1.size))
                  clear hK K
                  try simp only [List.getElem_toArray, List.getElem_cons_succ, List.getElem_cons_zero, Act.put, List.setIfInBounds_toArray, List.set_cons_zero, List.set_cons_succ]
                  refine wpAnyH_take (i := 12) (v := .tuple #[v5, .int .i64 ff]) rfl (by kernel_rfl) (by kernel_rfl) (by kernel_rfl) (fun _ _ _ h => h) (Or.inl ⟨by rfl, fun W hSW => ?_⟩) hHeld ?_
                  · ((try dsimp only at hSW); go_split_ands; go_simp <;> with_reducible rfl)
                  try simp only [List.getElem_toArray, List.getElem_cons_succ, List.getElem_cons_zero, Act.put, List.setIfInBounds_toArray, List.set_cons_zero, List.set_cons_succ]
                  refine wpAnyH_take (i := 13) (v := v5) rfl (by kernel_rfl) (by kernel_rfl) (by kernel_rfl) (fun _ _ _ h => h) (Or.inl ⟨by rfl, fun W hSW => ?_⟩) hHeld ?_
                  · ((try dsimp only at hSW); go_split_ands; go_simp <;> with_reducible rfl)
                  try simp only [List.getElem_toArray, List.getElem_cons_succ, List.getElem_cons_zero, Act.put, List.setIfInBounds_toArray, List.set_cons_zero, List.set_cons_succ]
                  refine wpAnyH_take (i := 14) (v := .int .i64 ff) rfl (by kernel_rfl) (by kernel_rfl) (by kernel_rfl) (fun _ _ _ h => h) (Or.inl ⟨by rfl, fun W hSW => ?_⟩) hHeld ?_
                  · ((try dsimp only at hSW); go_split_ands; go_simp <;> with_reducible rfl)
                  try simp only [List.getElem_toArray, List.getElem_cons_succ, List.getElem_cons_zero, Act.put, List.setIfInBounds_toArray, List.set_cons_zero, List.set_cons_succ]
                  refine wpAnyH_take (i := 15) (v := v5) rfl (by kernel_rfl) (by kernel_rfl) (by kernel_rfl) (fun _ _ _ h => h) (Or.inl ⟨by rfl, fun W hSW => ?_⟩) hHeld ?_
                  · ((try dsimp only at hSW); go_split_ands; go_simp <;> with_reducible rfl)
                  try simp only [List.getElem_toArray, List.getElem_cons_succ, List.getElem_cons_zero, Act.put, List.setIfInBounds_toArray, List.set_cons_zero, List.set_cons_succ]
                  refine wpAnyH_take (i := 16) (v := .int .i64 ff) rfl (by kernel_rfl) (by kernel_rfl) (by kernel_rfl) (fun _ _ _ h => h) (Or.inl ⟨by rfl, fun W hSW => ?_⟩) hHeld ?_
                  · ((try dsimp only at hSW); go_split_ands; go_simp <;> with_reducible rfl)
                  try simp only [List.getElem_toArray, List.getElem_cons_succ, List.getElem_cons_zero, Act.put, List.setIfInBounds_toArray, List.set_cons_zero, List.set_cons_succ]
                  refine wpAnyH_done (by kernel_rfl) ?_ _
                  have HBX := Lib.hid hHeld.1
                  have HG5 := Lib.hid hg5
                  clear hHeld hb5 hg5
                  go_wp2_with fail
                  go_meet
                  case rel => exact ⟨rfl, HG5.out, HBX.out⟩
                case rest =>
                  obtain ⟨rfl, hg6, hb11⟩ := hcut
                  have HB11 := Lib.hid (HB10.out.trans (hb11.mono HB10.out.size))
                  have HEX := Lib.hid ((HEW.out.below hb11).mono hb11.size)
                  have HG6 := Lib.hid hg6
                  clear hb11 hg6 HEW HB10
                  obtain ⟨wy, rfl⟩ : ∃ wy, wy = wc := ⟨_, rfl⟩
                  obtain ⟨y0, y1, y2, y3, y4, y5, y6, y7, y8, y9⟩ := obj10_cell HO0.out HB11.out
                  go_wp2_with (first
                    | (go_at_call 11; refine (HAW.out _ HB16.out).mono ?_; rintro e w17 ⟨rfl, hb⟩; have HB17 := Lib.hid (QQ.step (QQ.step HB0.out HB16.out) hb); clear hb)
                    | (go_at_call 27; refine (sameRows_any _ _ (mixX st S lv A C) (mixX st S lv A C) w15.heap.size w15 (Nat.le_refl _) HGd.out HHd.out mixX_small mixX_small).mono ?_; rintro e w16 ⟨rfl, d2, rfl⟩; rw [decide_eq_true (rfl : mixX st S lv A C = mixX st S lv A C)]; have HB16 := Lib.hid (QQ.dN HB15.out d2))
                    | (go_at_call 26; refine (ralike_any _ _ _ _ st S lv _ _ A C (w13.drewN d) (HP0.out.below HB14.out) HWD.out HSH.out ((HA0.out.below HB14.out).mono HB14.out.size) ((HC0.out.below HB14.out).mono HB14.out.size) HXA.out HXC.out).mono ?_; rintro e w15 ⟨rfl, hb⟩; rw [← HZ.out]; have HB15 := Lib.hid (HB14.out.trans (hb.mono HB14.out.size)); have HGd := Lib.hid (((graph_dN HGc.out d).below hb).mono hb.size); have HHd := Lib.hid (((graph_dN HHc.out d).below hb).mono hb.size); clear y0 y1 y2 y3 y4 y5 y6 y7 y8 y9; obtain ⟨y0, y1, y2, y3, y4, y5, y6, y7, y8, y9⟩ := obj10_cell HO0.out HB15.out; clear hb)
                    | (go_at_call 18; refine (events_same _ _ (seenList st S lv kd es) w13.heap.size w13 HEc.out HEd.out (by have := seenList_len st S lv kd es; omega)).mono ?_; rintro e w14 ⟨rfl, d, rfl⟩; have HB14 := Lib.hid (QQ.dN HB13.out d); clear y0 y1 y2 y3 y4 y5 y6 y7 y8 y9; obtain ⟨y0, y1, y2, y3, y4, y5, y6, y7, y8, y9⟩ := obj10_cell HO0.out HB14.out)
                    | (go_at_call 25; refine (rseen_any _ _ _ _ st S lv kd _ es w12 (HP0.out.below HB12.out) HWD.out HSH.out ((HE0.out.below HB12.out).mono HB12.out.size) HES.out).mono ?_; rintro e w13 ⟨⟨v13, rfl, h13⟩, hb⟩; have HB13 := Lib.hid (HB12.out.trans (hb.mono HB12.out.size)); have HEd := Lib.hid h13; have HEc := Lib.hid ((HEb.out.below hb).mono hb.size); have HGc := Lib.hid ((HGb.out.below hb).mono hb.size); have HHc := Lib.hid ((HHb.out.below hb).mono hb.size); clear y0 y1 y2 y3 y4 y5 y6 y7 y8 y9; obtain ⟨y0, y1, y2, y3, y4, y5, y6, y7, y8, y9⟩ := obj10_cell HO0.out HB13.out; clear hb h13)
                    | (go_at_call 24; refine (rmixed_some _ _ _ _ st S lv _ _ A C wy (HP0.out.below HB11.out) HWD.out HSH.out ((HA0.out.below HB11.out).mono HB11.out.size) ((HC0.out.below HB11.out).mono HB11.out.size) HXA.out HXC.out).mono ?_; rintro e w12 ⟨⟨v8, rfl, h8⟩, hb⟩; rw [← HFF.out]; have HB12 := Lib.hid (HB11.out.trans (hb.mono HB11.out.size)); have HHb := Lib.hid h8; have HEb := Lib.hid ((HEX.out.below hb).mono hb.size); have HGb := Lib.hid ((HG6.out.below hb).mono hb.size); clear y0 y1 y2 y3 y4 y5 y6 y7 y8 y9; obtain ⟨y0, y1, y2, y3, y4, y5, y6, y7, y8, y9⟩ := obj10_cell HO0.out HB12.out; clear hb h8))
                  go_ret
                  exact ⟨rfl, HB17.out⟩
end Go.Proofs.YtopffoklhfpjpaaGreatDoor

/-! QueueSees: the listed variables -/
namespace Go.Proofs.YtopffoklhfpjpaaGreatDoor
open Go.RowKit
theorem queueSeesTabs {W : World} (h : laidMetH Tryz.prog Rows.queueSeesRow.laid W) : Lib.Utf8Tabs 0 1 W ∧ Errs W ∧ Pow W ∧ Tz W :=
  ⟨utabs_of h (by kernel_rfl), errs_of h (by kernel_rfl) (by kernel_rfl), pow_of (laid_one h (fun x => x.1 == "internal/strconv.uint64pow10") (by kernel_rfl)), tz_of h (by kernel_rfl)⟩
end Go.Proofs.YtopffoklhfpjpaaGreatDoor
