import Derived.Test.YtopffoklhfpjpaaGreatDoorQuS
import Derived.Test.YtopffoklhfpjpaaGreatDoorPrnG
import Derived.Deep.RegionHeld3
import Derived.Test.YtopffoklhfpjpaaGreatDoorWQueueMixes
set_option linter.unusedSimpArgs false
set_option linter.unusedVariables false
/-! layer 15's reference: Right, Sees, Seen -/
namespace Go.Proofs.YtopffoklhfpjpaaGreatDoor
open Go.RowKit
/-- the sizes of a policy's texts -/
structure Short9 (st : PSt) : Prop where
  l : ∀ j, j < st.L.length → (wd6 st.L j).size ≤ 140737488351232
  i : ∀ j, j < st.I.length → (chAt st.I j).1.size ≤ 140737488351232
  o : ∀ j, j < st.O.length → (chAt st.O j).1.size ≤ 140737488351232
theorem Short9.six {st : PSt} (h : Short9 st) : Short6 st := ⟨fun j hj => Nat.le_trans (h.l j hj) (by decide), fun j hj => Nat.le_trans (h.i j hj) (by decide), fun j hj => Nat.le_trans (h.o j hj) (by decide)⟩

set_option maxRecDepth 100000 in
set_option maxHeartbeats 3200000 in
theorem rright15_any (v0 v1 v2 v3 : Value) (st : PSt) (S : List Int) (a : Value) (A : List (List Int)) (w : World) (h : PolIn w v0 v1 v2 v3 st S) (hw : Wide S) (hsh : Short9 st) (ha : GraphM w.heap.size w a A) (hx : Small A) :
    Calls Tryz.prog 32 #[.agg #[v0, v1, v2, v3, .int .i64 st.D], a] w fun e w' => e = .returned (.bool (rightP st S && fillOk st.I.length A)) ∧ Below w.heap.size w w' := by
  obtain ⟨a0, k0, rfl⟩ := h.s0.form
  obtain ⟨a1, k1, rfl⟩ := h.s1.form
  obtain ⟨a2, k2, rfl⟩ := h.s2.form
  obtain ⟨a3, k3, rfl⟩ := h.s3.form
  obtain ⟨aa, ca, rfl⟩ := ha.form
  obtain ⟨W0, eW0⟩ : ∃ W0, W0 = w.alloc (.cells #[.slice a0 st.L.length k0, .slice a1 S.length k1, .slice a2 st.I.length k2, .slice a3 st.O.length k3, .int .i64 st.D] 26) := ⟨_, rfl⟩
  have HB0 := Lib.hid (show Below w.heap.size w W0 by rw [eW0]; exact (Below.refl _ _).alloc (Nat.le_refl _) _)
  have HO0 := Lib.hid (show W0.heap[w.heap.size]? = some (.cells #[.slice a0 st.L.length k0, .slice a1 S.length k1, .slice a2 st.I.length k2, .slice a3 st.O.length k3, .int .i64 st.D] 26) by rw [eW0]; exact new_block rfl rfl)
  have HP0 := Lib.hid (h.below HB0.out)
  have HSH := Lib.hid hsh
  have HWD := Lib.hid hw
  have EW0 := Lib.hid eW0
  have HA := Lib.hid ha
  have HX := Lib.hid hx
  have hx0 := hx.1
  have hI := h.l2
  clear h hsh hw eW0 ha hx
  cases hr : rightP st S
  · have HR := Lib.hid hr
    clear hr
    go_enter Tryz.func32, Tryz.ntmps32
    go_wp2_with (go_at_call 42; rw [← EW0.out]; refine (rright6_any _ _ _ _ st S _ HP0.out HWD.out HSH.out.l HSH.out.i HSH.out.o).mono ?_; rintro e w1 ⟨rfl, hb⟩; rw [HR.out]; have HB1 := Lib.hid hb; clear hb)
    go_ret
    exact ⟨rfl, QQ.step HB0.out HB1.out⟩
  · have HR := Lib.hid hr
    clear hr
    by_cases h0 : st.I.length < A.length
    · have t1 : decide (st.I.length < A.length) = true := decide_eq_true h0
      have t2 : decide ((st.I.length : Int) < (A.length : Int)) = true := decide_eq_true (by omega)
      have HF := Lib.hid (show fillOk st.I.length A = false by unfold fillOk; rw [decide_eq_false (by omega)]; rfl)
      clear h0
      go_enter Tryz.func32, Tryz.ntmps32
      go_wp2_with (go_at_call 42; rw [← EW0.out]; refine (rright6_any _ _ _ _ st S _ HP0.out HWD.out HSH.out.l HSH.out.i HSH.out.o).mono ?_; rintro e w1 ⟨rfl, hb⟩; rw [HR.out]; have HB1 := Lib.hid hb; obtain ⟨p0, p1, p2, p3, p4⟩ := obj5_cell HO0.out hb; clear hb)
      go_ret
      exact ⟨ret_bool (by rw [HF.out]; rfl), QQ.step HB0.out HB1.out⟩
    · have t1 : decide (st.I.length < A.length) = false := decide_eq_false h0
      have t2 : decide ((st.I.length : Int) < (A.length : Int)) = false := decide_eq_false (by omega)
      have h0' : A.length ≤ st.I.length := by omega
      clear h0
      go_enter Tryz.func32, Tryz.ntmps32
      go_wp2_with (go_at_call 42; rw [← EW0.out]; refine (rright6_any _ _ _ _ st S _ HP0.out HWD.out HSH.out.l HSH.out.i HSH.out.o).mono ?_; rintro e w1 ⟨rfl, hb⟩; rw [HR.out]; have HB1 := Lib.hid hb; obtain ⟨p0, p1, p2, p3, p4⟩ := obj5_cell HO0.out hb; clear hb)
      have HA1 := Lib.hid (HA.out.below (QQ.step HB0.out HB1.out))
      clear t1 t2 p0 p1 p2 p3 p4
      go_loopw [5] (fun k wr => ∃ i : Nat, i ≤ A.length ∧ k = .int .i64 (i : Int) ∧ RowKit.Hid (wr = w1) ∧ RowKit.Hid (∀ j, j < i → (rowAt A j).length ≤ 4096)) (fun k _ => A.length - (intOf k).toNat)
      case atStart => exact ⟨0, by omega, rfl, Lib.hid rfl, Lib.hid (fun j hj => absurd hj (Nat.not_lt_zero _))⟩
      case round =>
        obtain ⟨i, hi, rfl, HW, HS⟩ := hrel
        by_cases hlt : i < A.length
        · have HA2 := Lib.hid (show GraphM w.heap.size wr (.slice aa A.length ca) A by rw [HW.out]; exact HA1.out)
          obtain ⟨xb, xo, xc, e1⟩ := HA2.out.addr (by omega)
          cases e1
          obtain ⟨ra, rac, hx1, hrx⟩ := HA2.out.at hlt
          have i1 : (0 : Int) ≤ i ∧ (i : Int) < A.length := by omega
          have HNO := Lib.hid (fun h => fill_no (n := st.I.length) hlt h)
          have HSN := Lib.hid (fun (h : (rowAt A i).length ≤ 4096) (j : Nat) (hj : j < i + 1) => (Nat.lt_succ_iff_lt_or_eq.1 hj).elim (HS.out j) (fun e => by rw [e]; exact h))
          have b1 := HX.out.row i
          obtain ⟨r, er⟩ : ∃ r, r = rowAt A i := ⟨_, rfl⟩
          change wr.cell? _ = some (.slice ra (rowAt A i).length rac) at hx1
          change (rowAt A i).length ≤ _ at b1
          rw [← er] at hx1 HNO HSN b1
          clear er hrx
          by_cases hr : 4096 < r.length
          · have t2 : decide (4096 < r.length) = true := decide_eq_true hr
            have t3 : decide ((4096 : Int) < (r.length : Int)) = true := decide_eq_true (by omega)
            have HN := Lib.hid (HNO.out hr)
            clear hr
            go_wp2_with fail
            go_ret
            exact ⟨ret_bool (by rw [HN.out, Bool.and_false]), by rw [HW.out]; exact QQ.step HB0.out HB1.out⟩
          · have t2 : decide (4096 < r.length) = false := decide_eq_false hr
            have t3 : decide ((4096 : Int) < (r.length : Int)) = false := decide_eq_false (by omega)
            have HSS := Lib.hid (HSN.out (by omega))
            clear hr
            go_wp2_with fail
            go_roundw
            case rel => exact ⟨i + 1, by omega, by go_num, HW, HSS⟩
            case measure => simp [intOf]; omega
        · have HF := Lib.hid (show fillOk st.I.length A = true from fill_yes h0' (fun j hj => HS.out j (by omega)))
          go_wp2_with fail
          go_ret
          exact ⟨ret_bool (by rw [HF.out]; rfl), by rw [HW.out]; exact QQ.step HB0.out HB1.out⟩
end Go.Proofs.YtopffoklhfpjpaaGreatDoor

/-! layer 15's reference: Sees, Seen, Alike, Mixed -/
namespace Go.Proofs.YtopffoklhfpjpaaGreatDoor
open Go.RowKit
theorem rrow_fix (a : Value) (A : List (List Int)) (n i : Nat) (W : World) (ha : GraphM n W a A) (hl : A.length ≤ 17592186044416) (hi : i ≤ 17592186044416) :
    ∃ v, Row n W v (rowAt A i) ∧ ∀ d, Calls Tryz.prog 20 #[a, .int .i64 i] (W.drewN d) fun e w' => e = .returned v ∧ w' = W.drewN d := by
  obtain ⟨aa, ca, rfl⟩ := ha.form
  have t1 : decide ((i : Int) < 0) = false := decide_eq_false (by omega)
  by_cases h1 : A.length ≤ i
  · refine ⟨.slice none 0 0, by unfold rowAt; rw [List.getElem?_eq_none h1]; exact cells_empty _ _ _ _ (fun _ => rfl), fun d => ?_⟩
    have t2 : decide ((A.length : Int) ≤ i) = true := decide_eq_true (by omega)
    have t3 : decide (A.length ≤ i) = true := decide_eq_true (by omega)
    clear ha
    go_enter Tryz.func20, Tryz.ntmps20
    go_wp2_with fail
    go_ret
    exact ⟨rfl, rfl⟩
  · have t2 : decide ((A.length : Int) ≤ i) = false := decide_eq_false (by omega)
    have t3 : decide (A.length ≤ i) = false := decide_eq_false h1
    obtain ⟨xb, xo, xc, e1⟩ := ha.addr (by omega)
    cases e1
    obtain ⟨ra, rac, hx1, hrx⟩ := ha.at (show i < A.length by omega)
    refine ⟨_, hrx, fun d => ?_⟩
    have hx2 : (W.drewN d).cell? ⟨xb, xo + i, none⟩ = some (.slice ra (A[i]?.getD []).length rac) := (World.cell?_of_block (by rw [drewN_heap])).trans hx1
    have i1 : (0 : Int) ≤ i ∧ (i : Int) < A.length := by omega
    clear ha hx1 hrx
    go_enter Tryz.func20, Tryz.ntmps20
    go_wp2_with fail
    go_ret
    exact ⟨rfl, rfl⟩
/-- the level at which an event is told -/
def evLev (O : List (ByteArray × Int)) (e : Ev) : Nat := if e.k = 1 then (chAt O e.r.toNat).2.toNat else e.r.toNat
theorem picks_ref (nL : Nat) (O : List (ByteArray × Int)) (S : List Int) (q : Nat) (kd : Int) (e : Ev) : picksB nL O (lowB S q) kd e = (decide (e.k = kd) && (allowB O.length nL e.k e.r e.f e.a && LL.ab S (evLev O e) q)) := by
  unfold picksB evLev lowB
  by_cases h : e.k = kd
  · subst h
    by_cases h1 : e.k = 1
    · rw [if_pos h1, if_pos h1]; rfl
    · rw [if_neg h1, if_neg h1]; rfl
  · rw [decide_eq_false h]; rfl
theorem allow_ref {nO nL k r f a : Int} (h : allowB nO nL k r f a = true) : 0 ≤ r ∧ r < (if k = 1 then nO else if k = 2 then nL else 0) := by
  unfold allowB at h
  simp only [Bool.and_eq_true, decide_eq_true_eq] at h
  exact ⟨h.1.1.1, h.1.1.2⟩

set_option maxRecDepth 100000 in
set_option maxHeartbeats 3200000 in
theorem rsees_any (v0 v1 v2 v3 : Value) (st : PSt) (S : List Int) (q : Nat) (e : Ev) (w : World) (h : PolIn w v0 v1 v2 v3 st S) (hw : Wide S) (hal : allowB st.O.length st.L.length e.k e.r e.f e.a = true) (hSL : S.length = st.L.length) (hO : ∀ j, j < st.O.length → 0 ≤ (chAt st.O j).2 ∧ (chAt st.O j).2 < st.L.length) (hO32 : st.O.length ≤ 32) (hL64 : st.L.length ≤ 64) :
    Calls Tryz.prog 43 #[.agg #[v0, v1, v2, v3, .int .i64 st.D], .int .i64 q, .agg #[.int .u8 e.k, .int .i64 e.r, .int .i64 e.v, .int .i64 e.f, .int .i64 e.a]] w fun e' w' => e' = .returned (.bool (LL.ab S (evLev st.O e) q)) ∧ Below w.heap.size w w' := by
  obtain ⟨a1, k1, rfl⟩ := h.s1.form
  obtain ⟨a3, k3, rfl⟩ := h.s3.form
  have hr := allow_ref hal
  have HB0 := Lib.hid (show Below w.heap.size w ((w.alloc (.cells #[v0, .slice a1 S.length k1, v2, .slice a3 st.O.length k3, .int .i64 st.D] 26)).alloc (.cells #[.int .u8 e.k, .int .i64 e.r, .int .i64 e.v, .int .i64 e.f, .int .i64 e.a] 44)) from ((Below.refl _ _).alloc (Nat.le_refl _) _).alloc (by simp) _)
  have HP0 := Lib.hid (h.below HB0.out)
  have HWD := Lib.hid hw
  obtain ⟨rn, hrn⟩ : ∃ rn : Nat, e.r = rn := ⟨e.r.toNat, by omega⟩
  by_cases h1 : e.k = 1
  · have t1 : (e.k == 1) = true := beq_iff_eq.2 h1
    have hq : rn < st.O.length := by rw [if_pos h1] at hr; omega
    have hlv := hO rn hq
    obtain ⟨ln, el⟩ : ∃ ln : Nat, (chAt st.O rn).2 = ln := ⟨(chAt st.O rn).2.toNat, by omega⟩
    have HE := Lib.hid (show evLev st.O e = ln by unfold evLev; rw [if_pos h1, hrn, Int.toNat_natCast, el]; rfl)
    obtain ⟨ob, oo, ea, _, c2⟩ := (HP0.out.s3).at hq
    rw [el] at c2
    subst ea
    have hln : ln < S.length := by rw [el] at hlv; omega
    have i1 : (0 : Int) ≤ rn ∧ (rn : Int) < st.O.length := by omega
    have HRN := Lib.hid hrn
    rw [hrn] at HB0 HP0 c2 ⊢
    clear h hw hal hSL hO hr h1 hlv el hrn
    obtain ⟨z, hz⟩ : ∃ z, LL.ab S ln q = z := ⟨_, rfl⟩
    have HZ := Lib.hid (show MM.hasB (S[ln]?.getD 0) (q : Int) = z from hz)
    have HZZ := Lib.hid hz
    clear hz
    go_enter Tryz.func43, Tryz.ntmps43
    go_wp2_with (go_at_call 41; refine (above_any _ S _ _ HP0.out.s1 HWD.out ln (q : Int) hln).mono ?_; rintro e' w1 ⟨rfl, rfl⟩; rw [HZ.out])
    go_ret
    exact ⟨ret_bool (by rw [HE.out]; exact HZZ.out.symm), HB0.out⟩
  · have t1 : (e.k == 1) = false := beq_eq_false_iff_ne.2 h1
    have hq : rn < S.length := by
      rw [if_neg h1] at hr
      by_cases h2 : e.k = 2
      · rw [if_pos h2] at hr; omega
      · rw [if_neg h2] at hr; omega
    have HE := Lib.hid (show evLev st.O e = rn by unfold evLev; rw [if_neg h1, hrn]; rfl)
    rw [hrn] at HB0 HP0 ⊢
    clear h hw hal hSL hO hr h1 hrn
    obtain ⟨z, hz⟩ : ∃ z, LL.ab S rn q = z := ⟨_, rfl⟩
    have HZ := Lib.hid (show MM.hasB (S[rn]?.getD 0) (q : Int) = z from hz)
    have HZZ := Lib.hid hz
    clear hz
    go_enter Tryz.func43, Tryz.ntmps43
    go_wp2_with (go_at_call 41; refine (above_any _ S _ _ HP0.out.s1 HWD.out rn (q : Int) hq).mono ?_; rintro e' w1 ⟨rfl, rfl⟩; rw [HZ.out])
    go_ret
    exact ⟨ret_bool (by rw [HE.out]; exact HZZ.out.symm), HB0.out⟩

theorem seen_held {W0 V : World} {p b o : Nat} {v0 v1 v2 v3 d : Value} {t : TypeId} {x : Ev} (h : W0.heap[p]? = some (.cells #[v0, v1, v2, v3, d] t)) (hc : ∀ k u, (evC x)[k]? = some u → W0.cell? ⟨b, o + k, none⟩ = some u) (hb : b < W0.heap.size) (hB : Below W0.heap.size W0 V) :
    Below W0.heap.size W0 V ∧ V.cell? ⟨p, 0, none⟩ = some v0 ∧ V.cell? ⟨p, 1, none⟩ = some v1 ∧ V.cell? ⟨p, 2, none⟩ = some v2 ∧ V.cell? ⟨p, 3, none⟩ = some v3 ∧ V.cell? ⟨p, 4, none⟩ = some d ∧
    V.cell? ⟨b, o, none⟩ = some (.int .u8 x.k) ∧ V.cell? ⟨b, o + 1, none⟩ = some (.int .i64 x.r) ∧ V.cell? ⟨b, o + 2, none⟩ = some (.int .i64 x.v) ∧ V.cell? ⟨b, o + 3, none⟩ = some (.int .i64 x.f) ∧ V.cell? ⟨b, o + 4, none⟩ = some (.int .i64 x.a) := by
  obtain ⟨p0, p1, p2, p3, p4⟩ := obj5_cell h hB
  have key : ∀ k u, (evC x)[k]? = some u → V.cell? ⟨b, o + k, none⟩ = some u := fun k u hk => (hB.cell (p := ⟨b, o + k, none⟩) hb).trans (hc k u hk)
  exact ⟨hB, p0, p1, p2, p3, p4, key 0 _ rfl, key 1 _ rfl, key 2 _ rfl, key 3 _ rfl, key 4 _ rfl⟩

set_option maxRecDepth 100000 in
set_option maxHeartbeats 6400000 in
theorem rseen_any (v0 v1 v2 v3 : Value) (st : PSt) (S : List Int) (lv kd : Int) (a : Value) (es : List Ev) (w : World) (h : PolIn w v0 v1 v2 v3 st S) (hw : Wide S) (hsh : Short9 st) (ha : EvRow w.heap.size w a es) (hx : es.length ≤ 1000000) :
    Calls Tryz.prog 25 #[.agg #[v0, v1, v2, v3, .int .i64 st.D], .int .i64 lv, .int .u8 kd, a] w fun e w' => (∃ v, e = .returned v ∧ EvRow w'.heap.size w' v (seenList st S lv kd es)) ∧ Below w.heap.size w w' := by
  obtain ⟨a0, k0, rfl⟩ := h.s0.form
  obtain ⟨a1, k1, rfl⟩ := h.s1.form
  obtain ⟨a2, k2, rfl⟩ := h.s2.form
  obtain ⟨a3, k3, rfl⟩ := h.s3.form
  obtain ⟨aa, ca, rfl⟩ := ha.form
  obtain ⟨i0, hi0, hz0, hz1, hz2⟩ := info_parts Tryz.infoQEvent
  have hzc := fun (w : World) => run_zeroEv w
  obtain ⟨W0, eW0⟩ : ∃ W0, W0 = w.alloc (.cells #[.slice a0 st.L.length k0, .slice a1 S.length k1, .slice a2 st.I.length k2, .slice a3 st.O.length k3, .int .i64 st.D] 26) := ⟨_, rfl⟩
  have HB0 := Lib.hid (show Below w.heap.size w W0 by rw [eW0]; exact (Below.refl _ _).alloc (Nat.le_refl _) _)
  have HO0 := Lib.hid (show W0.heap[w.heap.size]? = some (.cells #[.slice a0 st.L.length k0, .slice a1 S.length k1, .slice a2 st.I.length k2, .slice a3 st.O.length k3, .int .i64 st.D] 26) by rw [eW0]; exact new_block rfl rfl)
  have HP0 := Lib.hid (h.below HB0.out)
  have HA0 := Lib.hid ha
  have HSH := Lib.hid hsh
  have HWD := Lib.hid hw
  have EW0 := Lib.hid eW0
  clear h hsh hw eW0 ha
  cases hr : rightP st S
  · have HR := Lib.hid hr
    have HE := Lib.hid (show seenList st S lv kd es = [] by unfold seenList lowsOk; rw [hr]; rfl)
    clear hr
    go_enter Tryz.func25, Tryz.ntmps25
    go_wp2_with (go_at_call 42; rw [← EW0.out]; refine (rright6_any _ _ _ _ st S _ HP0.out HWD.out HSH.out.l HSH.out.i HSH.out.o).mono ?_; rintro e w1 ⟨rfl, hb⟩; rw [HR.out]; have HB1 := Lib.hid hb; clear hb)
    go_ret
    exact ⟨⟨_, rfl, by rw [HE.out]; exact .inl ⟨⟨_, _, rfl, fun _ => rfl⟩, rfl⟩⟩, QQ.step HB0.out HB1.out⟩
  · have HR := Lib.hid hr
    have HRS := Lib.hid (right_sizes hr)
    have l64 := (right_sizes hr).1
    by_cases h1 : lv < 0
    · have t1 : decide (lv < 0) = true := decide_eq_true h1
      have HE := Lib.hid (show seenList st S lv kd es = [] by unfold seenList lowsOk; rw [decide_eq_false (show ¬ 0 ≤ lv by omega)]; simp)
      clear hr h1
      go_enter Tryz.func25, Tryz.ntmps25
      go_wp2_with (go_at_call 42; rw [← EW0.out]; refine (rright6_any _ _ _ _ st S _ HP0.out HWD.out HSH.out.l HSH.out.i HSH.out.o).mono ?_; rintro e w1 ⟨rfl, hb⟩; rw [HR.out]; have HB1 := Lib.hid hb; clear hb)
      go_ret
      exact ⟨⟨_, rfl, by rw [HE.out]; exact .inl ⟨⟨_, _, rfl, fun _ => rfl⟩, rfl⟩⟩, QQ.step HB0.out HB1.out⟩
    · have t1 : decide (lv < 0) = false := decide_eq_false h1
      by_cases h2 : (st.L.length : Int) ≤ lv
      · have t2 : decide ((st.L.length : Int) ≤ lv) = true := decide_eq_true h2
        have HE := Lib.hid (show seenList st S lv kd es = [] by unfold seenList lowsOk; rw [decide_eq_false (show ¬ lv < st.L.length by omega)]; simp)
        clear hr h1 h2
        go_enter Tryz.func25, Tryz.ntmps25
        go_wp2_with (go_at_call 42; rw [← EW0.out]; refine (rright6_any _ _ _ _ st S _ HP0.out HWD.out HSH.out.l HSH.out.i HSH.out.o).mono ?_; rintro e w1 ⟨rfl, hb⟩; rw [HR.out]; have HB1 := Lib.hid hb; obtain ⟨p0, _, _, _, _⟩ := obj5_cell HO0.out hb; clear hb)
        go_ret
        exact ⟨⟨_, rfl, by rw [HE.out]; exact .inl ⟨⟨_, _, rfl, fun _ => rfl⟩, rfl⟩⟩, QQ.step HB0.out HB1.out⟩
      · have t2 : decide ((st.L.length : Int) ≤ lv) = false := decide_eq_false h2
        obtain ⟨q, rfl⟩ : ∃ q : Nat, lv = q := ⟨lv.toNat, by omega⟩
        have t3 : decide (st.L.length ≤ q) = false := decide_eq_false (by omega)
        have HE := Lib.hid (show seenList st S q kd es = es.filter (picksB st.L.length st.O (lowB S q) kd) by unfold seenList lowsOk; rw [hr, decide_eq_true (show (0 : Int) ≤ q by omega), decide_eq_true (show (q : Int) < st.L.length by omega)]; rfl)
        clear hr h1 h2
        go_enter Tryz.func25, Tryz.ntmps25
        go_wp2_with (go_at_call 42; rw [← EW0.out]; refine (rright6_any _ _ _ _ st S _ HP0.out HWD.out HSH.out.l HSH.out.i HSH.out.o).mono ?_; rintro e w1 ⟨rfl, hb⟩; rw [HR.out]; have HB1 := Lib.hid hb; obtain ⟨p0, _, _, _, _⟩ := obj5_cell HO0.out hb; clear hb)
        have HBW := Lib.hid (HB0.out.trans (HB1.out.mono HB0.out.size))
        clear p0
        go_loopw [9, 10] (fun o k wr => ∃ i : Nat, i ≤ es.length ∧ k = .int .i64 (i : Int) ∧ wr.ownsRow w1.heap.size 44 5 o ((es.take i).filter (picksB st.L.length st.O (lowB S q) kd)).length (evCells ((es.take i).filter (picksB st.L.length st.O (lowB S q) kd))) ∧ Below w1.heap.size w1 wr) (fun _ k _ => es.length - (intOf k).toNat)
        case atStart => exact ⟨0, by omega, rfl, by simpa [evCells] using World.ownsRow_nil w1 w1.heap.size 44 5, Below.refl _ _⟩
        case round =>
          obtain ⟨i, hi, rfl, hO, hB⟩ := hrel
          have HO := Lib.hid hO
          have HB := Lib.hid hB
          clear hO hB
          by_cases hlt : i < es.length
          · obtain ⟨eb, eo, rfl, heb, hc⟩ := (HA0.out.below (HBW.out.trans (HB.out.mono HBW.out.size))).at hlt
            have HEB := Lib.hid (show eb < wr.heap.size from Nat.lt_of_lt_of_le heb (HBW.out.trans (HB.out.mono HBW.out.size)).size)
            have HNO := Lib.hid (fun h => filter_no (p := picksB st.L.length st.O (lowB S q) kd) hlt h)
            have HYES := Lib.hid (fun h => filter_yes (p := picksB st.L.length st.O (lowB S q) kd) hlt h)
            have HLEN := Lib.hid (filter_len (picksB st.L.length st.O (lowB S q) kd) es i)
            have i1 : (0 : Int) ≤ i ∧ (i : Int) < es.length := by omega
            obtain ⟨x, ex⟩ : ∃ x, x = evAt es i := ⟨_, rfl⟩
            rw [← ex] at hc HNO HYES
            have HC := Lib.hid hc
            have HPB := Lib.hid ((HB1.out.trans (HB.out.mono HB1.out.size)).block _ (heap_some_lt HO0.out) |>.trans HO0.out)
            have HPW := Lib.hid (HP0.out.below (HB1.out.trans (HB.out.mono HB1.out.size)))
            clear ex hc heb
            obtain ⟨xs, hxs⟩ : ∃ xs, xs = (es.take i).filter (picksB st.L.length st.O (lowB S q) kd) := ⟨_, rfl⟩
            rw [← hxs] at HO HNO HYES HLEN
            have HPR := Lib.hid (picks_ref st.L.length st.O S q kd x)
            clear hxs
            obtain ⟨_, y0, y1, y2, y3, y4, z0, z1, z2, z3, z4⟩ := seen_held HPB.out HC.out HEB.out (Below.refl _ _)
            by_cases hk : x.k = kd
            · have t4 : (x.k == kd) = true := beq_iff_eq.2 hk
              cases hal : allowB st.O.length st.L.length x.k x.r x.f x.a
              · have HNX := Lib.hid (HNO.out (by rw [HPR.out, hal]; simp))
                have HAL := Lib.hid hal
                clear hk hal
                go_wp2_with fail
                refine wp_region_held_drew (S := (fun V => Below wr.heap.size wr V ∧ V.cell? ⟨w.heap.size, 0, none⟩ = some (.slice a0 st.L.length k0) ∧ V.cell? ⟨w.heap.size, 1, none⟩ = some (.slice a1 S.length k1) ∧ V.cell? ⟨w.heap.size, 2, none⟩ = some (.slice a2 st.I.length k2) ∧ V.cell? ⟨w.heap.size, 3, none⟩ = some (.slice a3 st.O.length k3) ∧ V.cell? ⟨w.heap.size, 4, none⟩ = some (.int .i64 st.D) ∧ V.cell? ⟨eb, eo + i * 5, none⟩ = some (.int .u8 x.k) ∧ V.cell? ⟨eb, eo + i * 5 + 1, none⟩ = some (.int .i64 x.r) ∧ V.cell? ⟨eb, eo + i * 5 + 2, none⟩ = some (.int .i64 x.v) ∧ V.cell? ⟨eb, eo + i * 5 + 3, none⟩ = some (.int .i64 x.f) ∧ V.cell? ⟨eb, eo + i * 5 + 4, none⟩ = some (.int .i64 x.a))) (by kernel_rfl) ?_ (fun hHeld => ?_)
                · first | exact seen_held HPB.out HC.out HEB.out (Below.refl _ _) | exact seen_held HPB.out HC.out HEB.out (Below.refl _ _).drew
                refine wpAnyH_take (i := 0) (v := .slice (some ⟨eb, eo, none⟩) es.length ca) rfl (by kernel_rfl) (by kernel_rfl) (by kernel_rfl) (fun _ _ _ h => h) (Or.inl ⟨by rfl, fun W hSW => ?_⟩) hHeld ?_
                · ((try dsimp only at hSW); go_split_ands; go_simp <;> with_reducible rfl)
                try simp only [List.getElem_toArray, List.getElem_cons_succ, List.getElem_cons_zero, Act.put, List.setIfInBounds_toArray, List.set_cons_zero, List.set_cons_succ]
                refine wpAnyH_take (i := 1) (v := .int .i64 (i : Int)) rfl (by kernel_rfl) (by kernel_rfl) (by kernel_rfl) (fun _ _ _ h => h) (Or.inl ⟨by rfl, fun W hSW => ?_⟩) hHeld ?_
                · ((try dsimp only at hSW); go_split_ands; go_simp <;> with_reducible rfl)
                try simp only [List.getElem_toArray, List.getElem_cons_succ, List.getElem_cons_zero, Act.put, List.setIfInBounds_toArray, List.set_cons_zero, List.set_cons_succ]
                refine wpAnyH_take (i := 2) (v := .pointer (some ⟨eb, eo + i * 5, none⟩)) rfl (by kernel_rfl) (by kernel_rfl) (by kernel_rfl) (fun _ _ _ h => h) (Or.inl ⟨by rfl, fun W hSW => ?_⟩) hHeld ?_
                · ((try dsimp only at hSW); go_split_ands; go_simp <;> with_reducible rfl)
                try simp only [List.getElem_toArray, List.getElem_cons_succ, List.getElem_cons_zero, Act.put, List.setIfInBounds_toArray, List.set_cons_zero, List.set_cons_succ]
                refine wpAnyH_take (i := 3) (v := .pointer (some ⟨eb, eo + i * 5, none⟩)) rfl (by kernel_rfl) (by kernel_rfl) (by kernel_rfl) (fun _ _ _ h => h) (Or.inl ⟨by rfl, fun W hSW => ?_⟩) hHeld ?_
                · ((try dsimp only at hSW); go_split_ands; go_simp <;> with_reducible rfl)
                try simp only [List.getElem_toArray, List.getElem_cons_succ, List.getElem_cons_zero, Act.put, List.setIfInBounds_toArray, List.set_cons_zero, List.set_cons_succ]
                refine wpAnyH_take (i := 4) (v := .int .u8 x.k) rfl (by kernel_rfl) (by kernel_rfl) (by kernel_rfl) (fun _ _ _ h => h) (Or.inl ⟨by rfl, fun W hSW => ?_⟩) hHeld ?_
                · ((try dsimp only at hSW); go_split_ands; go_simp <;> with_reducible rfl)
                try simp only [List.getElem_toArray, List.getElem_cons_succ, List.getElem_cons_zero, Act.put, List.setIfInBounds_toArray, List.set_cons_zero, List.set_cons_succ]
                refine wpAnyH_take (i := 5) (v := .int .u8 kd) rfl (by kernel_rfl) (by kernel_rfl) (by kernel_rfl) (fun _ _ _ h => h) (Or.inl ⟨by rfl, fun W hSW => ?_⟩) hHeld ?_
                · ((try dsimp only at hSW); go_split_ands; go_simp <;> with_reducible rfl)
                try simp only [List.getElem_toArray, List.getElem_cons_succ, List.getElem_cons_zero, Act.put, List.setIfInBounds_toArray, List.set_cons_zero, List.set_cons_succ]
                refine wpAnyH_take (i := 6) (v := .bool true) rfl (by kernel_rfl) (by kernel_rfl) (by kernel_rfl) (fun _ _ _ h => h) (Or.inl ⟨by rfl, fun W hSW => ?_⟩) hHeld ?_
                · ((try dsimp only at hSW); go_split_ands; go_simp <;> with_reducible rfl)
                try simp only [List.getElem_toArray, List.getElem_cons_succ, List.getElem_cons_zero, Act.put, List.setIfInBounds_toArray, List.set_cons_zero, List.set_cons_succ]
                refine wpAnyH_take (i := 7) (v := .bool true) rfl (by kernel_rfl) (by kernel_rfl) (by kernel_rfl) (fun _ _ _ h => h) (Or.inl ⟨by rfl, fun W hSW => ?_⟩) hHeld ?_
                · ((try dsimp only at hSW); go_split_ands; go_simp <;> with_reducible rfl)
                try simp only [List.getElem_toArray, List.getElem_cons_succ, List.getElem_cons_zero, Act.put, List.setIfInBounds_toArray, List.set_cons_zero, List.set_cons_succ]
                refine wpAnyH_take (i := 8) (v := .agg #[.slice a0 st.L.length k0, .slice a1 S.length k1, .slice a2 st.I.length k2, .slice a3 st.O.length k3, .int .i64 st.D]) rfl (by kernel_rfl) (by kernel_rfl) (by kernel_rfl) (fun _ _ _ h => h) (Or.inl ⟨by rfl, fun W hSW => ?_⟩) hHeld ?_
                · ((try dsimp only at hSW); go_split_ands; go_simp <;> with_reducible rfl)
                try simp only [List.getElem_toArray, List.getElem_cons_succ, List.getElem_cons_zero, Act.put, List.setIfInBounds_toArray, List.set_cons_zero, List.set_cons_succ]
                refine wpAnyH_take (i := 9) (v := .slice (some ⟨eb, eo, none⟩) es.length ca) rfl (by kernel_rfl) (by kernel_rfl) (by kernel_rfl) (fun _ _ _ h => h) (Or.inl ⟨by rfl, fun W hSW => ?_⟩) hHeld ?_
                · ((try dsimp only at hSW); go_split_ands; go_simp <;> with_reducible rfl)
                try simp only [List.getElem_toArray, List.getElem_cons_succ, List.getElem_cons_zero, Act.put, List.setIfInBounds_toArray, List.set_cons_zero, List.set_cons_succ]
                refine wpAnyH_take (i := 10) (v := .int .i64 (i : Int)) rfl (by kernel_rfl) (by kernel_rfl) (by kernel_rfl) (fun _ _ _ h => h) (Or.inl ⟨by rfl, fun W hSW => ?_⟩) hHeld ?_
                · ((try dsimp only at hSW); go_split_ands; go_simp <;> with_reducible rfl)
                try simp only [List.getElem_toArray, List.getElem_cons_succ, List.getElem_cons_zero, Act.put, List.setIfInBounds_toArray, List.set_cons_zero, List.set_cons_succ]
                refine wpAnyH_take (i := 11) (v := .pointer (some ⟨eb, eo + i * 5, none⟩)) rfl (by kernel_rfl) (by kernel_rfl) (by kernel_rfl) (fun _ _ _ h => h) (Or.inl ⟨by rfl, fun W hSW => ?_⟩) hHeld ?_
                · ((try dsimp only at hSW); go_split_ands; go_simp <;> with_reducible rfl)
                try simp only [List.getElem_toArray, List.getElem_cons_succ, List.getElem_cons_zero, Act.put, List.setIfInBounds_toArray, List.set_cons_zero, List.set_cons_succ]
                refine wpAnyH_take (i := 12) (v := .agg #[.int .u8 x.k, .int .i64 x.r, .int .i64 x.v, .int .i64 x.f, .int .i64 x.a]) rfl (by kernel_rfl) (by kernel_rfl) (by kernel_rfl) (fun _ _ _ h => h) (Or.inl ⟨by rfl, fun W hSW => ?_⟩) hHeld ?_
                · ((try dsimp only at hSW); go_split_ands; go_simp <;> with_reducible rfl)
                try simp only [List.getElem_toArray, List.getElem_cons_succ, List.getElem_cons_zero, Act.put, List.setIfInBounds_toArray, List.set_cons_zero, List.set_cons_succ]
                refine wpAnyH_ready (rs := [13]) (by kernel_rfl) (by simp) ?_
                refine AllReadyH.cons rfl (fun K hK => ?_) AllReadyH.nil
                try simp only [List.getElem_toArray, List.getElem_cons_succ, List.getElem_cons_zero]
                go_simp
                (go_at_call 36; refine (good_any a0 a3 st.L.length k0 st.O.length k3 _ _ _ _ _ _ _ _ _).mono ?_; rintro e w4 ⟨rfl, hb⟩; rw [HAL.out])
                try go_wp2_with fail
                refine hK.out _ _ ?_ (fun hHeld => ?_)
                · exact seen_held HPB.out HC.out HEB.out (hHeld.1.trans (hb.mono hHeld.1.size))
                clear hK K
                try simp only [List.getElem_toArray, List.getElem_cons_succ, List.getElem_cons_zero, Act.put, List.setIfInBounds_toArray, List.set_cons_zero, List.set_cons_succ]
                refine wpAnyH_take (i := 14) (v := .bool false) rfl (by kernel_rfl) (by kernel_rfl) (by kernel_rfl) (fun _ _ _ h => h) (Or.inl ⟨by rfl, fun W hSW => ?_⟩) hHeld ?_
                · ((try dsimp only at hSW); go_split_ands; go_simp <;> with_reducible rfl)
                try simp only [List.getElem_toArray, List.getElem_cons_succ, List.getElem_cons_zero, Act.put, List.setIfInBounds_toArray, List.set_cons_zero, List.set_cons_succ]
                refine wpAnyH_take (i := 15) (v := .bool false) rfl (by kernel_rfl) (by kernel_rfl) (by kernel_rfl) (fun _ _ _ h => h) (Or.inl ⟨by rfl, fun W hSW => ?_⟩) hHeld ?_
                · ((try dsimp only at hSW); go_split_ands; go_simp <;> with_reducible rfl)
                try simp only [List.getElem_toArray, List.getElem_cons_succ, List.getElem_cons_zero, Act.put, List.setIfInBounds_toArray, List.set_cons_zero, List.set_cons_succ]
                refine wpAnyH_take (i := 16) (v := undef) rfl (by kernel_rfl) (by kernel_rfl) (by kernel_rfl) (fun _ _ _ h => h) (Or.inr ⟨by rfl, rfl⟩) hHeld ?_
                try simp only [List.getElem_toArray, List.getElem_cons_succ, List.getElem_cons_zero, Act.put, List.setIfInBounds_toArray, List.set_cons_zero, List.set_cons_succ]
                refine wpAnyH_take (i := 17) (v := undef) rfl (by kernel_rfl) (by kernel_rfl) (by kernel_rfl) (fun _ _ _ h => h) (Or.inr ⟨by rfl, rfl⟩) hHeld ?_
                try simp only [List.getElem_toArray, List.getElem_cons_succ, List.getElem_cons_zero, Act.put, List.setIfInBounds_toArray, List.set_cons_zero, List.set_cons_succ]
                refine wpAnyH_take (i := 18) (v := undef) rfl (by kernel_rfl) (by kernel_rfl) (by kernel_rfl) (fun _ _ _ h => h) (Or.inr ⟨by rfl, rfl⟩) hHeld ?_
                try simp only [List.getElem_toArray, List.getElem_cons_succ, List.getElem_cons_zero, Act.put, List.setIfInBounds_toArray, List.set_cons_zero, List.set_cons_succ]
                refine wpAnyH_take (i := 19) (v := undef) rfl (by kernel_rfl) (by kernel_rfl) (by kernel_rfl) (fun _ _ _ h => h) (Or.inr ⟨by rfl, rfl⟩) hHeld ?_
                try simp only [List.getElem_toArray, List.getElem_cons_succ, List.getElem_cons_zero, Act.put, List.setIfInBounds_toArray, List.set_cons_zero, List.set_cons_succ]
                refine wpAnyH_take (i := 20) (v := undef) rfl (by kernel_rfl) (by kernel_rfl) (by kernel_rfl) (fun _ _ _ h => h) (Or.inr ⟨by rfl, rfl⟩) hHeld ?_
                try simp only [List.getElem_toArray, List.getElem_cons_succ, List.getElem_cons_zero, Act.put, List.setIfInBounds_toArray, List.set_cons_zero, List.set_cons_succ]
                refine wpAnyH_take (i := 21) (v := undef) rfl (by kernel_rfl) (by kernel_rfl) (by kernel_rfl) (fun _ _ _ h => h) (Or.inr ⟨by rfl, rfl⟩) hHeld ?_
                try simp only [List.getElem_toArray, List.getElem_cons_succ, List.getElem_cons_zero, Act.put, List.setIfInBounds_toArray, List.set_cons_zero, List.set_cons_succ]
                refine wpAnyH_take (i := 22) (v := undef) rfl (by kernel_rfl) (by kernel_rfl) (by kernel_rfl) (fun _ _ _ h => h) (Or.inr ⟨by rfl, rfl⟩) hHeld ?_
                try simp only [List.getElem_toArray, List.getElem_cons_succ, List.getElem_cons_zero, Act.put, List.setIfInBounds_toArray, List.set_cons_zero, List.set_cons_succ]
                refine wpAnyH_take (i := 23) (v := .bool false) rfl (by kernel_rfl) (by kernel_rfl) (by kernel_rfl) (fun _ _ _ h => h) (Or.inl ⟨by rfl, fun W hSW => ?_⟩) hHeld ?_
                · ((try dsimp only at hSW); go_split_ands; go_simp <;> with_reducible rfl)
                try simp only [List.getElem_toArray, List.getElem_cons_succ, List.getElem_cons_zero, Act.put, List.setIfInBounds_toArray, List.set_cons_zero, List.set_cons_succ]
                refine wpAnyH_done (by kernel_rfl) ?_ _
                have HB9 := Lib.hid hHeld.1
                clear hHeld
                go_wp2_with fail
                go_roundw
                case rel => exact ⟨i + 1, by omega, by go_num, by rw [HNX.out]; exact HO.out.kept (row := none) ⟨HB9.out.os, HB9.out.tape, HB9.out.output, HB9.out.size, fun k hk _ => HB9.out.block k hk⟩ (Classical.em _), HB.out.trans (HB9.out.mono HB.out.size)⟩
                case measure => simp [intOf]; omega
              · have HAL := Lib.hid hal
                cases hz : LL.ab S (evLev st.O x) q
                · have HNX := Lib.hid (HNO.out (by rw [HPR.out, hz]; simp))
                  have HZ := Lib.hid hz
                  clear hk hal hz
                  go_wp2_with fail
                  refine wp_region_held_drew (S := (fun V => Below wr.heap.size wr V ∧ V.cell? ⟨w.heap.size, 0, none⟩ = some (.slice a0 st.L.length k0) ∧ V.cell? ⟨w.heap.size, 1, none⟩ = some (.slice a1 S.length k1) ∧ V.cell? ⟨w.heap.size, 2, none⟩ = some (.slice a2 st.I.length k2) ∧ V.cell? ⟨w.heap.size, 3, none⟩ = some (.slice a3 st.O.length k3) ∧ V.cell? ⟨w.heap.size, 4, none⟩ = some (.int .i64 st.D) ∧ V.cell? ⟨eb, eo + i * 5, none⟩ = some (.int .u8 x.k) ∧ V.cell? ⟨eb, eo + i * 5 + 1, none⟩ = some (.int .i64 x.r) ∧ V.cell? ⟨eb, eo + i * 5 + 2, none⟩ = some (.int .i64 x.v) ∧ V.cell? ⟨eb, eo + i * 5 + 3, none⟩ = some (.int .i64 x.f) ∧ V.cell? ⟨eb, eo + i * 5 + 4, none⟩ = some (.int .i64 x.a))) (by kernel_rfl) ?_ (fun hHeld => ?_)
                  · first | exact seen_held HPB.out HC.out HEB.out (Below.refl _ _) | exact seen_held HPB.out HC.out HEB.out (Below.refl _ _).drew
                  refine wpAnyH_take (i := 0) (v := .slice (some ⟨eb, eo, none⟩) es.length ca) rfl (by kernel_rfl) (by kernel_rfl) (by kernel_rfl) (fun _ _ _ h => h) (Or.inl ⟨by rfl, fun W hSW => ?_⟩) hHeld ?_
                  · ((try dsimp only at hSW); go_split_ands; go_simp <;> with_reducible rfl)
                  try simp only [List.getElem_toArray, List.getElem_cons_succ, List.getElem_cons_zero, Act.put, List.setIfInBounds_toArray, List.set_cons_zero, List.set_cons_succ]
                  refine wpAnyH_take (i := 1) (v := .int .i64 (i : Int)) rfl (by kernel_rfl) (by kernel_rfl) (by kernel_rfl) (fun _ _ _ h => h) (Or.inl ⟨by rfl, fun W hSW => ?_⟩) hHeld ?_
                  · ((try dsimp only at hSW); go_split_ands; go_simp <;> with_reducible rfl)
                  try simp only [List.getElem_toArray, List.getElem_cons_succ, List.getElem_cons_zero, Act.put, List.setIfInBounds_toArray, List.set_cons_zero, List.set_cons_succ]
                  refine wpAnyH_take (i := 2) (v := .pointer (some ⟨eb, eo + i * 5, none⟩)) rfl (by kernel_rfl) (by kernel_rfl) (by kernel_rfl) (fun _ _ _ h => h) (Or.inl ⟨by rfl, fun W hSW => ?_⟩) hHeld ?_
                  · ((try dsimp only at hSW); go_split_ands; go_simp <;> with_reducible rfl)
                  try simp only [List.getElem_toArray, List.getElem_cons_succ, List.getElem_cons_zero, Act.put, List.setIfInBounds_toArray, List.set_cons_zero, List.set_cons_succ]
                  refine wpAnyH_take (i := 3) (v := .pointer (some ⟨eb, eo + i * 5, none⟩)) rfl (by kernel_rfl) (by kernel_rfl) (by kernel_rfl) (fun _ _ _ h => h) (Or.inl ⟨by rfl, fun W hSW => ?_⟩) hHeld ?_
                  · ((try dsimp only at hSW); go_split_ands; go_simp <;> with_reducible rfl)
                  try simp only [List.getElem_toArray, List.getElem_cons_succ, List.getElem_cons_zero, Act.put, List.setIfInBounds_toArray, List.set_cons_zero, List.set_cons_succ]
                  refine wpAnyH_take (i := 4) (v := .int .u8 x.k) rfl (by kernel_rfl) (by kernel_rfl) (by kernel_rfl) (fun _ _ _ h => h) (Or.inl ⟨by rfl, fun W hSW => ?_⟩) hHeld ?_
                  · ((try dsimp only at hSW); go_split_ands; go_simp <;> with_reducible rfl)
                  try simp only [List.getElem_toArray, List.getElem_cons_succ, List.getElem_cons_zero, Act.put, List.setIfInBounds_toArray, List.set_cons_zero, List.set_cons_succ]
                  refine wpAnyH_take (i := 5) (v := .int .u8 kd) rfl (by kernel_rfl) (by kernel_rfl) (by kernel_rfl) (fun _ _ _ h => h) (Or.inl ⟨by rfl, fun W hSW => ?_⟩) hHeld ?_
                  · ((try dsimp only at hSW); go_split_ands; go_simp <;> with_reducible rfl)
                  try simp only [List.getElem_toArray, List.getElem_cons_succ, List.getElem_cons_zero, Act.put, List.setIfInBounds_toArray, List.set_cons_zero, List.set_cons_succ]
                  refine wpAnyH_take (i := 6) (v := .bool true) rfl (by kernel_rfl) (by kernel_rfl) (by kernel_rfl) (fun _ _ _ h => h) (Or.inl ⟨by rfl, fun W hSW => ?_⟩) hHeld ?_
                  · ((try dsimp only at hSW); go_split_ands; go_simp <;> with_reducible rfl)
                  try simp only [List.getElem_toArray, List.getElem_cons_succ, List.getElem_cons_zero, Act.put, List.setIfInBounds_toArray, List.set_cons_zero, List.set_cons_succ]
                  refine wpAnyH_take (i := 7) (v := .bool true) rfl (by kernel_rfl) (by kernel_rfl) (by kernel_rfl) (fun _ _ _ h => h) (Or.inl ⟨by rfl, fun W hSW => ?_⟩) hHeld ?_
                  · ((try dsimp only at hSW); go_split_ands; go_simp <;> with_reducible rfl)
                  try simp only [List.getElem_toArray, List.getElem_cons_succ, List.getElem_cons_zero, Act.put, List.setIfInBounds_toArray, List.set_cons_zero, List.set_cons_succ]
                  refine wpAnyH_take (i := 8) (v := .agg #[.slice a0 st.L.length k0, .slice a1 S.length k1, .slice a2 st.I.length k2, .slice a3 st.O.length k3, .int .i64 st.D]) rfl (by kernel_rfl) (by kernel_rfl) (by kernel_rfl) (fun _ _ _ h => h) (Or.inl ⟨by rfl, fun W hSW => ?_⟩) hHeld ?_
                  · ((try dsimp only at hSW); go_split_ands; go_simp <;> with_reducible rfl)
                  try simp only [List.getElem_toArray, List.getElem_cons_succ, List.getElem_cons_zero, Act.put, List.setIfInBounds_toArray, List.set_cons_zero, List.set_cons_succ]
                  refine wpAnyH_take (i := 9) (v := .slice (some ⟨eb, eo, none⟩) es.length ca) rfl (by kernel_rfl) (by kernel_rfl) (by kernel_rfl) (fun _ _ _ h => h) (Or.inl ⟨by rfl, fun W hSW => ?_⟩) hHeld ?_
                  · ((try dsimp only at hSW); go_split_ands; go_simp <;> with_reducible rfl)
                  try simp only [List.getElem_toArray, List.getElem_cons_succ, List.getElem_cons_zero, Act.put, List.setIfInBounds_toArray, List.set_cons_zero, List.set_cons_succ]
                  refine wpAnyH_take (i := 10) (v := .int .i64 (i : Int)) rfl (by kernel_rfl) (by kernel_rfl) (by kernel_rfl) (fun _ _ _ h => h) (Or.inl ⟨by rfl, fun W hSW => ?_⟩) hHeld ?_
                  · ((try dsimp only at hSW); go_split_ands; go_simp <;> with_reducible rfl)
                  try simp only [List.getElem_toArray, List.getElem_cons_succ, List.getElem_cons_zero, Act.put, List.setIfInBounds_toArray, List.set_cons_zero, List.set_cons_succ]
                  refine wpAnyH_take (i := 11) (v := .pointer (some ⟨eb, eo + i * 5, none⟩)) rfl (by kernel_rfl) (by kernel_rfl) (by kernel_rfl) (fun _ _ _ h => h) (Or.inl ⟨by rfl, fun W hSW => ?_⟩) hHeld ?_
                  · ((try dsimp only at hSW); go_split_ands; go_simp <;> with_reducible rfl)
                  try simp only [List.getElem_toArray, List.getElem_cons_succ, List.getElem_cons_zero, Act.put, List.setIfInBounds_toArray, List.set_cons_zero, List.set_cons_succ]
                  refine wpAnyH_take (i := 12) (v := .agg #[.int .u8 x.k, .int .i64 x.r, .int .i64 x.v, .int .i64 x.f, .int .i64 x.a]) rfl (by kernel_rfl) (by kernel_rfl) (by kernel_rfl) (fun _ _ _ h => h) (Or.inl ⟨by rfl, fun W hSW => ?_⟩) hHeld ?_
                  · ((try dsimp only at hSW); go_split_ands; go_simp <;> with_reducible rfl)
                  try simp only [List.getElem_toArray, List.getElem_cons_succ, List.getElem_cons_zero, Act.put, List.setIfInBounds_toArray, List.set_cons_zero, List.set_cons_succ]
                  refine wpAnyH_ready (rs := [13]) (by kernel_rfl) (by simp) ?_
                  refine AllReadyH.cons rfl (fun K hK => ?_) AllReadyH.nil
                  try simp only [List.getElem_toArray, List.getElem_cons_succ, List.getElem_cons_zero]
                  go_simp
                  (go_at_call 36; refine (good_any a0 a3 st.L.length k0 st.O.length k3 _ _ _ _ _ _ _ _ _).mono ?_; rintro e w4 ⟨rfl, hb⟩; rw [HAL.out])
                  try go_wp2_with fail
                  refine hK.out _ _ ?_ (fun hHeld => ?_)
                  · exact seen_held HPB.out HC.out HEB.out (hHeld.1.trans (hb.mono hHeld.1.size))
                  clear hK K
                  try simp only [List.getElem_toArray, List.getElem_cons_succ, List.getElem_cons_zero, Act.put, List.setIfInBounds_toArray, List.set_cons_zero, List.set_cons_succ]
                  refine wpAnyH_take (i := 14) (v := .bool true) rfl (by kernel_rfl) (by kernel_rfl) (by kernel_rfl) (fun _ _ _ h => h) (Or.inl ⟨by rfl, fun W hSW => ?_⟩) hHeld ?_
                  · ((try dsimp only at hSW); go_split_ands; go_simp <;> with_reducible rfl)
                  try simp only [List.getElem_toArray, List.getElem_cons_succ, List.getElem_cons_zero, Act.put, List.setIfInBounds_toArray, List.set_cons_zero, List.set_cons_succ]
                  refine wpAnyH_take (i := 15) (v := .bool true) rfl (by kernel_rfl) (by kernel_rfl) (by kernel_rfl) (fun _ _ _ h => h) (Or.inl ⟨by rfl, fun W hSW => ?_⟩) hHeld ?_
                  · ((try dsimp only at hSW); go_split_ands; go_simp <;> with_reducible rfl)
                  try simp only [List.getElem_toArray, List.getElem_cons_succ, List.getElem_cons_zero, Act.put, List.setIfInBounds_toArray, List.set_cons_zero, List.set_cons_succ]
                  refine wpAnyH_take (i := 16) (v := .agg #[.slice a0 st.L.length k0, .slice a1 S.length k1, .slice a2 st.I.length k2, .slice a3 st.O.length k3, .int .i64 st.D]) rfl (by kernel_rfl) (by kernel_rfl) (by kernel_rfl) (fun _ _ _ h => h) (Or.inl ⟨by rfl, fun W hSW => ?_⟩) hHeld ?_
                  · ((try dsimp only at hSW); go_split_ands; go_simp <;> with_reducible rfl)
                  try simp only [List.getElem_toArray, List.getElem_cons_succ, List.getElem_cons_zero, Act.put, List.setIfInBounds_toArray, List.set_cons_zero, List.set_cons_succ]
                  refine wpAnyH_take (i := 17) (v := .int .i64 (q : Int)) rfl (by kernel_rfl) (by kernel_rfl) (by kernel_rfl) (fun _ _ _ h => h) (Or.inl ⟨by rfl, fun W hSW => ?_⟩) hHeld ?_
                  · ((try dsimp only at hSW); go_split_ands; go_simp <;> with_reducible rfl)
                  try simp only [List.getElem_toArray, List.getElem_cons_succ, List.getElem_cons_zero, Act.put, List.setIfInBounds_toArray, List.set_cons_zero, List.set_cons_succ]
                  refine wpAnyH_take (i := 18) (v := .slice (some ⟨eb, eo, none⟩) es.length ca) rfl (by kernel_rfl) (by kernel_rfl) (by kernel_rfl) (fun _ _ _ h => h) (Or.inl ⟨by rfl, fun W hSW => ?_⟩) hHeld ?_
                  · ((try dsimp only at hSW); go_split_ands; go_simp <;> with_reducible rfl)
                  try simp only [List.getElem_toArray, List.getElem_cons_succ, List.getElem_cons_zero, Act.put, List.setIfInBounds_toArray, List.set_cons_zero, List.set_cons_succ]
                  refine wpAnyH_take (i := 19) (v := .int .i64 (i : Int)) rfl (by kernel_rfl) (by kernel_rfl) (by kernel_rfl) (fun _ _ _ h => h) (Or.inl ⟨by rfl, fun W hSW => ?_⟩) hHeld ?_
                  · ((try dsimp only at hSW); go_split_ands; go_simp <;> with_reducible rfl)
                  try simp only [List.getElem_toArray, List.getElem_cons_succ, List.getElem_cons_zero, Act.put, List.setIfInBounds_toArray, List.set_cons_zero, List.set_cons_succ]
                  refine wpAnyH_take (i := 20) (v := .pointer (some ⟨eb, eo + i * 5, none⟩)) rfl (by kernel_rfl) (by kernel_rfl) (by kernel_rfl) (fun _ _ _ h => h) (Or.inl ⟨by rfl, fun W hSW => ?_⟩) hHeld ?_
                  · ((try dsimp only at hSW); go_split_ands; go_simp <;> with_reducible rfl)
                  try simp only [List.getElem_toArray, List.getElem_cons_succ, List.getElem_cons_zero, Act.put, List.setIfInBounds_toArray, List.set_cons_zero, List.set_cons_succ]
                  refine wpAnyH_take (i := 21) (v := .agg #[.int .u8 x.k, .int .i64 x.r, .int .i64 x.v, .int .i64 x.f, .int .i64 x.a]) rfl (by kernel_rfl) (by kernel_rfl) (by kernel_rfl) (fun _ _ _ h => h) (Or.inl ⟨by rfl, fun W hSW => ?_⟩) hHeld ?_
                  · ((try dsimp only at hSW); go_split_ands; go_simp <;> with_reducible rfl)
                  try simp only [List.getElem_toArray, List.getElem_cons_succ, List.getElem_cons_zero, Act.put, List.setIfInBounds_toArray, List.set_cons_zero, List.set_cons_succ]
                  refine wpAnyH_ready (rs := [22]) (by kernel_rfl) (by simp) ?_
                  refine AllReadyH.cons rfl (fun K hK => ?_) AllReadyH.nil
                  try simp only [List.getElem_toArray, List.getElem_cons_succ, List.getElem_cons_zero]
                  go_simp
                  (go_at_call 43; refine (rsees_any _ _ _ _ st S q x _ (HPW.out.below hHeld.1) HWD.out HAL.out HRS.out.2.1 HRS.out.2.2.2.2.2.2 HRS.out.2.2.2.1 HRS.out.1).mono ?_; rintro e w5 ⟨rfl, hb⟩; rw [HZ.out])
                  try go_wp2_with fail
                  refine hK.out _ _ ?_ (fun hHeld => ?_)
                  · exact seen_held HPB.out HC.out HEB.out (hHeld.1.trans (hb.mono hHeld.1.size))
                  clear hK K
                  try simp only [List.getElem_toArray, List.getElem_cons_succ, List.getElem_cons_zero, Act.put, List.setIfInBounds_toArray, List.set_cons_zero, List.set_cons_succ]
                  refine wpAnyH_take (i := 23) (v := .bool false) rfl (by kernel_rfl) (by kernel_rfl) (by kernel_rfl) (fun _ _ _ h => h) (Or.inl ⟨by rfl, fun W hSW => ?_⟩) hHeld ?_
                  · ((try dsimp only at hSW); go_split_ands; go_simp <;> with_reducible rfl)
                  try simp only [List.getElem_toArray, List.getElem_cons_succ, List.getElem_cons_zero, Act.put, List.setIfInBounds_toArray, List.set_cons_zero, List.set_cons_succ]
                  refine wpAnyH_done (by kernel_rfl) ?_ _
                  have HB9 := Lib.hid hHeld.1
                  clear hHeld
                  go_wp2_with fail
                  go_roundw
                  case rel => exact ⟨i + 1, by omega, by go_num, by rw [HNX.out]; exact HO.out.kept (row := none) ⟨HB9.out.os, HB9.out.tape, HB9.out.output, HB9.out.size, fun k hk _ => HB9.out.block k hk⟩ (Classical.em _), HB.out.trans (HB9.out.mono HB.out.size)⟩
                  case measure => simp [intOf]; omega
                · have HNX := Lib.hid (HYES.out (by rw [HPR.out, decide_eq_true hk, hal, hz]; rfl))
                  have HZ := Lib.hid hz
                  clear hk hal hz
                  go_wp2_with fail
                  refine wp_region_held_drew (S := (fun V => Below wr.heap.size wr V ∧ V.cell? ⟨w.heap.size, 0, none⟩ = some (.slice a0 st.L.length k0) ∧ V.cell? ⟨w.heap.size, 1, none⟩ = some (.slice a1 S.length k1) ∧ V.cell? ⟨w.heap.size, 2, none⟩ = some (.slice a2 st.I.length k2) ∧ V.cell? ⟨w.heap.size, 3, none⟩ = some (.slice a3 st.O.length k3) ∧ V.cell? ⟨w.heap.size, 4, none⟩ = some (.int .i64 st.D) ∧ V.cell? ⟨eb, eo + i * 5, none⟩ = some (.int .u8 x.k) ∧ V.cell? ⟨eb, eo + i * 5 + 1, none⟩ = some (.int .i64 x.r) ∧ V.cell? ⟨eb, eo + i * 5 + 2, none⟩ = some (.int .i64 x.v) ∧ V.cell? ⟨eb, eo + i * 5 + 3, none⟩ = some (.int .i64 x.f) ∧ V.cell? ⟨eb, eo + i * 5 + 4, none⟩ = some (.int .i64 x.a))) (by kernel_rfl) ?_ (fun hHeld => ?_)
                  · first | exact seen_held HPB.out HC.out HEB.out (Below.refl _ _) | exact seen_held HPB.out HC.out HEB.out (Below.refl _ _).drew
                  refine wpAnyH_take (i := 0) (v := .slice (some ⟨eb, eo, none⟩) es.length ca) rfl (by kernel_rfl) (by kernel_rfl) (by kernel_rfl) (fun _ _ _ h => h) (Or.inl ⟨by rfl, fun W hSW => ?_⟩) hHeld ?_
                  · ((try dsimp only at hSW); go_split_ands; go_simp <;> with_reducible rfl)
                  try simp only [List.getElem_toArray, List.getElem_cons_succ, List.getElem_cons_zero, Act.put, List.setIfInBounds_toArray, List.set_cons_zero, List.set_cons_succ]
                  refine wpAnyH_take (i := 1) (v := .int .i64 (i : Int)) rfl (by kernel_rfl) (by kernel_rfl) (by kernel_rfl) (fun _ _ _ h => h) (Or.inl ⟨by rfl, fun W hSW => ?_⟩) hHeld ?_
                  · ((try dsimp only at hSW); go_split_ands; go_simp <;> with_reducible rfl)
                  try simp only [List.getElem_toArray, List.getElem_cons_succ, List.getElem_cons_zero, Act.put, List.setIfInBounds_toArray, List.set_cons_zero, List.set_cons_succ]
                  refine wpAnyH_take (i := 2) (v := .pointer (some ⟨eb, eo + i * 5, none⟩)) rfl (by kernel_rfl) (by kernel_rfl) (by kernel_rfl) (fun _ _ _ h => h) (Or.inl ⟨by rfl, fun W hSW => ?_⟩) hHeld ?_
                  · ((try dsimp only at hSW); go_split_ands; go_simp <;> with_reducible rfl)
                  try simp only [List.getElem_toArray, List.getElem_cons_succ, List.getElem_cons_zero, Act.put, List.setIfInBounds_toArray, List.set_cons_zero, List.set_cons_succ]
                  refine wpAnyH_take (i := 3) (v := .pointer (some ⟨eb, eo + i * 5, none⟩)) rfl (by kernel_rfl) (by kernel_rfl) (by kernel_rfl) (fun _ _ _ h => h) (Or.inl ⟨by rfl, fun W hSW => ?_⟩) hHeld ?_
                  · ((try dsimp only at hSW); go_split_ands; go_simp <;> with_reducible rfl)
                  try simp only [List.getElem_toArray, List.getElem_cons_succ, List.getElem_cons_zero, Act.put, List.setIfInBounds_toArray, List.set_cons_zero, List.set_cons_succ]
                  refine wpAnyH_take (i := 4) (v := .int .u8 x.k) rfl (by kernel_rfl) (by kernel_rfl) (by kernel_rfl) (fun _ _ _ h => h) (Or.inl ⟨by rfl, fun W hSW => ?_⟩) hHeld ?_
                  · ((try dsimp only at hSW); go_split_ands; go_simp <;> with_reducible rfl)
                  try simp only [List.getElem_toArray, List.getElem_cons_succ, List.getElem_cons_zero, Act.put, List.setIfInBounds_toArray, List.set_cons_zero, List.set_cons_succ]
                  refine wpAnyH_take (i := 5) (v := .int .u8 kd) rfl (by kernel_rfl) (by kernel_rfl) (by kernel_rfl) (fun _ _ _ h => h) (Or.inl ⟨by rfl, fun W hSW => ?_⟩) hHeld ?_
                  · ((try dsimp only at hSW); go_split_ands; go_simp <;> with_reducible rfl)
                  try simp only [List.getElem_toArray, List.getElem_cons_succ, List.getElem_cons_zero, Act.put, List.setIfInBounds_toArray, List.set_cons_zero, List.set_cons_succ]
                  refine wpAnyH_take (i := 6) (v := .bool true) rfl (by kernel_rfl) (by kernel_rfl) (by kernel_rfl) (fun _ _ _ h => h) (Or.inl ⟨by rfl, fun W hSW => ?_⟩) hHeld ?_
                  · ((try dsimp only at hSW); go_split_ands; go_simp <;> with_reducible rfl)
                  try simp only [List.getElem_toArray, List.getElem_cons_succ, List.getElem_cons_zero, Act.put, List.setIfInBounds_toArray, List.set_cons_zero, List.set_cons_succ]
                  refine wpAnyH_take (i := 7) (v := .bool true) rfl (by kernel_rfl) (by kernel_rfl) (by kernel_rfl) (fun _ _ _ h => h) (Or.inl ⟨by rfl, fun W hSW => ?_⟩) hHeld ?_
                  · ((try dsimp only at hSW); go_split_ands; go_simp <;> with_reducible rfl)
                  try simp only [List.getElem_toArray, List.getElem_cons_succ, List.getElem_cons_zero, Act.put, List.setIfInBounds_toArray, List.set_cons_zero, List.set_cons_succ]
                  refine wpAnyH_take (i := 8) (v := .agg #[.slice a0 st.L.length k0, .slice a1 S.length k1, .slice a2 st.I.length k2, .slice a3 st.O.length k3, .int .i64 st.D]) rfl (by kernel_rfl) (by kernel_rfl) (by kernel_rfl) (fun _ _ _ h => h) (Or.inl ⟨by rfl, fun W hSW => ?_⟩) hHeld ?_
                  · ((try dsimp only at hSW); go_split_ands; go_simp <;> with_reducible rfl)
                  try simp only [List.getElem_toArray, List.getElem_cons_succ, List.getElem_cons_zero, Act.put, List.setIfInBounds_toArray, List.set_cons_zero, List.set_cons_succ]
                  refine wpAnyH_take (i := 9) (v := .slice (some ⟨eb, eo, none⟩) es.length ca) rfl (by kernel_rfl) (by kernel_rfl) (by kernel_rfl) (fun _ _ _ h => h) (Or.inl ⟨by rfl, fun W hSW => ?_⟩) hHeld ?_
                  · ((try dsimp only at hSW); go_split_ands; go_simp <;> with_reducible rfl)
                  try simp only [List.getElem_toArray, List.getElem_cons_succ, List.getElem_cons_zero, Act.put, List.setIfInBounds_toArray, List.set_cons_zero, List.set_cons_succ]
                  refine wpAnyH_take (i := 10) (v := .int .i64 (i : Int)) rfl (by kernel_rfl) (by kernel_rfl) (by kernel_rfl) (fun _ _ _ h => h) (Or.inl ⟨by rfl, fun W hSW => ?_⟩) hHeld ?_
                  · ((try dsimp only at hSW); go_split_ands; go_simp <;> with_reducible rfl)
                  try simp only [List.getElem_toArray, List.getElem_cons_succ, List.getElem_cons_zero, Act.put, List.setIfInBounds_toArray, List.set_cons_zero, List.set_cons_succ]
                  refine wpAnyH_take (i := 11) (v := .pointer (some ⟨eb, eo + i * 5, none⟩)) rfl (by kernel_rfl) (by kernel_rfl) (by kernel_rfl) (fun _ _ _ h => h) (Or.inl ⟨by rfl, fun W hSW => ?_⟩) hHeld ?_
                  · ((try dsimp only at hSW); go_split_ands; go_simp <;> with_reducible rfl)
                  try simp only [List.getElem_toArray, List.getElem_cons_succ, List.getElem_cons_zero, Act.put, List.setIfInBounds_toArray, List.set_cons_zero, List.set_cons_succ]
                  refine wpAnyH_take (i := 12) (v := .agg #[.int .u8 x.k, .int .i64 x.r, .int .i64 x.v, .int .i64 x.f, .int .i64 x.a]) rfl (by kernel_rfl) (by kernel_rfl) (by kernel_rfl) (fun _ _ _ h => h) (Or.inl ⟨by rfl, fun W hSW => ?_⟩) hHeld ?_
                  · ((try dsimp only at hSW); go_split_ands; go_simp <;> with_reducible rfl)
                  try simp only [List.getElem_toArray, List.getElem_cons_succ, List.getElem_cons_zero, Act.put, List.setIfInBounds_toArray, List.set_cons_zero, List.set_cons_succ]
                  refine wpAnyH_ready (rs := [13]) (by kernel_rfl) (by simp) ?_
                  refine AllReadyH.cons rfl (fun K hK => ?_) AllReadyH.nil
                  try simp only [List.getElem_toArray, List.getElem_cons_succ, List.getElem_cons_zero]
                  go_simp
                  (go_at_call 36; refine (good_any a0 a3 st.L.length k0 st.O.length k3 _ _ _ _ _ _ _ _ _).mono ?_; rintro e w4 ⟨rfl, hb⟩; rw [HAL.out])
                  try go_wp2_with fail
                  refine hK.out _ _ ?_ (fun hHeld => ?_)
                  · exact seen_held HPB.out HC.out HEB.out (hHeld.1.trans (hb.mono hHeld.1.size))
                  clear hK K
                  try simp only [List.getElem_toArray, List.getElem_cons_succ, List.getElem_cons_zero, Act.put, List.setIfInBounds_toArray, List.set_cons_zero, List.set_cons_succ]
                  refine wpAnyH_take (i := 14) (v := .bool true) rfl (by kernel_rfl) (by kernel_rfl) (by kernel_rfl) (fun _ _ _ h => h) (Or.inl ⟨by rfl, fun W hSW => ?_⟩) hHeld ?_
                  · ((try dsimp only at hSW); go_split_ands; go_simp <;> with_reducible rfl)
                  try simp only [List.getElem_toArray, List.getElem_cons_succ, List.getElem_cons_zero, Act.put, List.setIfInBounds_toArray, List.set_cons_zero, List.set_cons_succ]
                  refine wpAnyH_take (i := 15) (v := .bool true) rfl (by kernel_rfl) (by kernel_rfl) (by kernel_rfl) (fun _ _ _ h => h) (Or.inl ⟨by rfl, fun W hSW => ?_⟩) hHeld ?_
                  · ((try dsimp only at hSW); go_split_ands; go_simp <;> with_reducible rfl)
                  try simp only [List.getElem_toArray, List.getElem_cons_succ, List.getElem_cons_zero, Act.put, List.setIfInBounds_toArray, List.set_cons_zero, List.set_cons_succ]
                  refine wpAnyH_take (i := 16) (v := .agg #[.slice a0 st.L.length k0, .slice a1 S.length k1, .slice a2 st.I.length k2, .slice a3 st.O.length k3, .int .i64 st.D]) rfl (by kernel_rfl) (by kernel_rfl) (by kernel_rfl) (fun _ _ _ h => h) (Or.inl ⟨by rfl, fun W hSW => ?_⟩) hHeld ?_
                  · ((try dsimp only at hSW); go_split_ands; go_simp <;> with_reducible rfl)
                  try simp only [List.getElem_toArray, List.getElem_cons_succ, List.getElem_cons_zero, Act.put, List.setIfInBounds_toArray, List.set_cons_zero, List.set_cons_succ]
                  refine wpAnyH_take (i := 17) (v := .int .i64 (q : Int)) rfl (by kernel_rfl) (by kernel_rfl) (by kernel_rfl) (fun _ _ _ h => h) (Or.inl ⟨by rfl, fun W hSW => ?_⟩) hHeld ?_
                  · ((try dsimp only at hSW); go_split_ands; go_simp <;> with_reducible rfl)
                  try simp only [List.getElem_toArray, List.getElem_cons_succ, List.getElem_cons_zero, Act.put, List.setIfInBounds_toArray, List.set_cons_zero, List.set_cons_succ]
                  refine wpAnyH_take (i := 18) (v := .slice (some ⟨eb, eo, none⟩) es.length ca) rfl (by kernel_rfl) (by kernel_rfl) (by kernel_rfl) (fun _ _ _ h => h) (Or.inl ⟨by rfl, fun W hSW => ?_⟩) hHeld ?_
                  · ((try dsimp only at hSW); go_split_ands; go_simp <;> with_reducible rfl)
                  try simp only [List.getElem_toArray, List.getElem_cons_succ, List.getElem_cons_zero, Act.put, List.setIfInBounds_toArray, List.set_cons_zero, List.set_cons_succ]
                  refine wpAnyH_take (i := 19) (v := .int .i64 (i : Int)) rfl (by kernel_rfl) (by kernel_rfl) (by kernel_rfl) (fun _ _ _ h => h) (Or.inl ⟨by rfl, fun W hSW => ?_⟩) hHeld ?_
                  · ((try dsimp only at hSW); go_split_ands; go_simp <;> with_reducible rfl)
                  try simp only [List.getElem_toArray, List.getElem_cons_succ, List.getElem_cons_zero, Act.put, List.setIfInBounds_toArray, List.set_cons_zero, List.set_cons_succ]
                  refine wpAnyH_take (i := 20) (v := .pointer (some ⟨eb, eo + i * 5, none⟩)) rfl (by kernel_rfl) (by kernel_rfl) (by kernel_rfl) (fun _ _ _ h => h) (Or.inl ⟨by rfl, fun W hSW => ?_⟩) hHeld ?_
                  · ((try dsimp only at hSW); go_split_ands; go_simp <;> with_reducible rfl)
                  try simp only [List.getElem_toArray, List.getElem_cons_succ, List.getElem_cons_zero, Act.put, List.setIfInBounds_toArray, List.set_cons_zero, List.set_cons_succ]
                  refine wpAnyH_take (i := 21) (v := .agg #[.int .u8 x.k, .int .i64 x.r, .int .i64 x.v, .int .i64 x.f, .int .i64 x.a]) rfl (by kernel_rfl) (by kernel_rfl) (by kernel_rfl) (fun _ _ _ h => h) (Or.inl ⟨by rfl, fun W hSW => ?_⟩) hHeld ?_
                  · ((try dsimp only at hSW); go_split_ands; go_simp <;> with_reducible rfl)
                  try simp only [List.getElem_toArray, List.getElem_cons_succ, List.getElem_cons_zero, Act.put, List.setIfInBounds_toArray, List.set_cons_zero, List.set_cons_succ]
                  refine wpAnyH_ready (rs := [22]) (by kernel_rfl) (by simp) ?_
                  refine AllReadyH.cons rfl (fun K hK => ?_) AllReadyH.nil
                  try simp only [List.getElem_toArray, List.getElem_cons_succ, List.getElem_cons_zero]
                  go_simp
                  (go_at_call 43; refine (rsees_any _ _ _ _ st S q x _ (HPW.out.below hHeld.1) HWD.out HAL.out HRS.out.2.1 HRS.out.2.2.2.2.2.2 HRS.out.2.2.2.1 HRS.out.1).mono ?_; rintro e w5 ⟨rfl, hb⟩; rw [HZ.out])
                  try go_wp2_with fail
                  refine hK.out _ _ ?_ (fun hHeld => ?_)
                  · exact seen_held HPB.out HC.out HEB.out (hHeld.1.trans (hb.mono hHeld.1.size))
                  clear hK K
                  try simp only [List.getElem_toArray, List.getElem_cons_succ, List.getElem_cons_zero, Act.put, List.setIfInBounds_toArray, List.set_cons_zero, List.set_cons_succ]
                  refine wpAnyH_take (i := 23) (v := .bool true) rfl (by kernel_rfl) (by kernel_rfl) (by kernel_rfl) (fun _ _ _ h => h) (Or.inl ⟨by rfl, fun W hSW => ?_⟩) hHeld ?_
                  · ((try dsimp only at hSW); go_split_ands; go_simp <;> with_reducible rfl)
                  try simp only [List.getElem_toArray, List.getElem_cons_succ, List.getElem_cons_zero, Act.put, List.setIfInBounds_toArray, List.set_cons_zero, List.set_cons_succ]
                  refine wpAnyH_done (by kernel_rfl) ?_ _
                  have HB9 := Lib.hid hHeld.1
                  have HB8 := Lib.hid (HB.out.trans (HB9.out.mono HB.out.size))
                  have HOX := Lib.hid (show _ from HO.out.kept (w' := _) (row := none) ⟨HB9.out.os, HB9.out.tape, HB9.out.output, HB9.out.size, fun k hk _ => HB9.out.block k hk⟩ (Classical.em _))
                  have HCX := Lib.hid (fun k u (hk : (evC x)[k]? = some u) => (HB9.out.cell (p := ⟨eb, eo + i * 5 + k, none⟩) HEB.out).trans (HC.out k u hk))
                  clear hHeld
                  go_wp2_with (first
                    | (refine wpList_loadEv rfl (.tmp 58) rfl eb (eo + i * 5) rfl x HCX.out ?_)
                    | (at_builtin
                       go_loud (
                       refine wpList_append_any rfl _ _ 37 rfl w1.heap.size 44 i0 (.agg #[.int .u8 0, .int .i64 0, .int .i64 0, .int .i64 0, .int .i64 0]) 5 40 Tryz.underlying37 hi0 hz0 hz1 hz2 rfl (by decide) u9 xs.length (evCells xs) rfl (HOX.out.alloc _) (.slice (some ⟨w5.heap.size, 0, none⟩) 1 1) 1 (evC x) rfl rfl (.inr ⟨_, _, rfl, ev_new _ _ _ rfl⟩) (evC_one x) (by have := HLEN.out; unfold maxLen; omega) (by have := HLEN.out; omega) (by have := HB8.out.size; simp; omega) ?_
                       intro v6 w6 ho hg
                       have HD := Lib.hid (show w6.ownsRow w1.heap.size 44 5 v6 (xs ++ [x]).length (evCells (xs ++ [x])) ∧ Below w1.heap.size w1 w6 from ⟨by rw [List.length_append, evCells_snoc]; exact ho, (HB8.out.alloc HB8.out.size _).grown hg (by have := HB8.out.size; simp; omega) (fun k e => (HOX.out.lt k e).1)⟩)
                       clear ho hg)))
                  go_roundw
                  case rel => exact ⟨i + 1, by omega, by go_num, by rw [HNX.out]; exact HD.out.1, HD.out.2⟩
                  case measure => simp [intOf]; omega
            · have t4 : (x.k == kd) = false := beq_eq_false_iff_ne.2 hk
              have HNX := Lib.hid (HNO.out (by rw [HPR.out, decide_eq_false hk]; rfl))
              clear hk
              go_wp2_with fail
              go_quiet (fail)
              go_wp2_with fail
              go_roundw
              case rel => exact ⟨i + 1, by omega, by go_num, by rw [HNX.out]; exact HO.out, QQ.dN HB.out _⟩
              case measure => simp [intOf]; omega
          · have HY := Lib.hid (show EvRow wr.heap.size wr u9 (seenList st S q kd es) by
              have h := ev_of_row HO.out
              rw [List.take_of_length_le (by omega)] at h
              rw [HE.out]; exact h)
            go_wp2_with fail
            go_ret
            exact ⟨⟨_, rfl, HY.out⟩, HBW.out.trans (HB.out.mono HBW.out.size)⟩
end Go.Proofs.YtopffoklhfpjpaaGreatDoor

/-! layer 15's reference: Alike, Mixed -/
namespace Go.Proofs.YtopffoklhfpjpaaGreatDoor
open Go.RowKit
theorem pair_no1 {st : PSt} {S : List Int} {lv : Int} {A C : List (List Int)} (h : (rightP st S && fillOk st.I.length A) = false) : pairOkB st S lv A C = false := by
  cases e : pairOkB st S lv A C with
  | false => rfl
  | true =>
    obtain ⟨h1, _, _, h4, _⟩ := pair_parts e
    rw [h1, h4] at h; cases h
theorem pair_no2 {st : PSt} {S : List Int} {lv : Int} {A C : List (List Int)} (h : (rightP st S && fillOk st.I.length C) = false) : pairOkB st S lv A C = false := by
  cases e : pairOkB st S lv A C with
  | false => rfl
  | true =>
    obtain ⟨h1, _, _, _, h5⟩ := pair_parts e
    rw [h1, h5] at h; cases h
theorem pair_no3 {st : PSt} {S : List Int} {lv : Int} {A C : List (List Int)} (h : ¬ (0 ≤ lv ∧ lv < st.L.length)) : pairOkB st S lv A C = false := by
  cases e : pairOkB st S lv A C with
  | false => rfl
  | true =>
    obtain ⟨_, h2, h3, _, _⟩ := pair_parts e
    exact absurd ⟨h2, h3⟩ h
theorem alike_off {st : PSt} {S : List Int} {lv : Int} {A C : List (List Int)} (h : pairOkB st S lv A C = false) : alikeB st S lv A C = false := by unfold alikeB; rw [h]; rfl

set_option maxRecDepth 100000 in
set_option maxHeartbeats 6400000 in
theorem ralike_any (v0 v1 v2 v3 : Value) (st : PSt) (S : List Int) (lv : Int) (a c : Value) (A C : List (List Int)) (w : World) (h : PolIn w v0 v1 v2 v3 st S) (hw : Wide S) (hsh : Short9 st)
    (ha : GraphM w.heap.size w a A) (hc : GraphM w.heap.size w c C) (hxA : Small A) (hxC : Small C) :
    Calls Tryz.prog 26 #[.agg #[v0, v1, v2, v3, .int .i64 st.D], .int .i64 lv, a, c] w fun e w' => e = .returned (.bool (alikeB st S lv A C)) ∧ Below w.heap.size w w' := by
  obtain ⟨a0, k0, rfl⟩ := h.s0.form
  obtain ⟨a1, k1, rfl⟩ := h.s1.form
  obtain ⟨a2, k2, rfl⟩ := h.s2.form
  obtain ⟨a3, k3, rfl⟩ := h.s3.form
  obtain ⟨aa, ca, rfl⟩ := ha.form
  obtain ⟨ac, cc, rfl⟩ := hc.form
  obtain ⟨W0, eW0⟩ : ∃ W0, W0 = w.alloc (.cells #[.slice a0 st.L.length k0, .slice a1 S.length k1, .slice a2 st.I.length k2, .slice a3 st.O.length k3, .int .i64 st.D] 26) := ⟨_, rfl⟩
  have HB0 := Lib.hid (show Below w.heap.size w W0 by rw [eW0]; exact (Below.refl _ _).alloc (Nat.le_refl _) _)
  have HO0 := Lib.hid (show W0.heap[w.heap.size]? = some (.cells #[.slice a0 st.L.length k0, .slice a1 S.length k1, .slice a2 st.I.length k2, .slice a3 st.O.length k3, .int .i64 st.D] 26) by rw [eW0]; exact new_block rfl rfl)
  have HP0 := Lib.hid (h.below HB0.out)
  have HA0 := Lib.hid ((ha.below HB0.out).mono HB0.out.size)
  have HC0 := Lib.hid ((hc.below HB0.out).mono HB0.out.size)
  have HSH := Lib.hid hsh
  have HWD := Lib.hid hw
  have EW0 := Lib.hid eW0
  have HXA := Lib.hid hxA
  have HXC := Lib.hid hxC
  have la := hxA.1
  have lc := hxC.1
  clear h hsh hw eW0 ha hc hxA hxC
  cases hra : (rightP st S && fillOk st.I.length A)
  · have HRA := Lib.hid hra
    have HN := Lib.hid (alike_off (pair_no1 (lv := lv) (C := C) hra))
    clear hra
    go_enter Tryz.func26, Tryz.ntmps26
    go_wp2_with fail
    rw [← EW0.out]
    refine (rright15_any _ _ _ _ st S _ A _ HP0.out HWD.out HSH.out HA0.out HXA.out).mono ?_
    rintro e w1 ⟨rfl, hb⟩
    rw [HRA.out]
    have HB1 := Lib.hid hb
    clear hb
    go_wp2_with fail
    go_ret
    exact ⟨ret_bool HN.out.symm, QQ.step HB0.out HB1.out⟩
  · have HRA := Lib.hid hra
    have hr : rightP st S = true := by rw [Bool.and_eq_true] at hra; exact hra.1
    have hfa : fillOk st.I.length A = true := by rw [Bool.and_eq_true] at hra; exact hra.2
    cases hrc : (rightP st S && fillOk st.I.length C)
    · have HRC := Lib.hid hrc
      have HN := Lib.hid (alike_off (pair_no2 (lv := lv) (A := A) hrc))
      clear hra hrc hr hfa
      go_enter Tryz.func26, Tryz.ntmps26
      go_wp2_with fail
      rw [← EW0.out]
      refine (rright15_any _ _ _ _ st S _ A _ HP0.out HWD.out HSH.out HA0.out HXA.out).mono ?_
      rintro e w1 ⟨rfl, hb⟩
      rw [HRA.out]
      have HB1 := Lib.hid hb
      obtain ⟨p0, p1, p2, p3, p4⟩ := obj5_cell HO0.out hb
      clear hb
      go_wp2_with fail
      refine (rright15_any _ _ _ _ st S _ C _ (HP0.out.below HB1.out) HWD.out HSH.out ((HC0.out.below HB1.out).mono HB1.out.size) HXC.out).mono ?_
      rintro e w2 ⟨rfl, hb⟩
      rw [HRC.out]
      have HB2 := Lib.hid hb
      clear hb p0 p1 p2 p3 p4
      go_wp2_with fail
      go_ret
      exact ⟨ret_bool HN.out.symm, QQ.step (QQ.step HB0.out HB1.out) HB2.out⟩
    · have HRC := Lib.hid hrc
      have hfc : fillOk st.I.length C = true := by rw [Bool.and_eq_true] at hrc; exact hrc.2
      have l64 := (right_sizes hr).1
      have i32 := (right_sizes hr).2.2.1
      by_cases h1 : 0 ≤ lv ∧ lv < st.L.length
      · obtain ⟨q, rfl⟩ : ∃ q : Nat, lv = q := ⟨lv.toNat, by omega⟩
        have t1 : decide ((q : Int) < 0) = false := decide_eq_false (by omega)
        have t2 : decide ((st.L.length : Int) ≤ q) = false := decide_eq_false (by omega)
        have t3 : decide (st.L.length ≤ q) = false := decide_eq_false (by omega)
        have HPO := Lib.hid (pair_of hr h1.1 h1.2 hfa hfc)
        have HRS := Lib.hid (right_sizes hr)
        clear hra hrc hr hfa hfc h1
        go_enter Tryz.func26, Tryz.ntmps26
        go_wp2_with fail
        rw [← EW0.out]
        refine (rright15_any _ _ _ _ st S _ A _ HP0.out HWD.out HSH.out HA0.out HXA.out).mono ?_
        rintro e w1 ⟨rfl, hb⟩
        rw [HRA.out]
        have HB1 := Lib.hid hb
        obtain ⟨p0, p1, p2, p3, p4⟩ := obj5_cell HO0.out hb
        clear hb
        go_wp2_with fail
        refine (rright15_any _ _ _ _ st S _ C _ (HP0.out.below HB1.out) HWD.out HSH.out ((HC0.out.below HB1.out).mono HB1.out.size) HXC.out).mono ?_
        rintro e w2 ⟨rfl, hb⟩
        rw [HRC.out]
        have HB2 := Lib.hid (HB1.out.trans (hb.mono HB1.out.size))
        clear p0 p1 p2 p3 p4
        obtain ⟨p0, p1, p2, p3, p4⟩ := obj5_cell HO0.out HB2.out
        clear hb
        go_wp2_with fail
        have HA2 := Lib.hid ((HA0.out.below HB2.out).mono HB2.out.size)
        have HC2 := Lib.hid ((HC0.out.below HB2.out).mono HB2.out.size)
        have HP2 := Lib.hid (HP0.out.below HB2.out)
        have HO2 := Lib.hid ((HB2.out.block _ (heap_some_lt HO0.out)).trans HO0.out)
        have HNO := Lib.hid (fun j hj h1 h2 => alike_no (st := st) (S := S) (lv := q) (A := A) (C := C) (j := j) hj h1 h2)
        have HPR := Lib.hid (fun j => pair_rows HPO.out j)
        clear t1 t2 t3 p0 p1 p2 p3 p4
        go_loopw [9] (fun k wr => ∃ i d : Nat, i ≤ st.I.length ∧ k = .int .i64 (i : Int) ∧ RowKit.Hid (wr = w2.drewN d) ∧ RowKit.Hid (∀ j, j < i → (!seenAt st S q j || decide (rowAt A j = rowAt C j)) = true)) (fun k _ => st.I.length - (intOf k).toNat)
        case atStart => exact ⟨0, 0, by omega, rfl, Lib.hid rfl, Lib.hid (fun j hj => absurd hj (Nat.not_lt_zero _))⟩
        case round =>
          obtain ⟨i, d, hi, rfl, HW, HS⟩ := hrel
          have HBQ := Lib.hid (show Below w2.heap.size w2 wr by rw [HW.out]; exact QQ.dN (Below.refl _ _) d)
          obtain ⟨y0, y1, y2, y3, y4⟩ := obj5_cell HO2.out HBQ.out
          by_cases hlt : i < st.I.length
          · have HPW := Lib.hid (HP2.out.below HBQ.out)
            have HAW := Lib.hid ((HA2.out.below HBQ.out).mono HBQ.out.size)
            have HCW := Lib.hid ((HC2.out.below HBQ.out).mono HBQ.out.size)
            obtain ⟨vA, hvA, hcA⟩ := rrow_fix (.slice aa A.length ca) A wr.heap.size i wr HAW.out la (by omega)
            obtain ⟨vC, hvC, hcC⟩ := rrow_fix (.slice ac C.length cc) C wr.heap.size i wr HCW.out lc (by omega)
            obtain ⟨xa, xca, rfl⟩ := hvA.form
            obtain ⟨xc, xcc, rfl⟩ := hvC.form
            have HCA := Lib.hid hcA
            have HCC := Lib.hid hcC
            have HRWA := Lib.hid hvA
            have HRWC := Lib.hid hvC
            have b1 := (HPR.out i).1
            have b2 := (HPR.out i).2
            have hlv := HRS.out.2.2.2.2.2.1 i hlt
            obtain ⟨ln, el⟩ : ∃ ln : Nat, (chAt st.I i).2 = ln := ⟨(chAt st.I i).2.toNat, by omega⟩
            obtain ⟨cb, co, ea, _, c2⟩ := (HPW.out.s2).at hlt
            subst ea
            rw [el] at c2 hlv
            have HLN := Lib.hid (show ln < S.length by have := HRS.out.2.1; omega)
            have HNU := Lib.hid (show Nums .u64 wr.heap.size wr (.slice a1 S.length k1) S from HPW.out.s1)
            have HSA := Lib.hid (show seenAt st S q i = LL.ab S ln q by unfold seenAt lowB; rw [el]; rfl)
            have i1 : (0 : Int) ≤ i ∧ (i : Int) < st.I.length := by omega
            have HST := Lib.hid (fun (h : (!seenAt st S q i || decide (rowAt A i = rowAt C i)) = true) (j : Nat) (hj : j < i + 1) => (Nat.lt_succ_iff_lt_or_eq.1 hj).elim (HS.out j) (fun e => by rw [e]; exact h))
            have HNI := Lib.hid (HNO.out i hlt)
            obtain ⟨r, er⟩ : ∃ r, r = rowAt A i := ⟨_, rfl⟩
            obtain ⟨s, es⟩ : ∃ s, s = rowAt C i := ⟨_, rfl⟩
            rw [← er] at HCA HRWA b1 HST HNI
            rw [← es] at HCC HRWC b2 HST HNI
            clear hcA hcC hvA hvC hlv el er es
            cases hs : LL.ab S ln q
            · have HZ := Lib.hid hs
              have HSS := Lib.hid (HST.out (by rw [HSA.out, hs]; rfl))
              clear hs HST HNI
              go_wp2_with fail
              go_quiet ((go_at_call 41; exact abv_q0 HNU HWD HZ HLN.out _))
              go_wp2_with fail
              go_roundw
              case rel => exact ⟨i + 1, _, by omega, by go_num, Lib.hid (by rw [HW.out]; exact World.drewN_drewN _ _ _), HSS⟩
              case measure => simp [intOf]; omega
            · have HZ := Lib.hid hs
              cases hrs : decide (r = s)
              · have HR := Lib.hid hrs
                have HNN := Lib.hid (HNI.out (by rw [HSA.out]; exact hs) hrs)
                clear hs hrs HST HNI
                go_wp2_with fail
                go_quiet (first
                  | (go_at_call 41; exact abv_q0 HNU HWD HZ HLN.out _)
                  | (go_at_call 20; first | (with_reducible exact Calls.quiet_of_same (HCA.out _)) | (with_reducible exact Calls.quiet_of_same (HCC.out _)))
                  | (go_at_call 44; exact Calls.quiet_of ((same15_any _ _ r s wr.heap.size _ (HRWA.out.drewN _) (HRWC.out.drewN _) (by omega) (by omega)).mono fun e w' ⟨h1, h2⟩ => ⟨h1.trans (ret_bool HR.out), h2⟩)))
                go_wp2_with fail
                go_ret
                exact ⟨ret_bool HNN.out.symm, QQ.step HB0.out (HB2.out.trans ((QQ.dN HBQ.out _).mono HB2.out.size))⟩
              · have HR := Lib.hid hrs
                have HSS := Lib.hid (HST.out (by rw [hrs, Bool.or_true]))
                clear hs hrs HST HNI
                go_wp2_with fail
                go_quiet (first
                  | (go_at_call 41; exact abv_q0 HNU HWD HZ HLN.out _)
                  | (go_at_call 20; first | (with_reducible exact Calls.quiet_of_same (HCA.out _)) | (with_reducible exact Calls.quiet_of_same (HCC.out _)))
                  | (go_at_call 44; exact Calls.quiet_of ((same15_any _ _ r s wr.heap.size _ (HRWA.out.drewN _) (HRWC.out.drewN _) (by omega) (by omega)).mono fun e w' ⟨h1, h2⟩ => ⟨h1.trans (ret_bool HR.out), h2⟩)))
                go_wp2_with fail
                go_roundw
                case rel => exact ⟨i + 1, _, by omega, by go_num, Lib.hid (by rw [HW.out]; exact World.drewN_drewN _ _ _), HSS⟩
                case measure => simp [intOf]; omega
          · have HY := Lib.hid (show alikeB st S q A C = true from alike_yes HPO.out (fun j hj => HS.out j (by omega)))
            go_wp2_with fail
            go_ret
            exact ⟨ret_bool HY.out.symm, QQ.step HB0.out (HB2.out.trans (HBQ.out.mono HB2.out.size))⟩
      · have HN := Lib.hid (alike_off (pair_no3 (S := S) (A := A) (C := C) h1))
        have hlv : lv < 0 ∨ ¬ lv < 0 ∧ (st.L.length : Int) ≤ lv := by omega
        clear hra hrc hr hfa hfc h1
        rcases hlv with h2 | ⟨h2, h3⟩
        · have t1 : decide (lv < 0) = true := decide_eq_true h2
          clear h2
          go_enter Tryz.func26, Tryz.ntmps26
          go_wp2_with fail
          rw [← EW0.out]
          refine (rright15_any _ _ _ _ st S _ A _ HP0.out HWD.out HSH.out HA0.out HXA.out).mono ?_
          rintro e w1 ⟨rfl, hb⟩
          rw [HRA.out]
          have HB1 := Lib.hid hb
          obtain ⟨p0, p1, p2, p3, p4⟩ := obj5_cell HO0.out hb
          clear hb
          go_wp2_with fail
          refine (rright15_any _ _ _ _ st S _ C _ (HP0.out.below HB1.out) HWD.out HSH.out ((HC0.out.below HB1.out).mono HB1.out.size) HXC.out).mono ?_
          rintro e w2 ⟨rfl, hb⟩
          rw [HRC.out]
          have HB2 := Lib.hid hb
          clear hb p0 p1 p2 p3 p4
          go_wp2_with fail
          go_ret
          exact ⟨ret_bool HN.out.symm, QQ.step (QQ.step HB0.out HB1.out) HB2.out⟩
        · have t1 : decide (lv < 0) = false := decide_eq_false h2
          have t2 : decide ((st.L.length : Int) ≤ lv) = true := decide_eq_true h3
          clear h2 h3
          go_enter Tryz.func26, Tryz.ntmps26
          go_wp2_with fail
          rw [← EW0.out]
          refine (rright15_any _ _ _ _ st S _ A _ HP0.out HWD.out HSH.out HA0.out HXA.out).mono ?_
          rintro e w1 ⟨rfl, hb⟩
          rw [HRA.out]
          have HB1 := Lib.hid hb
          obtain ⟨p0, p1, p2, p3, p4⟩ := obj5_cell HO0.out hb
          clear hb
          go_wp2_with fail
          refine (rright15_any _ _ _ _ st S _ C _ (HP0.out.below HB1.out) HWD.out HSH.out ((HC0.out.below HB1.out).mono HB1.out.size) HXC.out).mono ?_
          rintro e w2 ⟨rfl, hb⟩
          rw [HRC.out]
          have HB2 := Lib.hid (HB1.out.trans (hb.mono HB1.out.size))
          clear p0 p1 p2 p3 p4
          obtain ⟨p0, p1, p2, p3, p4⟩ := obj5_cell HO0.out HB2.out
          clear hb
          go_wp2_with fail
          go_ret
          exact ⟨ret_bool HN.out.symm, QQ.step HB0.out HB2.out⟩
end Go.Proofs.YtopffoklhfpjpaaGreatDoor

/-! layer 15's reference: Mixed -/
namespace Go.Proofs.YtopffoklhfpjpaaGreatDoor
open Go.RowKit
def MixR (st : PSt) (S : List Int) (lv : Int) (A C : List (List Int)) (e : Ending) (w w' : World) : Prop :=
  Below w.heap.size w w' ∧ ((pairOkB st S lv A C = true ∧ ∃ v, e = .returned (.tuple #[v, .int .i64 0]) ∧ GraphM w'.heap.size w' v (mixL st S lv A C)) ∨ (pairOkB st S lv A C = false ∧ e = .returned (.tuple #[.slice none 0 0, .int .i64 1])))

set_option maxRecDepth 100000 in
set_option maxHeartbeats 6400000 in
theorem rmixed_any (v0 v1 v2 v3 : Value) (st : PSt) (S : List Int) (lv : Int) (a c : Value) (A C : List (List Int)) (w : World) (h : PolIn w v0 v1 v2 v3 st S) (hw : Wide S) (hsh : Short9 st)
    (ha : GraphM w.heap.size w a A) (hc : GraphM w.heap.size w c C) (hxA : Small A) (hxC : Small C) :
    Calls Tryz.prog 24 #[.agg #[v0, v1, v2, v3, .int .i64 st.D], .int .i64 lv, a, c] w fun e w' => MixR st S lv A C e w w' := by
  obtain ⟨a0, k0, rfl⟩ := h.s0.form
  obtain ⟨a1, k1, rfl⟩ := h.s1.form
  obtain ⟨a2, k2, rfl⟩ := h.s2.form
  obtain ⟨a3, k3, rfl⟩ := h.s3.form
  obtain ⟨aa, ca, rfl⟩ := ha.form
  obtain ⟨ac, cc, rfl⟩ := hc.form
  obtain ⟨W0, eW0⟩ : ∃ W0, W0 = w.alloc (.cells #[.slice a0 st.L.length k0, .slice a1 S.length k1, .slice a2 st.I.length k2, .slice a3 st.O.length k3, .int .i64 st.D] 26) := ⟨_, rfl⟩
  have HB0 := Lib.hid (show Below w.heap.size w W0 by rw [eW0]; exact (Below.refl _ _).alloc (Nat.le_refl _) _)
  have HO0 := Lib.hid (show W0.heap[w.heap.size]? = some (.cells #[.slice a0 st.L.length k0, .slice a1 S.length k1, .slice a2 st.I.length k2, .slice a3 st.O.length k3, .int .i64 st.D] 26) by rw [eW0]; exact new_block rfl rfl)
  have HP0 := Lib.hid (h.below HB0.out)
  have HA0 := Lib.hid ((ha.below HB0.out).mono HB0.out.size)
  have HC0 := Lib.hid ((hc.below HB0.out).mono HB0.out.size)
  have HSH := Lib.hid hsh
  have HWD := Lib.hid hw
  have EW0 := Lib.hid eW0
  have HXA := Lib.hid hxA
  have HXC := Lib.hid hxC
  have la := hxA.1
  have lc := hxC.1
  clear h hsh hw eW0 ha hc hxA hxC
  cases hra : (rightP st S && fillOk st.I.length A)
  · have HRA := Lib.hid hra
    have HN := Lib.hid (pair_no1 (lv := lv) (C := C) hra)
    clear hra
    go_enter Tryz.func24, Tryz.ntmps24
    go_wp2_with fail
    rw [← EW0.out]
    refine (rright15_any _ _ _ _ st S _ A _ HP0.out HWD.out HSH.out HA0.out HXA.out).mono ?_
    rintro e w1 ⟨rfl, hb⟩
    rw [HRA.out]
    have HB1 := Lib.hid hb
    clear hb
    go_wp2_with fail
    go_ret2
    exact ⟨QQ.step HB0.out HB1.out, .inr ⟨HN.out, rfl⟩⟩
  · have HRA := Lib.hid hra
    have hr : rightP st S = true := by rw [Bool.and_eq_true] at hra; exact hra.1
    have hfa : fillOk st.I.length A = true := by rw [Bool.and_eq_true] at hra; exact hra.2
    cases hrc : (rightP st S && fillOk st.I.length C)
    · have HRC := Lib.hid hrc
      have HN := Lib.hid (pair_no2 (lv := lv) (A := A) hrc)
      clear hra hrc hr hfa
      go_enter Tryz.func24, Tryz.ntmps24
      go_wp2_with fail
      rw [← EW0.out]
      refine (rright15_any _ _ _ _ st S _ A _ HP0.out HWD.out HSH.out HA0.out HXA.out).mono ?_
      rintro e w1 ⟨rfl, hb⟩
      rw [HRA.out]
      have HB1 := Lib.hid hb
      obtain ⟨p0, p1, p2, p3, p4⟩ := obj5_cell HO0.out hb
      clear hb
      go_wp2_with fail
      refine (rright15_any _ _ _ _ st S _ C _ (HP0.out.below HB1.out) HWD.out HSH.out ((HC0.out.below HB1.out).mono HB1.out.size) HXC.out).mono ?_
      rintro e w2 ⟨rfl, hb⟩
      rw [HRC.out]
      have HB2 := Lib.hid hb
      clear hb p0 p1 p2 p3 p4
      go_wp2_with fail
      go_ret2
      exact ⟨QQ.step (QQ.step HB0.out HB1.out) HB2.out, .inr ⟨HN.out, rfl⟩⟩
    · have HRC := Lib.hid hrc
      have hfc : fillOk st.I.length C = true := by rw [Bool.and_eq_true] at hrc; exact hrc.2
      have l64 := (right_sizes hr).1
      have i32 := (right_sizes hr).2.2.1
      by_cases h1 : 0 ≤ lv ∧ lv < st.L.length
      · obtain ⟨q, rfl⟩ : ∃ q : Nat, lv = q := ⟨lv.toNat, by omega⟩
        have t1 : decide ((q : Int) < 0) = false := decide_eq_false (by omega)
        have t2 : decide ((st.L.length : Int) ≤ q) = false := decide_eq_false (by omega)
        have t3 : decide (st.L.length ≤ q) = false := decide_eq_false (by omega)
        have HPO := Lib.hid (pair_of hr h1.1 h1.2 hfa hfc)
        have HRS := Lib.hid (right_sizes hr)
        clear hra hrc hr hfa hfc h1
        go_enter Tryz.func24, Tryz.ntmps24
        go_wp2_with fail
        rw [← EW0.out]
        refine (rright15_any _ _ _ _ st S _ A _ HP0.out HWD.out HSH.out HA0.out HXA.out).mono ?_
        rintro e w1 ⟨rfl, hb⟩
        rw [HRA.out]
        have HB1 := Lib.hid hb
        obtain ⟨p0, p1, p2, p3, p4⟩ := obj5_cell HO0.out hb
        clear hb
        go_wp2_with fail
        refine (rright15_any _ _ _ _ st S _ C _ (HP0.out.below HB1.out) HWD.out HSH.out ((HC0.out.below HB1.out).mono HB1.out.size) HXC.out).mono ?_
        rintro e w2 ⟨rfl, hb⟩
        rw [HRC.out]
        have HB2 := Lib.hid (HB1.out.trans (hb.mono HB1.out.size))
        clear p0 p1 p2 p3 p4
        obtain ⟨p0, p1, p2, p3, p4⟩ := obj5_cell HO0.out HB2.out
        clear hb
        go_wp2_with fail
        have HA2 := Lib.hid ((HA0.out.below HB2.out).mono HB2.out.size)
        have HC2 := Lib.hid ((HC0.out.below HB2.out).mono HB2.out.size)
        have HP2 := Lib.hid (HP0.out.below HB2.out)
        have HO2 := Lib.hid ((HB2.out.block _ (heap_some_lt HO0.out)).trans HO0.out)
        have HPR := Lib.hid (fun j => pair_rows HPO.out j)
        obtain ⟨i0, hi0, hz0, hz1, hz2⟩ := info_parts Tryz.infoQInt
        obtain ⟨j0, hj0, hy0, hy1, hy2⟩ := info_parts Tryz.infoQRow
        clear t1 t2 t3 p0 p1 p2 p3 p4
        go_loopw [10, 11] (fun o k wr => ∃ (i : Nat) (vs : List Value), i ≤ st.I.length ∧ k = .int .i64 (i : Int) ∧ wr.ownsRow w2.heap.size 29 1 o i vs ∧ QQ.Rows w2.heap.size wr vs ((mixL st S q A C).take i) ∧ Below w2.heap.size w2 wr) (fun _ k _ => st.I.length - (intOf k).toNat)
        case atStart => exact ⟨0, [], by omega, rfl, World.ownsRow_nil _ _ _ _, QQ.Rows.nil _ _, Below.refl _ _⟩
        case round =>
          obtain ⟨i, vs, hi, rfl, hO, hR, hB⟩ := hrel
          have HO := Lib.hid hO
          have HR := Lib.hid hR
          have HBQ := Lib.hid hB
          clear hO hR hB
          obtain ⟨y0, y1, y2, y3, y4⟩ := obj5_cell HO2.out HBQ.out
          by_cases hlt : i < st.I.length
          · have HPW := Lib.hid (HP2.out.below HBQ.out)
            have HAW := Lib.hid ((HA2.out.below HBQ.out).mono HBQ.out.size)
            have HCW := Lib.hid ((HC2.out.below HBQ.out).mono HBQ.out.size)
            have hlv := HRS.out.2.2.2.2.2.1 i hlt
            obtain ⟨ln, el⟩ : ∃ ln : Nat, (chAt st.I i).2 = ln := ⟨(chAt st.I i).2.toNat, by omega⟩
            obtain ⟨cb, co, ea, _, c2⟩ := (HPW.out.s2).at hlt
            subst ea
            rw [el] at c2 hlv
            have HLN := Lib.hid (show ln < S.length by have := HRS.out.2.1; omega)
            have HNU := Lib.hid (show Nums .u64 wr.heap.size wr (.slice a1 S.length k1) S from HPW.out.s1)
            have HSA := Lib.hid (show seenAt st S q i = LL.ab S ln q by unfold seenAt lowB; rw [el]; rfl)
            have i1 : (0 : Int) ≤ i ∧ (i : Int) < st.I.length := by omega
            have HTK := Lib.hid (show (mixL st S q A C).take i ++ [mixAt st S q A C i] = (mixL st S q A C).take (i + 1) by
              rw [List.take_succ_eq_append_getElem (by simp [mixL]; exact hlt)]; simp [mixL])
            have b3 := mix_len HPO.out i
            clear hlv el
            cases hs : LL.ab S ln q
            · have HZ := Lib.hid hs
              have HME := Lib.hid (show mixAt st S q A C i = rowAt C i by unfold mixAt; rw [HSA.out, hs]; rfl)
              clear hs
              go_wp2_with fail
              go_quiet ((go_at_call 41; exact abv_q0 HNU HWD HZ HLN.out _))
              rename_i nq
              obtain ⟨wq, hwq⟩ : ∃ wq, wq = wr.drewN nq := ⟨_, rfl⟩
              have HBW := Lib.hid (show Below w2.heap.size w2 wq by rw [hwq]; exact QQ.dN HBQ.out nq)
              have HOW := Lib.hid (show wq.ownsRow w2.heap.size 29 1 u10 i vs by rw [hwq]; exact own_of_block HO.out (fun k _ => by rw [drewN_heap]))
              have HRW := Lib.hid (show QQ.Rows w2.heap.size wq vs ((mixL st S q A C).take i) by rw [hwq]; exact ⟨HR.out.1, fun j hj => by obtain ⟨r, e, g⟩ := HR.out.2 j hj; exact ⟨r, e, own_of_block g (fun k _ => by rw [drewN_heap])⟩⟩)
              have HGW := Lib.hid (show GraphM wq.heap.size wq (.slice ac C.length cc) C by rw [hwq]; exact (HCW.out.drewN nq).mono (by rw [drewN_heap]; exact Nat.le_refl _))
              rw [← hwq]
              clear hwq y0 y1 y2 y3 y4 c2
              have hal : Below wq.heap.size wq (wq.alloc (.cells #[] 2)) := (Below.refl _ _).alloc (Nat.le_refl _) _
              obtain ⟨vA, hvA, hcA⟩ := rrow_fix (.slice ac C.length cc) C wq.heap.size i (wq.alloc (.cells #[] 2)) (HGW.out.below hal) lc (by omega)
              obtain ⟨xa, xca, rfl⟩ := hvA.form
              have HCA := Lib.hid (hcA 0)
              have HSRC := Lib.hid (Cells.src hvA)
              rw [HME.out] at HTK b3
              obtain ⟨r, er⟩ : ∃ r, r = rowAt C i := ⟨_, rfl⟩
              rw [← er] at HCA HSRC HTK b3
              clear hal hvA hcA er HME
              go_wp2_with (first
                | (go_at_call 20; refine HCA.out.mono ?_; rintro e w4 ⟨rfl, rfl⟩)
                | (at_builtin
                   go_loud (
                   refine wpList_append_any rfl _ _ 29 rfl w2.heap.size 2 i0 (.int .i64 0) 1 8 Tryz.underlying29 hi0 hz0 hz1 hz2 rfl (by decide) (.slice (some ⟨wq.heap.size, 0, none⟩) 0 0) 0 [] rfl (QQ.litRow wq HBW.out.size (by decide) rfl) (.slice xa r.length xca) r.length (intsV r) rfl (by rw [intsV_len, Nat.mul_one]) (by have h := HSRC.out; rw [intsV_len] at h; exact h) (QQ.oneInts r) (by unfold maxLen; omega) (by omega) (by have := HBW.out.size; simp; omega) ?_
                   intro v5 w5 ho hg
                   have ho := QQ.own00 ho
                   obtain ⟨va, vc, rfl⟩ := QQ.ownOf ho
                   have HC := Lib.hid (QQ.copy_in HBW.out HRW.out HOW.out HBW.out.size ho hg)
                   clear ho hg))
                | (at_builtin
                   go_loud (
                   refine wpList_append_any rfl _ _ 27 rfl w2.heap.size 29 j0 (.slice none 0 0) 1 24 Tryz.underlying27 hj0 hy0 hy1 hy2 rfl (by decide) u10 i vs rfl (HC.out.2.1.alloc _) (.slice (some ⟨w5.heap.size, 0, none⟩) 1 1) 1 [.slice va r.length vc] rfl rfl (.inr ⟨_, _, rfl, QQ.cellOne _ _ _ rfl⟩) (by intro u hu; rw [List.mem_singleton.1 hu]; rfl) (by unfold maxLen; omega) (by omega) (by have := HC.out.2.2.2; simp; omega) ?_
                   intro v6 w6 ho hg
                   have HD := Lib.hid (show w6.ownsRow w2.heap.size 29 1 v6 (i + 1) (vs ++ [.slice va r.length vc]) ∧ QQ.Rows w2.heap.size w6 (vs ++ [.slice va r.length vc]) ((mixL st S q A C).take (i + 1)) ∧ Below w2.heap.size w2 w6 from ⟨ho, by rw [← HTK.out]; exact (HC.out.1.alloc _).kept (HC.out.2.1.alloc _) (by decide) hg, (HC.out.2.2.1.alloc HC.out.2.2.2 _).grown hg (by have := HC.out.2.2.2; simp; omega) (fun k e => (HC.out.2.1.lt k e).1)⟩)
                   clear ho hg)))
              go_roundw
              case rel => exact ⟨i + 1, _, by omega, by go_num, HD.out.1, HD.out.2.1, HD.out.2.2⟩
              case measure => simp [intOf]; omega
            · have HZ := Lib.hid hs
              have HME := Lib.hid (show mixAt st S q A C i = rowAt A i by unfold mixAt; rw [HSA.out, hs]; rfl)
              clear hs
              go_wp2_with fail
              go_quiet ((go_at_call 41; exact abv_q0 HNU HWD HZ HLN.out _))
              rename_i nq
              obtain ⟨wq, hwq⟩ : ∃ wq, wq = wr.drewN nq := ⟨_, rfl⟩
              have HBW := Lib.hid (show Below w2.heap.size w2 wq by rw [hwq]; exact QQ.dN HBQ.out nq)
              have HOW := Lib.hid (show wq.ownsRow w2.heap.size 29 1 u10 i vs by rw [hwq]; exact own_of_block HO.out (fun k _ => by rw [drewN_heap]))
              have HRW := Lib.hid (show QQ.Rows w2.heap.size wq vs ((mixL st S q A C).take i) by rw [hwq]; exact ⟨HR.out.1, fun j hj => by obtain ⟨r, e, g⟩ := HR.out.2 j hj; exact ⟨r, e, own_of_block g (fun k _ => by rw [drewN_heap])⟩⟩)
              have HGW := Lib.hid (show GraphM wq.heap.size wq (.slice aa A.length ca) A by rw [hwq]; exact (HAW.out.drewN nq).mono (by rw [drewN_heap]; exact Nat.le_refl _))
              rw [← hwq]
              clear hwq y0 y1 y2 y3 y4 c2
              have hal : Below wq.heap.size wq (wq.alloc (.cells #[] 2)) := (Below.refl _ _).alloc (Nat.le_refl _) _
              obtain ⟨vA, hvA, hcA⟩ := rrow_fix (.slice aa A.length ca) A wq.heap.size i (wq.alloc (.cells #[] 2)) (HGW.out.below hal) la (by omega)
              obtain ⟨xa, xca, rfl⟩ := hvA.form
              have HCA := Lib.hid (hcA 0)
              have HSRC := Lib.hid (Cells.src hvA)
              rw [HME.out] at HTK b3
              obtain ⟨r, er⟩ : ∃ r, r = rowAt A i := ⟨_, rfl⟩
              rw [← er] at HCA HSRC HTK b3
              clear hal hvA hcA er HME
              go_wp2_with (first
                | (go_at_call 20; refine HCA.out.mono ?_; rintro e w4 ⟨rfl, rfl⟩)
                | (at_builtin
                   go_loud (
                   refine wpList_append_any rfl _ _ 29 rfl w2.heap.size 2 i0 (.int .i64 0) 1 8 Tryz.underlying29 hi0 hz0 hz1 hz2 rfl (by decide) (.slice (some ⟨wq.heap.size, 0, none⟩) 0 0) 0 [] rfl (QQ.litRow wq HBW.out.size (by decide) rfl) (.slice xa r.length xca) r.length (intsV r) rfl (by rw [intsV_len, Nat.mul_one]) (by have h := HSRC.out; rw [intsV_len] at h; exact h) (QQ.oneInts r) (by unfold maxLen; omega) (by omega) (by have := HBW.out.size; simp; omega) ?_
                   intro v5 w5 ho hg
                   have ho := QQ.own00 ho
                   obtain ⟨va, vc, rfl⟩ := QQ.ownOf ho
                   have HC := Lib.hid (QQ.copy_in HBW.out HRW.out HOW.out HBW.out.size ho hg)
                   clear ho hg))
                | (at_builtin
                   go_loud (
                   refine wpList_append_any rfl _ _ 27 rfl w2.heap.size 29 j0 (.slice none 0 0) 1 24 Tryz.underlying27 hj0 hy0 hy1 hy2 rfl (by decide) u10 i vs rfl (HC.out.2.1.alloc _) (.slice (some ⟨w5.heap.size, 0, none⟩) 1 1) 1 [.slice va r.length vc] rfl rfl (.inr ⟨_, _, rfl, QQ.cellOne _ _ _ rfl⟩) (by intro u hu; rw [List.mem_singleton.1 hu]; rfl) (by unfold maxLen; omega) (by omega) (by have := HC.out.2.2.2; simp; omega) ?_
                   intro v6 w6 ho hg
                   have HD := Lib.hid (show w6.ownsRow w2.heap.size 29 1 v6 (i + 1) (vs ++ [.slice va r.length vc]) ∧ QQ.Rows w2.heap.size w6 (vs ++ [.slice va r.length vc]) ((mixL st S q A C).take (i + 1)) ∧ Below w2.heap.size w2 w6 from ⟨ho, by rw [← HTK.out]; exact (HC.out.1.alloc _).kept (HC.out.2.1.alloc _) (by decide) hg, (HC.out.2.2.1.alloc HC.out.2.2.2 _).grown hg (by have := HC.out.2.2.2; simp; omega) (fun k e => (HC.out.2.1.lt k e).1)⟩)
                   clear ho hg)))
              go_roundw
              case rel => exact ⟨i + 1, _, by omega, by go_num, HD.out.1, HD.out.2.1, HD.out.2.2⟩
              case measure => simp [intOf]; omega
          · have HS := Lib.hid (show i = st.I.length ∧ (mixL st S q A C).take i = mixL st S q A C from ⟨by omega, List.take_of_length_le (by simp [mixL]; omega)⟩)
            have HE := Lib.hid (show GraphM wr.heap.size wr u10 (mixL st S q A C) by
              have h1 := HR.out
              have h2 := HO.out
              rw [HS.out.2] at h1
              rw [HS.out.1] at h2
              exact h1.graph (by rw [show (mixL st S q A C).length = st.I.length by simp [mixL]]; exact h2))
            go_wp2_with fail
            go_ret2
            exact ⟨QQ.step HB0.out (HB2.out.trans (HBQ.out.mono HB2.out.size)), .inl ⟨HPO.out, _, rfl, HE.out⟩⟩
      · have HN := Lib.hid (pair_no3 (S := S) (A := A) (C := C) h1)
        have hlv : lv < 0 ∨ ¬ lv < 0 ∧ (st.L.length : Int) ≤ lv := by omega
        clear hra hrc hr hfa hfc h1
        rcases hlv with h2 | ⟨h2, h3⟩
        · have t1 : decide (lv < 0) = true := decide_eq_true h2
          clear h2
          go_enter Tryz.func24, Tryz.ntmps24
          go_wp2_with fail
          rw [← EW0.out]
          refine (rright15_any _ _ _ _ st S _ A _ HP0.out HWD.out HSH.out HA0.out HXA.out).mono ?_
          rintro e w1 ⟨rfl, hb⟩
          rw [HRA.out]
          have HB1 := Lib.hid hb
          obtain ⟨p0, p1, p2, p3, p4⟩ := obj5_cell HO0.out hb
          clear hb
          go_wp2_with fail
          refine (rright15_any _ _ _ _ st S _ C _ (HP0.out.below HB1.out) HWD.out HSH.out ((HC0.out.below HB1.out).mono HB1.out.size) HXC.out).mono ?_
          rintro e w2 ⟨rfl, hb⟩
          rw [HRC.out]
          have HB2 := Lib.hid hb
          clear hb p0 p1 p2 p3 p4
          go_wp2_with fail
          go_ret2
          exact ⟨QQ.step (QQ.step HB0.out HB1.out) HB2.out, .inr ⟨HN.out, rfl⟩⟩
        · have t1 : decide (lv < 0) = false := decide_eq_false h2
          have t2 : decide ((st.L.length : Int) ≤ lv) = true := decide_eq_true h3
          clear h2 h3
          go_enter Tryz.func24, Tryz.ntmps24
          go_wp2_with fail
          rw [← EW0.out]
          refine (rright15_any _ _ _ _ st S _ A _ HP0.out HWD.out HSH.out HA0.out HXA.out).mono ?_
          rintro e w1 ⟨rfl, hb⟩
          rw [HRA.out]
          have HB1 := Lib.hid hb
          obtain ⟨p0, p1, p2, p3, p4⟩ := obj5_cell HO0.out hb
          clear hb
          go_wp2_with fail
          refine (rright15_any _ _ _ _ st S _ C _ (HP0.out.below HB1.out) HWD.out HSH.out ((HC0.out.below HB1.out).mono HB1.out.size) HXC.out).mono ?_
          rintro e w2 ⟨rfl, hb⟩
          rw [HRC.out]
          have HB2 := Lib.hid (HB1.out.trans (hb.mono HB1.out.size))
          clear p0 p1 p2 p3 p4
          obtain ⟨p0, p1, p2, p3, p4⟩ := obj5_cell HO0.out HB2.out
          clear hb
          go_wp2_with fail
          go_ret2
          exact ⟨QQ.step HB0.out HB2.out, .inr ⟨HN.out, rfl⟩⟩
end Go.Proofs.YtopffoklhfpjpaaGreatDoor
