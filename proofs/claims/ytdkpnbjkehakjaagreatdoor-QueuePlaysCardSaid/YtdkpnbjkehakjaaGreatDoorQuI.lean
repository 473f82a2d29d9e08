import Derived.Test.YtdkpnbjkehakjaaGreatDoorQuS
import Derived.Test.YtdkpnbjkehakjaaGreatDoorPrnG
import Derived.Deep.RegionHeld3
import Derived.Test.YtdkpnbjkehakjaaGreatDoorWQueueMixes
set_option linter.unusedSimpArgs false
set_option linter.unusedVariables false
/-! layer 15's reference: Right, Sees, Seen -/
namespace Go.Proofs.YtdkpnbjkehakjaaGreatDoor
open Go.RowKit
/-- the sizes of a policy's texts -/
structure Short9 (st : PSt) : Prop where
  l : ∀ j, j < st.L.length → (wd6 st.L j).size ≤ 140737488351232
  i : ∀ j, j < st.I.length → (chAt st.I j).1.size ≤ 140737488351232
  o : ∀ j, j < st.O.length → (chAt st.O j).1.size ≤ 140737488351232
theorem Short9.six {st : PSt} (h : Short9 st) : Short6 st := ⟨fun j hj => Nat.le_trans (h.l j hj) (by decide), fun j hj => Nat.le_trans (h.i j hj) (by decide), fun j hj => Nat.le_trans (h.o j hj) (by decide)⟩

set_option maxRecDepth 100000 in
set_option maxHeartbeats 3200000 in
theorem rright15_any (v0 v1 v2 v3 : Value) (st : PSt) (S : List Int) (a : Value) (A : List (List Int)) (w : World) (h : PolIn w v0 v1 v2 v3 st S) (hw : Wide S) (hsh : Short9 st) (ha : GraphM w.heap.size w a A) (hx : Small A) :
    Calls Tryz.prog 20 #[.agg #[v0, v1, v2, v3, .int .i64 st.D], a] w fun e w' => e = .returned (.bool (rightP st S && fillOk st.I.length A)) ∧ Below w.heap.size w w' := by
  obtain ⟨a0, k0, rfl⟩ := h.s0.form
  obtain ⟨a1, k1, rfl⟩ := h.s1.form
  obtain ⟨a2, k2, rfl⟩ := h.s2.form
  obtain ⟨a3, k3, rfl⟩ := h.s3.form
  obtain ⟨aa, ca, rfl⟩ := ha.form
  obtain ⟨W0, eW0⟩ : ∃ W0, W0 = w.alloc (.cells #[.slice a0 st.L.length k0, .slice a1 S.length k1, .slice a2 st.I.length k2, .slice a3 st.O.length k3, .int .i64 st.D] 26) := ⟨_, rfl⟩
  have HB0 := Lib.hid (show Below w.heap.size w W0 by rw [eW0]; exact (Below.refl _ _).alloc (Nat.le_refl _) _)
  have HO0 := Lib.hid (show W0.heap[w.heap.size]? = some (.cells #[.slice a0 st.L.length k0, .slice a1 S.length k1, .slice a2 st.I.length k2, .slice a3 st.O.length k3, .int .i64 st.D] 26) by rw [eW0]; exact new_block rfl rfl)
  have HP0 := Lib.hid (h.below HB0.out)
  have HSH := Lib.hid hsh
  have HWD := Lib.hid hw
  have EW0 := Lib.hid eW0
  have HA := Lib.hid ha
  have HX := Lib.hid hx
  have hx0 := hx.1
  have hI := h.l2
  clear h hsh hw eW0 ha hx
  cases hr : rightP st S
  · have HR := Lib.hid hr
    clear hr
    go_enter Tryz.func20, Tryz.ntmps20
    go_wp2_with (go_at_call 30; rw [← EW0.out]; refine (rright6_any _ _ _ _ st S _ HP0.out HWD.out HSH.out.l HSH.out.i HSH.out.o).mono ?_; rintro e w1 ⟨rfl, hb⟩; rw [HR.out]; have HB1 := Lib.hid hb; clear hb)
    go_ret
    exact ⟨rfl, QQ.step HB0.out HB1.out⟩
  · have HR := Lib.hid hr
    clear hr
    by_cases h0 : st.I.length < A.length
    · have t1 : decide (st.I.length < A.length) = true := decide_eq_true h0
      have t2 : decide ((st.I.length : Int) < (A.length : Int)) = true := decide_eq_true (by omega)
      have HF := Lib.hid (show fillOk st.I.length A = false by unfold fillOk; rw [decide_eq_false (by omega)]; rfl)
      clear h0
      go_enter Tryz.func20, Tryz.ntmps20
      go_wp2_with (go_at_call 30; rw [← EW0.out]; refine (rright6_any _ _ _ _ st S _ HP0.out HWD.out HSH.out.l HSH.out.i HSH.out.o).mono ?_; rintro e w1 ⟨rfl, hb⟩; rw [HR.out]; have HB1 := Lib.hid hb; obtain ⟨p0, p1, p2, p3, p4⟩ := obj5_cell HO0.out hb; clear hb)
      go_ret
      exact ⟨ret_bool (by rw [HF.out]; rfl), QQ.step HB0.out HB1.out⟩
    · have t1 : decide (st.I.length < A.length) = false := decide_eq_false h0
      have t2 : decide ((st.I.length : Int) < (A.length : Int)) = false := decide_eq_false (by omega)
      have h0' : A.length ≤ st.I.length := by omega
      clear h0
      go_enter Tryz.func20, Tryz.ntmps20
      go_wp2_with (go_at_call 30; rw [← EW0.out]; refine (rright6_any _ _ _ _ st S _ HP0.out HWD.out HSH.out.l HSH.out.i HSH.out.o).mono ?_; rintro e w1 ⟨rfl, hb⟩; rw [HR.out]; have HB1 := Lib.hid hb; obtain ⟨p0, p1, p2, p3, p4⟩ := obj5_cell HO0.out hb; clear hb)
      have HA1 := Lib.hid (HA.out.below (QQ.step HB0.out HB1.out))
      clear t1 t2 p0 p1 p2 p3 p4
      go_loopw [5] (fun k wr => ∃ i : Nat, i ≤ A.length ∧ k = .int .i64 (i : Int) ∧ RowKit.Hid (wr = w1) ∧ RowKit.Hid (∀ j, j < i → (rowAt A j).length ≤ 4096)) (fun k _ => A.length - (intOf k).toNat)
      case atStart => exact ⟨0, by omega, rfl, Lib.hid rfl, Lib.hid (fun j hj => absurd hj (Nat.not_lt_zero _))⟩
      case round =>
        obtain ⟨i, hi, rfl, HW, HS⟩ := hrel
        by_cases hlt : i < A.length
        · have HA2 := Lib.hid (show GraphM w.heap.size wr (.slice aa A.length ca) A by rw [HW.out]; exact HA1.out)
          obtain ⟨xb, xo, xc, e1⟩ := HA2.out.addr (by omega)
          cases e1
          obtain ⟨ra, rac, hx1, hrx⟩ := HA2.out.at hlt
          have i1 : (0 : Int) ≤ i ∧ (i : Int) < A.length := by omega
          have HNO := Lib.hid (fun h => fill_no (n := st.I.length) hlt h)
          have HSN := Lib.hid (fun (h : (rowAt A i).length ≤ 4096) (j : Nat) (hj : j < i + 1) => (Nat.lt_succ_iff_lt_or_eq.1 hj).elim (HS.out j) (fun e => by rw [e]; exact h))
          have b1 := HX.out.row i
          obtain ⟨r, er⟩ : ∃ r, r = rowAt A i := ⟨_, rfl⟩
          change wr.cell? _ = some (.slice ra (rowAt A i).length rac) at hx1
          change (rowAt A i).length ≤ _ at b1
          rw [← er] at hx1 HNO HSN b1
          clear er hrx
          by_cases hr : 4096 < r.length
          · have t2 : decide (4096 < r.length) = true := decide_eq_true hr
            have t3 : decide ((4096 : Int) < (r.length : Int)) = true := decide_eq_true (by omega)
            have HN := Lib.hid (HNO.out hr)
            clear hr
            go_wp2_with fail
            go_ret
            exact ⟨ret_bool (by rw [HN.out, Bool.and_false]), by rw [HW.out]; exact QQ.step HB0.out HB1.out⟩
          · have t2 : decide (4096 < r.length) = false := decide_eq_false hr
            have t3 : decide ((4096 : Int) < (r.length : Int)) = false := decide_eq_false (by omega)
            have HSS := Lib.hid (HSN.out (by omega))
            clear hr
            go_wp2_with fail
            go_roundw
            case rel => exact ⟨i + 1, by omega, by go_num, HW, HSS⟩
            case measure => simp [intOf]; omega
        · have HF := Lib.hid (show fillOk st.I.length A = true from fill_yes h0' (fun j hj => HS.out j (by omega)))
          go_wp2_with fail
          go_ret
          exact ⟨ret_bool (by rw [HF.out]; rfl), by rw [HW.out]; exact QQ.step HB0.out HB1.out⟩
end Go.Proofs.YtdkpnbjkehakjaaGreatDoor

/-! layer 15's reference: Sees, Seen, Alike, Mixed -/
namespace Go.Proofs.YtdkpnbjkehakjaaGreatDoor
open Go.RowKit
theorem rrow_fix (a : Value) (A : List (List Int)) (n i : Nat) (W : World) (ha : GraphM n W a A) (hl : A.length ≤ 17592186044416) (hi : i ≤ 17592186044416) :
    ∃ v, Row n W v (rowAt A i) ∧ ∀ d, Calls Tryz.prog 24 #[a, .int .i64 i] (W.drewN d) fun e w' => e = .returned v ∧ w' = W.drewN d := by
  obtain ⟨aa, ca, rfl⟩ := ha.form
  have t1 : decide ((i : Int) < 0) = false := decide_eq_false (by omega)
  by_cases h1 : A.length ≤ i
  · refine ⟨.slice none 0 0, by unfold rowAt; rw [List.getElem?_eq_none h1]; exact cells_empty _ _ _ _ (fun _ => rfl), fun d => ?_⟩
    have t2 : decide ((A.length : Int) ≤ i) = true := decide_eq_true (by omega)
    have t3 : decide (A.length ≤ i) = true := decide_eq_true (by omega)
    clear ha
    go_enter Tryz.func24, Tryz.ntmps24
    go_wp2_with fail
    go_ret
    exact ⟨rfl, rfl⟩
  · have t2 : decide ((A.length : Int) ≤ i) = false := decide_eq_false (by omega)
    have t3 : decide (A.length ≤ i) = false := decide_eq_false h1
    obtain ⟨xb, xo, xc, e1⟩ := ha.addr (by omega)
    cases e1
    obtain ⟨ra, rac, hx1, hrx⟩ := ha.at (show i < A.length by omega)
    refine ⟨_, hrx, fun d => ?_⟩
    have hx2 : (W.drewN d).cell? ⟨xb, xo + i, none⟩ = some (.slice ra (A[i]?.getD []).length rac) := (World.cell?_of_block (by rw [drewN_heap])).trans hx1
    have i1 : (0 : Int) ≤ i ∧ (i : Int) < A.length := by omega
    clear ha hx1 hrx
    go_enter Tryz.func24, Tryz.ntmps24
    go_wp2_with fail
    go_ret
    exact ⟨rfl, rfl⟩
/-- the level at which an event is told -/
def evLev (O : List (ByteArray × Int)) (e : Ev) : Nat := if e.k = 1 then (chAt O e.r.toNat).2.toNat else e.r.toNat
theorem picks_ref (nL : Nat) (O : List (ByteArray × Int)) (S : List Int) (q : Nat) (kd : Int) (e : Ev) : picksB nL O (lowB S q) kd e = (decide (e.k = kd) && (allowB O.length nL e.k e.r e.f e.a && LL.ab S (evLev O e) q)) := by
  unfold picksB evLev lowB
  by_cases h : e.k = kd
  · subst h
    by_cases h1 : e.k = 1
    · rw [if_pos h1, if_pos h1]; rfl
    · rw [if_neg h1, if_neg h1]; rfl
  · rw [decide_eq_false h]; rfl
theorem allow_ref {nO nL k r f a : Int} (h : allowB nO nL k r f a = true) : 0 ≤ r ∧ r < (if k = 1 then nO else if k = 2 then nL else 0) := by
  unfold allowB at h
  simp only [Bool.and_eq_true, decide_eq_true_eq] at h
  exact ⟨h.1.1.1, h.1.1.2⟩

theorem seen_held {W0 V : World} {p b o : Nat} {v0 v1 v2 v3 d : Value} {t : TypeId} {x : Ev} (h : W0.heap[p]? = some (.cells #[v0, v1, v2, v3, d] t)) (hc : ∀ k u, (evC x)[k]? = some u → W0.cell? ⟨b, o + k, none⟩ = some u) (hb : b < W0.heap.size) (hB : Below W0.heap.size W0 V) :
    Below W0.heap.size W0 V ∧ V.cell? ⟨p, 0, none⟩ = some v0 ∧ V.cell? ⟨p, 1, none⟩ = some v1 ∧ V.cell? ⟨p, 2, none⟩ = some v2 ∧ V.cell? ⟨p, 3, none⟩ = some v3 ∧ V.cell? ⟨p, 4, none⟩ = some d ∧
    V.cell? ⟨b, o, none⟩ = some (.int .u8 x.k) ∧ V.cell? ⟨b, o + 1, none⟩ = some (.int .i64 x.r) ∧ V.cell? ⟨b, o + 2, none⟩ = some (.int .i64 x.v) ∧ V.cell? ⟨b, o + 3, none⟩ = some (.int .i64 x.f) ∧ V.cell? ⟨b, o + 4, none⟩ = some (.int .i64 x.a) := by
  obtain ⟨p0, p1, p2, p3, p4⟩ := obj5_cell h hB
  have key : ∀ k u, (evC x)[k]? = some u → V.cell? ⟨b, o + k, none⟩ = some u := fun k u hk => (hB.cell (p := ⟨b, o + k, none⟩) hb).trans (hc k u hk)
  exact ⟨hB, p0, p1, p2, p3, p4, key 0 _ rfl, key 1 _ rfl, key 2 _ rfl, key 3 _ rfl, key 4 _ rfl⟩

end Go.Proofs.YtdkpnbjkehakjaaGreatDoor

/-! layer 15's reference: Alike, Mixed -/
namespace Go.Proofs.YtdkpnbjkehakjaaGreatDoor
open Go.RowKit
theorem pair_no1 {st : PSt} {S : List Int} {lv : Int} {A C : List (List Int)} (h : (rightP st S && fillOk st.I.length A) = false) : pairOkB st S lv A C = false := by
  cases e : pairOkB st S lv A C with
  | false => rfl
  | true =>
    obtain ⟨h1, _, _, h4, _⟩ := pair_parts e
    rw [h1, h4] at h; cases h
theorem pair_no2 {st : PSt} {S : List Int} {lv : Int} {A C : List (List Int)} (h : (rightP st S && fillOk st.I.length C) = false) : pairOkB st S lv A C = false := by
  cases e : pairOkB st S lv A C with
  | false => rfl
  | true =>
    obtain ⟨h1, _, _, _, h5⟩ := pair_parts e
    rw [h1, h5] at h; cases h
theorem pair_no3 {st : PSt} {S : List Int} {lv : Int} {A C : List (List Int)} (h : ¬ (0 ≤ lv ∧ lv < st.L.length)) : pairOkB st S lv A C = false := by
  cases e : pairOkB st S lv A C with
  | false => rfl
  | true =>
    obtain ⟨_, h2, h3, _, _⟩ := pair_parts e
    exact absurd ⟨h2, h3⟩ h
theorem alike_off {st : PSt} {S : List Int} {lv : Int} {A C : List (List Int)} (h : pairOkB st S lv A C = false) : alikeB st S lv A C = false := by unfold alikeB; rw [h]; rfl

end Go.Proofs.YtdkpnbjkehakjaaGreatDoor

/-! layer 15's reference: Mixed -/
namespace Go.Proofs.YtdkpnbjkehakjaaGreatDoor
open Go.RowKit
def MixR (st : PSt) (S : List Int) (lv : Int) (A C : List (List Int)) (e : Ending) (w w' : World) : Prop :=
  Below w.heap.size w w' ∧ ((pairOkB st S lv A C = true ∧ ∃ v, e = .returned (.tuple #[v, .int .i64 0]) ∧ GraphM w'.heap.size w' v (mixL st S lv A C)) ∨ (pairOkB st S lv A C = false ∧ e = .returned (.tuple #[.slice none 0 0, .int .i64 1])))

end Go.Proofs.YtdkpnbjkehakjaaGreatDoor
