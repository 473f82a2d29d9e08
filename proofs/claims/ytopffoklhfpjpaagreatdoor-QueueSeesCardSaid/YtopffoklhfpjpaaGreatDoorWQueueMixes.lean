import Derived.Test.YtopffoklhfpjpaaGreatDoorQuL
import Derived.Test.YtopffoklhfpjpaaGreatDoorQueA
import Derived.Test.YtopffoklhfpjpaaGreatDoorQuE
import Derived.Test.YtopffoklhfpjpaaGreatDoorOpenQR
import Derived.Test.YtopffoklhfpjpaaGreatDoorDoorU
import Derived.Test.YtopffoklhfpjpaaGreatDoorDoorN
import Derived.Test.YtopffoklhfpjpaaGreatDoorDoorZ
set_option linter.unusedSimpArgs false
set_option linter.unusedVariables false
/-! QueueMixes: the walk -/
namespace Go.Proofs.YtopffoklhfpjpaaGreatDoor
open Go.RowKit
def mixL (st : PSt) (S : List Int) (lv : Int) (A C : List (List Int)) : List (List Int) := (List.range st.I.length).map (mixAt st S lv A C)
theorem mixL_at {st : PSt} {S : List Int} {lv : Int} {A C : List (List Int)} {j : Nat} (h : j < st.I.length) : rowAt (mixL st S lv A C) j = mixAt st S lv A C j := by
  unfold rowAt mixL
  rw [List.getElem?_map, List.getElem?_range h]; rfl
theorem mix_len {st : PSt} {S : List Int} {lv : Int} {A C : List (List Int)} (h : pairOkB st S lv A C = true) (j : Nat) : (mixAt st S lv A C j).length ≤ 4096 := by
  unfold mixAt
  split
  · exact (pair_rows h j).1
  · exact (pair_rows h j).2
theorem mixL_fill {st : PSt} {S : List Int} {lv : Int} {A C : List (List Int)} (h : pairOkB st S lv A C = true) : fillOk st.I.length (mixL st S lv A C) = true := by
  refine fill_yes (by simp [mixL]) fun j hj => ?_
  have hj' : j < st.I.length := by simpa [mixL] using hj
  rw [mixL_at hj']
  exact mix_len h j
theorem mixL_small {st : PSt} {S : List Int} {lv : Int} {A C : List (List Int)} (h : pairOkB st S lv A C = true) : Small (mixL st S lv A C) := by
  refine ⟨by have := pair_n h; simp [mixL]; omega, fun row hrow => ?_⟩
  obtain ⟨j, _, rfl⟩ := List.mem_map.1 hrow
  have := mix_len h j
  omega
theorem pair_parts {st : PSt} {S : List Int} {lv : Int} {A C : List (List Int)} (h : pairOkB st S lv A C = true) : rightP st S = true ∧ 0 ≤ lv ∧ lv < st.L.length ∧ fillOk st.I.length A = true ∧ fillOk st.I.length C = true := by
  unfold pairOkB lowsOk at h
  simp only [Bool.and_eq_true, decide_eq_true_eq] at h
  exact ⟨h.1.1.1, h.1.1.2, h.1.2, h.2.1, h.2.2⟩
theorem pair_of {st : PSt} {S : List Int} {lv : Int} {A C : List (List Int)} (h1 : rightP st S = true) (h2 : 0 ≤ lv) (h3 : lv < st.L.length) (h4 : fillOk st.I.length A = true) (h5 : fillOk st.I.length C = true) : pairOkB st S lv A C = true := by
  unfold pairOkB lowsOk
  rw [h1, h4, h5, decide_eq_true h2, decide_eq_true h3]; rfl
theorem mix_alike {st : PSt} {S : List Int} {q k : Nat} {A C : List (List Int)} (hw : Wide S) (h : pairOkB st S q A C = true) (hk : k < st.L.length) (hab : LL.ab S k q = true) : alikeB st S k A (mixL st S q A C) = true := by
  obtain ⟨h1, h2, h3, h4, h5⟩ := pair_parts h
  refine alike_yes (pair_of h1 (by omega) (by omega) h4 (mixL_fill h)) fun j hj => ?_
  cases hs : seenAt st S k j
  · rfl
  · obtain ⟨_, hSL, _, _, hr, hI, _⟩ := right_sizes h1
    have := hI j hj
    have hs2 : seenAt st S q j = true := LL.le_trans5 hr hw (by omega) (show LL.ab S (chAt st.I j).2.toNat k = true from hs) hab
    rw [mixL_at hj]
    unfold mixAt
    rw [hs2, if_pos rfl, decide_eq_true rfl]; rfl
theorem mix_pair {st : PSt} {S : List Int} {lv : Int} {A C : List (List Int)} (h : pairOkB st S lv A C = true) : pairOkB st S lv A (mixL st S lv A C) = true := by
  obtain ⟨h1, h2, h3, h4, h5⟩ := pair_parts h
  exact pair_of h1 h2 h3 h4 (mixL_fill h)
theorem mix_again {st : PSt} {S : List Int} {lv : Int} {A C : List (List Int)} : mixL st S lv A (mixL st S lv A C) = mixL st S lv A C := by
  refine List.map_congr_left fun j hj => ?_
  have hj' := List.mem_range.1 hj
  unfold mixAt
  split
  · rfl
  · rename_i hs
    rw [mixL_at hj']
    unfold mixAt
    rw [if_neg hs]
theorem obj10_cell {W0 W : World} {g : Nat} {c0 c1 c2 c3 c4 c5 c6 c7 c8 c9 : Value} {t : TypeId} (h : W0.heap[g]? = some (.cells #[c0, c1, c2, c3, c4, c5, c6, c7, c8, c9] t)) (hb : Below W0.heap.size W0 W) :
    W.cell? ⟨g, 0, none⟩ = some c0 ∧ W.cell? ⟨g, 1, none⟩ = some c1 ∧ W.cell? ⟨g, 2, none⟩ = some c2 ∧ W.cell? ⟨g, 3, none⟩ = some c3 ∧ W.cell? ⟨g, 4, none⟩ = some c4 ∧ W.cell? ⟨g, 5, none⟩ = some c5 ∧ W.cell? ⟨g, 6, none⟩ = some c6 ∧ W.cell? ⟨g, 7, none⟩ = some c7 ∧ W.cell? ⟨g, 8, none⟩ = some c8 ∧ W.cell? ⟨g, 9, none⟩ = some c9 := by
  have h' := (hb.block g (heap_some_lt h)).trans h
  refine ⟨?_, ?_, ?_, ?_, ?_, ?_, ?_, ?_, ?_, ?_⟩ <;> simp [World.cell?, h']

set_option maxRecDepth 100000 in
set_option maxHeartbeats 12800000 in
theorem queueMixes_walk (v0 v1 v2 v3 : Value) (st : PSt) (S : List Int) (lv kd : Int) (a c ve : Value) (A C : List (List Int)) (w : World) (h : PolIn w v0 v1 v2 v3 st S) (hw : Wide S) (hsh : Short6 st)
    (ha : GraphM w.heap.size w a A) (hxA : Small A) (hc : GraphM w.heap.size w c C) (hxC : Small C)
    (hT : Go.Lib.Utf8Tabs 0 1 w) (hE : Errs w) (hP : Pow w) (hM : MaxL w) (hTz : Tz w) :
    Calls Tryz.prog 5 #[.agg #[v0, v1, v2, v3, .int .i64 st.D, .int .i64 lv, a, c, .int .u8 kd, ve]] w fun e w' => e = .returned (.bool true) ∧ Below w.heap.size w w' := by
  obtain ⟨a0, k0, rfl⟩ := h.s0.form
  obtain ⟨a1, k1, rfl⟩ := h.s1.form
  obtain ⟨a2, k2, rfl⟩ := h.s2.form
  obtain ⟨a3, k3, rfl⟩ := h.s3.form
  obtain ⟨aa, ca, rfl⟩ := ha.form
  obtain ⟨ac, cc, rfl⟩ := hc.form
  obtain ⟨W0, eW0⟩ : ∃ W0, W0 = w.alloc (.cells #[.slice a0 st.L.length k0, .slice a1 S.length k1, .slice a2 st.I.length k2, .slice a3 st.O.length k3, .int .i64 st.D, .int .i64 lv, .slice aa A.length ca, .slice ac C.length cc, .int .u8 kd, ve] 59) := ⟨_, rfl⟩
  have HB0 := Lib.hid (show Below w.heap.size w W0 by rw [eW0]; exact (Below.refl _ _).alloc (Nat.le_refl _) _)
  have HO0 := Lib.hid (show W0.heap[w.heap.size]? = some (.cells #[.slice a0 st.L.length k0, .slice a1 S.length k1, .slice a2 st.I.length k2, .slice a3 st.O.length k3, .int .i64 st.D, .int .i64 lv, .slice aa A.length ca, .slice ac C.length cc, .int .u8 kd, ve] 59) by rw [eW0]; exact new_block rfl rfl)
  have HP0 := Lib.hid (h.below HB0.out)
  have HTz := Lib.hid (hTz.on HB0.out)
  have HT := Lib.hid (Utf8Tabs_below hT HB0.out)
  have HE := Lib.hid (hE.below HB0.out)
  have HPw := Lib.hid (hP.below HB0.out)
  have HM := Lib.hid (hM.below HB0.out)
  have HA0 := Lib.hid ((ha.below HB0.out).mono HB0.out.size)
  have HC0 := Lib.hid ((hc.below HB0.out).mono HB0.out.size)
  have HSH := Lib.hid hsh
  have HWD := Lib.hid hw
  have EW0 := Lib.hid eW0
  have HXA := Lib.hid hxA
  have HXC := Lib.hid hxC
  have la := hxA.1
  have lc := hxC.1
  have HAW := Lib.hid (fun (W : World) (hb : Below W0.heap.size W0 W) => (awake15_any W (Utf8Tabs_below HT.out hb) (HE.out.below hb) (HPw.out.below hb) (HM.out.below hb) (HTz.out.on hb)))
  clear h hTz hsh hw eW0 ha hc hxA hxC hT hE hP hM HT HE HPw HM
  by_cases g1 : 40 < A.length
  · have t1 : decide (40 < A.length) = true := decide_eq_true g1
    have t2 : decide ((40 : Int) < (A.length : Int)) = true := decide_eq_true (by omega)
    go_enter Tryz.func5, Tryz.ntmps5
    go_wp2_with fail
    go_ret
    exact ⟨rfl, by rw [← EW0.out]; exact HB0.out⟩
  · have t1 : decide (40 < A.length) = false := decide_eq_false g1
    have t2 : decide ((40 : Int) < (A.length : Int)) = false := decide_eq_false (by omega)
    by_cases g2 : 40 < C.length
    · have t3 : decide (40 < C.length) = true := decide_eq_true g2
      have t4 : decide ((40 : Int) < (C.length : Int)) = true := decide_eq_true (by omega)
      clear g1
      go_enter Tryz.func5, Tryz.ntmps5
      go_wp2_with fail
      go_ret
      exact ⟨rfl, by rw [← EW0.out]; exact HB0.out⟩
    · have t3 : decide (40 < C.length) = false := decide_eq_false g2
      have t4 : decide ((40 : Int) < (C.length : Int)) = false := decide_eq_false (by omega)
      clear g1 g2
      go_enter Tryz.func5, Tryz.ntmps5
      go_wp2_with fail
      rw [← EW0.out]
      clear t1 t2 t3 t4
      obtain ⟨y0, y1, y2, y3, y4, y5, y6, y7, y8, y9⟩ := obj10_cell HO0.out (Below.refl _ _)
      go_loopw [3] (fun k wr => ∃ i : Nat, i ≤ 40 ∧ k = .int .i64 (i : Int) ∧ RowKit.Hid (W0 = wr)) (fun k _ => 40 - (intOf k).toNat)
      case atStart => exact ⟨0, by omega, rfl, Lib.hid rfl⟩
      case round =>
        obtain ⟨i, hi, rfl, HW⟩ := hrel
        have hw0 := HW.out
        subst hw0
        by_cases hlt : i < 40
        · have i1 : decide ((i : Int) < 40) = true := decide_eq_true (by omega)
          by_cases r1 : 500 < (rowZ A i).length
          · have t1 : decide (500 < (rowZ A i).length) = true := decide_eq_true r1
            have t2 : decide ((500 : Int) < ((rowZ A i).length : Int)) = true := decide_eq_true (by omega)
            clear r1
            go_wp2_with (go_at_call 20; refine (rrow_any (.slice aa A.length ca) A _ i _ HA0.out la).mono ?_; rintro e w1 ⟨⟨v, rfl, hv⟩, rfl⟩; obtain ⟨va, vc, rfl⟩ := hv.form; clear hv)
            go_ret
            exact ⟨rfl, HB0.out⟩
          · have t1 : decide (500 < (rowZ A i).length) = false := decide_eq_false r1
            have t2 : decide ((500 : Int) < ((rowZ A i).length : Int)) = false := decide_eq_false (by omega)
            by_cases r2 : 500 < (rowZ C i).length
            · have t3 : decide (500 < (rowZ C i).length) = true := decide_eq_true r2
              have t4 : decide ((500 : Int) < ((rowZ C i).length : Int)) = true := decide_eq_true (by omega)
              clear r1 r2
              go_wp2_with fail
              refine (rrow_any (.slice aa A.length ca) A _ i _ HA0.out la).mono ?_
              rintro e w1 ⟨⟨v, rfl, hv⟩, rfl⟩
              obtain ⟨va, vc, rfl⟩ := hv.form
              clear hv
              go_wp2_with fail
              refine (rrow_any (.slice ac C.length cc) C _ i _ HC0.out lc).mono ?_
              rintro e w1 ⟨⟨v, rfl, hv⟩, rfl⟩
              obtain ⟨va2, vc2, rfl⟩ := hv.form
              clear hv
              go_wp2_with fail
              go_ret
              exact ⟨rfl, HB0.out⟩
            · have t3 : decide (500 < (rowZ C i).length) = false := decide_eq_false r2
              have t4 : decide ((500 : Int) < ((rowZ C i).length : Int)) = false := decide_eq_false (by omega)
              clear r1 r2
              go_wp2_with fail
              refine (rrow_any (.slice aa A.length ca) A _ i _ HA0.out la).mono ?_
              rintro e w1 ⟨⟨v, rfl, hv⟩, rfl⟩
              obtain ⟨va, vc, rfl⟩ := hv.form
              clear hv
              go_wp2_with fail
              refine (rrow_any (.slice ac C.length cc) C _ i _ HC0.out lc).mono ?_
              rintro e w1 ⟨⟨v, rfl, hv⟩, rfl⟩
              obtain ⟨va2, vc2, rfl⟩ := hv.form
              clear hv
              go_wp2_with fail
              go_roundw
              case rel => exact ⟨i + 1, by omega, by go_num, by first | exact Lib.hid rfl | exact Lib.hid trivial | exact trivial⟩
              case measure => simp [intOf]; omega
        · have i1 : decide ((i : Int) < 40) = false := decide_eq_false (by omega)
          cases hp : pairOkB st S lv A C
          · have HPO := Lib.hid hp
            clear hp
            go_wp2_with (first
              | (go_at_call 11; refine (HAW.out _ HB1.out).mono ?_; rintro e w9 ⟨rfl, hb⟩; have HB9 := Lib.hid (QQ.step (QQ.step HB0.out HB1.out) hb); clear hb)
              | (go_at_call 23; refine (mixed_any _ _ _ _ st S lv _ _ A C W0 HP0.out HWD.out HTz.out HSH.out HA0.out HC0.out HXA.out HXC.out).mono ?_; rintro e w1 ⟨hb, ⟨h1, _⟩ | ⟨h1, rfl⟩⟩; (rw [HPO.out] at h1; cases h1); have HB1 := Lib.hid hb; clear hb h1))
            go_ret
            exact ⟨rfl, HB9.out⟩
          · have HPO := Lib.hid hp
            obtain ⟨hr, hlv0, hlv1, _, _⟩ := pair_parts hp
            obtain ⟨q, rfl⟩ : ∃ q : Nat, lv = q := ⟨lv.toNat, by omega⟩
            have HPQ := Lib.hid (mix_pair hp)
            have HAL := Lib.hid (fun k (hk : k < st.L.length) (hab : LL.ab S k q = true) => mix_alike HWD.out hp hk hab)
            have HSM := Lib.hid (mixL_small hp)
            have HSL := Lib.hid (right_sizes hr).2.1
            have HRB := Lib.hid (right_sizes hr).2.2.2.2.1
            have l64 := (right_sizes hr).1
            have HBIG := Lib.hid (show S.length ≤ big5 by have := HSL.out; simp only [big5]; omega)
            have HLQ := Lib.hid (show q < S.length by have := HSL.out; omega)
            have HNU := Lib.hid (show Nums .u64 W0.heap.size W0 (.slice a1 S.length k1) S from HP0.out.s1)
            clear hp hr hlv0 hlv1
            go_wp2_with (first
              | (go_at_call 23; refine (mixed_any _ _ _ _ st S q _ _ A C W0 HP0.out HWD.out HTz.out HSH.out HA0.out HC0.out HXA.out HXC.out).mono ?_; rintro e w1 ⟨hb, ⟨h1, rb, vb, rfl, htb⟩ | ⟨h1, _⟩⟩; (case inr => rw [HPO.out] at h1; cases h1); have HB1 := Lib.hid hb; have HT1 := Lib.hid htb; clear hb h1 htb y0 y1 y2 y3 y4 y5 y6 y7 y8 y9))
            go_loopw [6] (fun k wr => ∃ k' : Nat, k' ≤ st.L.length ∧ k = .int .i64 (k' : Int) ∧ TabQ W0.heap.size wr rb st.I.length vb (mixAt st S q A C) ∧ Below W0.heap.size W0 wr) (fun k _ => st.L.length - (intOf k).toNat)
            case atStart => exact ⟨0, by omega, rfl, HT1.out, HB1.out⟩
            case round =>
              obtain ⟨k, hk, rfl, hT, hB⟩ := hrel
              have HTB := Lib.hid hT
              have HB := Lib.hid hB
              clear hT hB HT1
              obtain ⟨z0, z1, z2, z3, z4, z5, z6, z7, z8, z9⟩ := obj10_cell HO0.out HB.out
              by_cases hkt : k < st.L.length
              · have i2 : decide (k < st.L.length) = true := decide_eq_true hkt
                have HKS := Lib.hid (show k < S.length by have := HSL.out; omega)
                cases hab : LL.ab S k q
                · have HAB := Lib.hid hab
                  clear hab
                  go_wp2_with (go_at_call 28; refine (lq (Lib.hid leq5_any) HNU HWD HBIG HRB HB.out HKS.out HLQ.out (HTz.out.on HB.out)).mono ?_; rintro e w2 ⟨rfl, hb⟩; rw [HAB.out]; have HB2 := Lib.hid (HB.out.trans (hb.mono HB.out.size)); have HT2 := Lib.hid (HTB.out.on hb); clear hb z0 z1 z2 z3 z4 z5 z6 z7 z8 z9)
                  go_roundw
                  case rel => exact ⟨k + 1, by omega, by go_num, HT2.out, HB2.out⟩
                  case measure => simp [intOf]; omega
                · have HAB := Lib.hid hab
                  have HYES := Lib.hid (HAL.out k hkt hab)
                  clear hab
                  go_wp2_with (first
                    | (go_at_call 22; refine (alike_any _ _ _ _ st S k _ _ A (mixL st S q A C) w2 (HP0.out.below HB2.out) HWD.out (HTz.out.on HB2.out) HSH.out ((HA0.out.below HB2.out).mono HB2.out.size) HT2.out.graph HXA.out HSM.out).mono ?_; rintro e w3 ⟨rfl, hb⟩; rw [HYES.out]; have HB3 := Lib.hid (HB2.out.trans (hb.mono HB2.out.size)); have HT3 := Lib.hid (HT2.out.on hb); clear hb z0 z1 z2 z3 z4 z5 z6 z7 z8 z9)
                    | (go_at_call 28; refine (lq (Lib.hid leq5_any) HNU HWD HBIG HRB HB.out HKS.out HLQ.out (HTz.out.on HB.out)).mono ?_; rintro e w2 ⟨rfl, hb⟩; rw [HAB.out]; have HB2 := Lib.hid (HB.out.trans (hb.mono HB.out.size)); have HT2 := Lib.hid (HTB.out.on hb); clear z0 z1 z2 z3 z4 z5 z6 z7 z8 z9; obtain ⟨z0, z1, z2, z3, z4, z5, z6, z7, z8, z9⟩ := obj10_cell HO0.out HB2.out; clear hb))
                  go_roundw
                  case rel => exact ⟨k + 1, by omega, by go_num, HT3.out, HB3.out⟩
                  case measure => simp [intOf]; omega
              · have i2 : decide (k < st.L.length) = false := decide_eq_false hkt
                go_wp2_with (first
                  | (go_at_call 11; refine (HAW.out _ HB6.out).mono ?_; rintro e w9 ⟨rfl, hb⟩; have HB9 := Lib.hid (QQ.step (QQ.step HB0.out HB6.out) hb); clear hb)
                  | (go_at_call 27; refine (sameRows_any _ _ (mixL st S q A C) (mixL st S q A C) w5.heap.size w5 (Nat.le_refl _) HG5.out HT5.out.graph HSM.out HSM.out).mono ?_; rintro e w6 ⟨rfl, d, rfl⟩; rw [decide_eq_true (rfl : mixL st S q A C = mixL st S q A C)]; have HB6 := Lib.hid (QQ.dN HB5.out d))
                  | (go_at_call 23; refine (mixed_any _ _ _ _ st S q _ _ A (mixL st S q A C) wr (HP0.out.below HB.out) HWD.out (HTz.out.on HB.out) HSH.out ((HA0.out.below HB.out).mono HB.out.size) HTB.out.graph HXA.out HSM.out).mono ?_; rintro e w5 ⟨hb, ⟨h1, rb2, vb2, rfl, htb⟩ | ⟨h1, _⟩⟩; (case inr => rw [HPQ.out] at h1; cases h1); have HB5 := Lib.hid (HB.out.trans (hb.mono HB.out.size)); have HT5 := Lib.hid (HTB.out.on hb); have HG5 := Lib.hid (show GraphM w5.heap.size w5 _ (mixL st S q A C) by have h := htb.graph; rw [show (List.range st.I.length).map (mixAt st S q A (mixL st S q A C)) = mixL st S q A C from mix_again] at h; exact h); clear hb h1 htb z0 z1 z2 z3 z4 z5 z6 z7 z8 z9))
                go_ret
                exact ⟨rfl, HB9.out⟩
end Go.Proofs.YtopffoklhfpjpaaGreatDoor

/-! QueueMixes: the listed variables -/
namespace Go.Proofs.YtopffoklhfpjpaaGreatDoor
open Go.RowKit
theorem short6_of {st : PSt} (h : (∀ j, j < st.L.length → (wd6 st.L j).size ≤ 140737488351232) ∧ (∀ j, j < st.I.length → (chAt st.I j).1.size ≤ 140737488351232) ∧ ∀ j, j < st.O.length → (chAt st.O j).1.size ≤ 140737488351232) : Short6 st :=
  ⟨fun j hj => Nat.le_trans (h.1 j hj) (by decide), fun j hj => Nat.le_trans (h.2.1 j hj) (by decide), fun j hj => Nat.le_trans (h.2.2 j hj) (by decide)⟩
theorem queueMixesTabs {W : World} (h : laidMetH Tryz.prog Rows.queueMixesRow.laid W) : Lib.Utf8Tabs 0 1 W ∧ Errs W ∧ Pow W ∧ Tz W :=
  ⟨utabs_of h (by kernel_rfl), errs_of h (by kernel_rfl) (by kernel_rfl), pow_of (laid_one h (fun x => x.1 == "internal/strconv.uint64pow10") (by kernel_rfl)), tz_of h (by kernel_rfl)⟩
end Go.Proofs.YtopffoklhfpjpaaGreatDoor
