import Derived.Test.YtkoofibhddkpiaaDoorSolOD
import Derived.Test.YtkoofibhddkpiaaDoorPlatS
import Derived.Test.YtkoofibhddkpiaaDoorSolFG
import Derived.Test.YtkoofibhddkpiaaDoorSolAS
set_option linter.unusedSimpArgs false
set_option linter.unusedVariables false
set_option linter.unusedSectionVars false
/-! solve: Right -/
namespace Go.Proofs.YtkoofibhddkpiaaDoor
open Go.RowKit
def rowIn (n : Nat) (r : List Int) : Bool := r.all (fun j => decide (0 ≤ j ∧ j < n))
/-- may a system be? -/
def sysB (xs : List Int) (l : List (Int × Int)) (to : List (List Int)) : Bool := decide (l.length ≤ 16384) && decide (to.length = l.length) && LL.rightB xs && l.all (labOk xs.length) && to.all (rowIn l.length)
theorem row_no {n : Nat} {r : List Int} {q : Nat} (hq : q < r.length) (h : ¬ (0 ≤ r[q]?.getD 0 ∧ r[q]?.getD 0 < n)) : rowIn n r = false := by
  unfold rowIn
  rw [List.all_eq_false]
  exact ⟨r[q]?.getD 0, GG.getD_mem hq, by rw [decide_eq_false h]; simp⟩
theorem row_yes {n : Nat} {r : List Int} (h : ∀ q, q < r.length → 0 ≤ r[q]?.getD 0 ∧ r[q]?.getD 0 < n) : rowIn n r = true := by
  unfold rowIn
  rw [List.all_eq_true]
  intro x hx
  obtain ⟨q, hq, rfl⟩ := List.mem_iff_getElem.1 hx
  have := h q hq
  rw [List.getElem?_eq_getElem hq] at this
  exact decide_eq_true this
theorem rows_no {n : Nat} {to : List (List Int)} {i : Nat} (hi : i < to.length) (h : rowIn n (to[i]?.getD []) = false) : to.all (rowIn n) = false := by
  rw [List.all_eq_false]
  exact ⟨to[i]?.getD [], GG.getD_mem hi, by rw [h]; simp⟩
theorem rows_yes {n : Nat} {to : List (List Int)} (h : ∀ i, i < to.length → rowIn n (to[i]?.getD []) = true) : to.all (rowIn n) = true := by
  rw [List.all_eq_true]
  intro r hr
  obtain ⟨i, hi, rfl⟩ := List.mem_iff_getElem.1 hr
  have := h i hi
  rwa [List.getElem?_eq_getElem hi] at this
theorem sys_parts {xs : List Int} {l : List (Int × Int)} {to : List (List Int)} (h : sysB xs l to = true) : l.length ≤ 16384 ∧ to.length = l.length ∧ LL.rightB xs = true ∧ (∀ j, j < l.length → 0 ≤ (l[j]?.getD s0).1 ∧ (l[j]?.getD s0).1 < xs.length) ∧ ∀ a : Nat, ∀ x ∈ to[a]?.getD [], 0 ≤ x ∧ x < to.length := by
  unfold sysB at h
  simp only [Bool.and_eq_true, decide_eq_true_eq] at h
  obtain ⟨⟨⟨⟨h1, h2⟩, h3⟩, h4⟩, h5⟩ := h
  refine ⟨h1, h2, h3, fun j hj => ?_, fun a x hx => ?_⟩
  · rw [List.all_eq_true] at h4
    have := h4 _ (GG.getD_mem (d := s0) hj)
    unfold labOk at this
    exact of_decide_eq_true this
  · by_cases ha : a < to.length
    · rw [List.all_eq_true] at h5
      have h6 := h5 _ (GG.getD_mem (d := []) ha)
      unfold rowIn at h6
      rw [List.all_eq_true] at h6
      have := of_decide_eq_true (h6 x hx)
      rw [h2]
      exact this
    · rw [List.getElem?_eq_none (by omega)] at hx
      simp at hx
set_option maxRecDepth 100000 in
set_option maxHeartbeats 3200000 in
theorem sright_any {uv cv nv : Value} {xs : List Int} {l : List (Int × Int)} {to : List (List Int)} (W : World) (hu : Nums .u64 W.heap.size W uv xs) (hx : Wide xs) (hxl : xs.length ≤ big5) (hT : Tz W) (hv : LabRow W.heap.size W cv l) (hg : GraphM W.heap.size W nv to) (hl : l.length ≤ 17592186044416) (htl : to.length ≤ 17592186044416) (hm : ∀ a : Nat, (to[a]?.getD []).length ≤ 17592186044416) :
    Calls Tryd.prog 10 #[uv, .agg #[cv, nv]] W fun e V => e = .returned (.bool (sysB xs l to)) ∧ Below W.heap.size W V := by
  obtain ⟨ua, uc, rfl⟩ := hu.form
  obtain ⟨ca, cc, rfl⟩ := hv.form
  obtain ⟨na, nc, rfl⟩ := hg.form
  have b0 : (l.length : Int) ≤ 17592186044416 := by omega
  have b1 : (to.length : Int) ≤ 17592186044416 := by omega
  have HU := Lib.hid hu
  have HX := Lib.hid hx
  have HXL := Lib.hid hxl
  have HT := Lib.hid hT
  have HL := Lib.hid hv
  have HG := Lib.hid hg
  have HLL := Lib.hid hl
  have HTL := Lib.hid htl
  have HTM := Lib.hid hm
  obtain ⟨z, ez⟩ : ∃ z, z = sysB xs l to := ⟨_, rfl⟩
  have HZ := Lib.hid ez
  rw [← ez]
  clear hu hx hxl hT hv hg hl htl hm ez
  have HB0 := Lib.hid (show Below W.heap.size W (W.alloc (.cells #[.slice ca l.length cc, .slice na to.length nc] 26)) from (Below.refl _ _).alloc (Nat.le_refl _) _)
  by_cases hA : (16384 : Int) < l.length
  · have hz : z = false := by rw [HZ.out]; unfold sysB; rw [decide_eq_false (by omega)]; rfl
    go_enter Tryd.func10, Tryd.ntmps10
    go_wp2_with fail
    go_ret
    exact ⟨by first | (rw [hz]; rfl) | rfl | (subst hz; rfl), HB0.out⟩
  · by_cases hB : to.length = l.length
    · have HB := Lib.hid hB
      have hq1 : ((to.length : Int) == (l.length : Int)) = true := by rw [hB]; simp
      have hq2 : ((to.length : Int) != (l.length : Int)) = false := by rw [hB]; simp
      clear hB
      cases hR : LL.rightB xs with
      | false =>
        have hz : z = false := by rw [HZ.out]; unfold sysB; rw [hR]; simp
        go_enter Tryd.func10, Tryd.ntmps10
        go_wp2_with (go_at_call 15; refine (right5_c _ xs _ _ ((HU.out.below HB0.out).mono HB0.out.size) (Nat.le_refl _) HX.out HXL.out (HT.out.on HB0.out)).mono ?_; rintro e w2 ⟨rfl, hb2⟩; rw [hR]; have HB2 := Lib.hid (HB0.out.trans (hb2.mono HB0.out.size)); clear hb2)
        go_ret
        exact ⟨by first | (rw [hz]; rfl) | rfl | (subst hz; rfl), HB2.out⟩
      | true =>
        cases hL : l.all (labOk xs.length) with
        | false =>
          have hz : z = false := by rw [HZ.out]; unfold sysB; rw [hL]; simp
          have HR := Lib.hid hR
          have HLF := Lib.hid hL
          clear hR hL
          go_enter Tryd.func10, Tryd.ntmps10
          go_wp2_with (first
            | (go_at_call 15; refine (right5_c _ xs _ _ ((HU.out.below HB0.out).mono HB0.out.size) (Nat.le_refl _) HX.out HXL.out (HT.out.on HB0.out)).mono ?_; rintro e w2 ⟨rfl, hb2⟩; rw [HR.out]; have HB2 := Lib.hid (HB0.out.trans (hb2.mono HB0.out.size)); have hc0 := (hb2.cell (p := ⟨W.heap.size, 0, none⟩) (by simp)).trans (cell_of_row _ _ 0 _ _ _ (heap_alloc_new _ _)); clear hb2)
            | (go_at_call 16; refine (allowed_any _ ((HL.out.below HB2.out).mono HB2.out.size) HLL.out).mono ?_; rintro e w3 ⟨rfl, hb3⟩; rw [HLF.out]; have HB3 := Lib.hid (HB2.out.trans (hb3.mono HB2.out.size)); clear hb3))
          go_ret
          exact ⟨by first | (rw [hz]; rfl) | rfl | (subst hz; rfl), HB3.out⟩
        | true =>
          have HR := Lib.hid hR
          have HLF := Lib.hid hL
          clear hR hL
          go_enter Tryd.func10, Tryd.ntmps10
          go_wp2_with (first
            | (go_at_call 15; refine (right5_c _ xs _ _ ((HU.out.below HB0.out).mono HB0.out.size) (Nat.le_refl _) HX.out HXL.out (HT.out.on HB0.out)).mono ?_; rintro e w2 ⟨rfl, hb2⟩; rw [HR.out]; have HB2 := Lib.hid (HB0.out.trans (hb2.mono HB0.out.size)); have HBY := Lib.hid hb2; have hc0 := (hb2.cell (p := ⟨W.heap.size, 0, none⟩) (by simp)).trans (cell_of_row _ _ 0 _ _ _ (heap_alloc_new _ _)); clear hb2)
            | (go_at_call 16; refine (allowed_any _ ((HL.out.below HB2.out).mono HB2.out.size) HLL.out).mono ?_; rintro e w3 ⟨rfl, hb3⟩; rw [HLF.out]; have HB3 := Lib.hid (HB2.out.trans (hb3.mono HB2.out.size)); have hc1 := (hb3.cell (p := ⟨W.heap.size, 1, none⟩) (by have := HBY.out.size; simp at this ⊢; omega)).trans ((HBY.out.cell (p := ⟨W.heap.size, 1, none⟩) (by simp)).trans (cell_of_row _ _ 1 _ _ _ (heap_alloc_new _ _))); clear hb3 hc0))
          clear hc1
          go_loopw [37] (fun k wr => ∃ i : Nat, i ≤ to.length ∧ k = .int .i64 (i : Int) ∧ Below W.heap.size W wr ∧ RowKit.Hid (∀ a, a < i → rowIn l.length (to[a]?.getD []) = true)) (fun k _ => to.length - (intOf k).toNat)
          case atStart => exact ⟨0, Nat.zero_le _, rfl, HB3.out, Lib.hid fun a ha => absurd ha (Nat.not_lt_zero _)⟩
          case round =>
            obtain ⟨i, hi, rfl, hB, HA⟩ := hrel
            have HB4 := Lib.hid hB
            clear hB
            by_cases hlt : i < to.length
            · obtain ⟨va, vo, vc2, e1⟩ := HG.out.addr (by omega)
              cases e1
              obtain ⟨ra, rac, hx1, hrx⟩ := (HG.out.below HB4.out).at hlt
              have i1 : (0 : Int) ≤ i ∧ (i : Int) < to.length := by omega
              have b2 : (to[i]?.getD []).length ≤ 17592186044416 := HTM.out i
              have HNO := Lib.hid (fun h => rows_no (n := l.length) hlt h)
              have HYES := Lib.hid (fun (h : rowIn l.length (to[i]?.getD []) = true) (a : Nat) (ha : a < i + 1) => if e : a = i then e ▸ h else HA.out a (by omega))
              obtain ⟨r, er⟩ : ∃ r, r = to[i]?.getD [] := ⟨_, rfl⟩
              rw [← er] at hx1 hrx b2 HNO HYES
              have HRX := Lib.hid hrx
              clear er hrx
              go_wp2_with fail
              obtain ⟨wo, ewo⟩ : ∃ wo : World, wo = wr := ⟨_, rfl⟩
              rw [← ewo]
              rw [← ewo] at HB4 HRX hx1
              clear ewo hx1
              go_loopw [43] (fun k wr => ∃ q : Nat, q ≤ r.length ∧ k = .int .i64 (q : Int) ∧ Below W.heap.size W wr ∧ RowKit.Hid (∀ a, a < q → 0 ≤ r[a]?.getD 0 ∧ r[a]?.getD 0 < l.length)) (fun k _ => r.length - (intOf k).toNat)
              case atStart => exact ⟨0, Nat.zero_le _, rfl, HB4.out, Lib.hid fun a ha => absurd ha (Nat.not_lt_zero _)⟩
              case round =>
                obtain ⟨q, hq, rfl, hB5, HA5⟩ := hrel
                have HB5 := Lib.hid hB5
                clear hB5
                by_cases hqt : q < r.length
                · obtain ⟨xb2, xo2, rfl, hx2⟩ := (HRX.out.of_both HB4.out HB5.out).cellAt hqt
                  have i3 : (0 : Int) ≤ q ∧ (q : Int) < r.length := by omega
                  have HNX := Lib.hid (fun (h : 0 ≤ r[q]?.getD 0 ∧ r[q]?.getD 0 < l.length) (a : Nat) (ha : a < q + 1) => if e : a = q then e ▸ h else HA5.out a (by omega))
                  have HRN := Lib.hid (fun h => HNO.out (row_no (n := l.length) hqt h))
                  obtain ⟨x, ex⟩ : ∃ x, x = r[q]?.getD 0 := ⟨_, rfl⟩
                  rw [← ex] at hx2 HNX HRN
                  clear ex
                  by_cases h0 : x < 0
                  · have hz : z = false := by rw [HZ.out]; unfold sysB; rw [HRN.out (by omega)]; simp
                    go_wp2_with fail
                    go_ret
                    exact ⟨by first | (rw [hz]; rfl) | rfl | (subst hz; rfl), HB5.out⟩
                  · by_cases h1 : (l.length : Int) ≤ x
                    · have hz : z = false := by rw [HZ.out]; unfold sysB; rw [HRN.out (by omega)]; simp
                      go_wp2_with fail
                      go_ret
                      exact ⟨by first | (rw [hz]; rfl) | rfl | (subst hz; rfl), HB5.out⟩
                    · have HN := Lib.hid (HNX.out (by omega))
                      go_wp2_with fail
                      go_roundw
                      case rel => exact ⟨q + 1, by omega, by go_num, HB5.out, Lib.hid HN.out⟩
                      case measure => simp [intOf]; omega
                · have HN := Lib.hid (HYES.out (row_yes fun a ha => HA5.out a (by omega)))
                  go_wp2_with fail
                  go_roundw
                  case rel => exact ⟨i + 1, by omega, by go_num, HB5.out, Lib.hid HN.out⟩
                  case measure => simp [intOf]; omega
            · have hz : z = true := by
                rw [HZ.out]
                unfold sysB
                rw [decide_eq_true (by omega), decide_eq_true HB.out, HR.out, HLF.out, rows_yes fun a ha => HA.out a (by omega)]
                rfl
              have hjz : ¬ ((i : Int) < to.length) := by omega
              go_wp2_with fail
              go_ret
              exact ⟨by first | (rw [hz]; rfl) | rfl | (subst hz; rfl), HB4.out⟩
    · have hz : z = false := by rw [HZ.out]; unfold sysB; rw [decide_eq_false hB]; simp
      have hq1 : ((to.length : Int) == (l.length : Int)) = false := by simp; omega
      have hq2 : ((to.length : Int) != (l.length : Int)) = true := by simp; omega
      clear hB
      go_enter Tryd.func10, Tryd.ntmps10
      go_wp2_with fail
      go_ret
      exact ⟨by first | (rw [hz]; rfl) | rfl | (subst hz; rfl), HB0.out⟩
end Go.Proofs.YtkoofibhddkpiaaDoor

/-! solve: Solve -/
namespace Go.Proofs.YtkoofibhddkpiaaDoor
open Go.RowKit
open SV (Lab SysOk Least labs sumOf LoopI mu sumP at' natsL askT askI fanN lok TellI)
theorem height_bd {xs : List Int} (h : LL.rightB xs = true) (hw : Wide xs) : LL.heightN xs ≤ 64 := by
  have ho := LL.right_ord h
  have hl := (LL.ord_len ho).2
  rcases LL.maxUp_hit (LL.longL xs) xs.length with h1 | ⟨k, hk, h1⟩
  · unfold LL.heightN
    omega
  · have := LL.long_bd ho hw hk
    unfold LL.heightN
    omega
/-- labels as the theory has them -/
def natL (l : List (Int × Int)) : List Lab := l.map fun p => (p.1.toNat, p.2)
def sysL (l : List (Int × Int)) (to : List (List Int)) : SV.Sys Lab := ⟨natL l, natsL to⟩
def WideL (l : List (Int × Int)) : Prop := ∀ p ∈ l, 0 ≤ p.2 ∧ p.2 ≤ 18446744073709551615
theorem natL_len (l : List (Int × Int)) : (natL l).length = l.length := by simp [natL]
theorem natL_at {l : List (Int × Int)} {i : Nat} (h : i < l.length) : at' (natL l) i = ((l[i]?.getD s0).1.toNat, (l[i]?.getD s0).2) := by
  unfold natL at'
  rw [List.getElem?_map, List.getElem?_eq_getElem h]
  rfl
theorem natL_sum (xs : List Int) (l : List (Int × Int)) : (natL l).map (sumOf xs) = l.map (sumF xs) := by
  unfold natL
  rw [List.map_map]
  rfl
theorem nd_at (l : List (Int × Int)) (to : List (List Int)) (i : Nat) : (sysL l to).nd i = (to[i]?.getD []).map Int.toNat := SV.natsL_at to i
theorem sys_ok {xs : List Int} {l : List (Int × Int)} {to : List (List Int)} (hr : LL.rightB xs = true) (hw : Wide xs) (hwl : WideL l) (hn : to.length = l.length) (hin : ∀ j, j < l.length → 0 ≤ (l[j]?.getD s0).1 ∧ (l[j]?.getD s0).1 < xs.length) (hti : ∀ a : Nat, ∀ x ∈ to[a]?.getD [], 0 ≤ x ∧ x < to.length) : SysOk (labs xs hr hw) (sysL l to) := by
  refine ⟨by show (natsL to).length = (natL l).length; simp [natsL, natL, hn], fun i hi => ?_, fun i hi j hj => ?_⟩
  · have hi2 : i < l.length := by have : (natL l).length = l.length := natL_len l; exact this ▸ hi
    show lok xs (at' (natL l) i)
    rw [natL_at hi2]
    have h1 := hin i hi2
    have h2 := hwl _ (GG.getD_mem (d := s0) hi2)
    exact ⟨by simp only; omega, h2.1, h2.2⟩
  · rw [nd_at] at hj
    obtain ⟨x, hx, rfl⟩ := List.mem_map.1 hj
    have := hti i x hx
    show x.toNat < (natL l).length
    rw [natL_len]
    omega
theorem ask_rows (to : List (List Int)) (v : Nat) : askI to to.length 0 v = (SV.ask (natsL to) v).map Int.ofNat := by
  unfold askI SV.ask
  rw [show (natsL to).length = to.length by simp [natsL]]
/-- all that can be left to grow, and the values -/
def topN (xs : List Int) (l : List (Int × Int)) (hr : LL.rightB xs = true) (hw : Wide xs) : Nat := (natL l).length + sumP (labs xs hr hw) (natL l)
theorem top_bd {xs : List Int} {l : List (Int × Int)} {to : List (List Int)} (hr : LL.rightB xs = true) (hw : Wide xs) (hS : SysOk (labs xs hr hw) (sysL l to)) (hl : l.length ≤ 16384) : topN xs l hr hw ≤ 16384 + 16384 * 128 := by
  have h1 := SV.sumP_le (M := labs xs hr hw) (natL l) 128 (fun i hi => by
    have h2 := SV.pot_le xs (hS.ok i hi).1
    have h3 := height_bd hr hw
    show SV.lpot xs (at' (natL l) i) ≤ 128
    have h4 : SV.lpot xs (at' (sysL l to).C i) = SV.lpot xs (at' (natL l) i) := rfl
    omega)
  have h5 := natL_len l
  have h6 : (natL l).length * 128 ≤ 16384 * 128 := Nat.mul_le_mul_right _ (by omega)
  unfold topN
  omega
/-- the first in the order is taken -/
theorem TellP.nexted {W V : World} {wb B mb sb sc n v : Nat} {av ov pv lv lv' : Value} {pl l l' : List Int} {st : List (Int × Int) × List Nat} {q' : List Nat} (h : TellP W wb B mb sb sc n av ov pv lv pl l st) (hk : WK wb mb B W V) (hw : WaitP V wb B mb (.slice (some ⟨sb, 0, none⟩) n sc) av ov pv lv' pl l' q') (hq : st.2.Perm (v :: q')) (hp : l'.Perm (plAt pl q')) : TellP V wb B mb sb sc n av ov pv lv' pl l' (st.1, q') :=
  ⟨hw, h.len, SS.own_of_block h.sums (fun k e => by have h2 : k = sb := (by cases e; rfl); subst h2; exact hk.block _ h.slt h.sne.1 h.sne.2), h.slt, h.sne, h.spl, hp, (List.nodup_cons.1 (hq.nodup_iff.1 h.nodup)).2, fun u hu => h.qlt u (hq.mem_iff.2 (List.mem_cons_of_mem _ hu))⟩
def SolveE (xs : List Int) (l : List (Int × Int)) (to : List (List Int)) (W : World) (e : Ending) (V : World) : Prop :=
  Below W.heap.size W V ∧ ((sysB xs l to = false ∧ e = .returned (.tuple #[.slice none 0 0, .int .i64 0, .int .i64 1])) ∨
    (sysB xs l to = true ∧ ∃ (hr : LL.rightB xs = true) (hw : Wide xs) (sol : List Lab) (k : Nat) (lv : Value), e = .returned (.tuple #[lv, .int .i64 (k : Int), .int .i64 0]) ∧ V.ownsRow W.heap.size 49 2 lv sol.length (labC sol) ∧
      Least (labs xs hr hw) (sysL l to) sol ∧ l.length ≤ k ∧ k ≤ l.length + l.length * fanN (natsL to) * (LL.heightN xs + 64)))
set_option maxRecDepth 100000 in
set_option maxHeartbeats 6400000 in
theorem solve_any {uv cv nv : Value} {xs : List Int} {l : List (Int × Int)} {to : List (List Int)} (W : World) (hu : Nums .u64 W.heap.size W uv xs) (hx : Wide xs) (hxl : xs.length ≤ big5) (hT : Tz W) (hv : LabRow W.heap.size W cv l) (hwl : WideL l) (hg : GraphM W.heap.size W nv to) (hl : l.length ≤ 17592186044416) (htl : to.length ≤ 17592186044416) (hm : ∀ a : Nat, (to[a]?.getD []).length ≤ 1000000) :
    Calls Tryd.prog 6 #[uv, .agg #[cv, nv]] W fun e V => SolveE xs l to W e V := by
  obtain ⟨ua, uc, rfl⟩ := hu.form
  obtain ⟨ca, cc, rfl⟩ := hv.form
  obtain ⟨na, nc, rfl⟩ := hg.form
  have HU := Lib.hid hu
  have HX := Lib.hid hx
  have HXL := Lib.hid hxl
  have HT := Lib.hid hT
  have HL := Lib.hid hv
  have HWL := Lib.hid hwl
  have HG := Lib.hid hg
  have HLL := Lib.hid hl
  have HTL := Lib.hid htl
  have HTM := Lib.hid hm
  have HR := Lib.hid (fun w (hb : Below W.heap.size W w) => sright_any w ((HU.out.below hb).mono hb.size) hx hxl (hT.on hb) ((HL.out.below hb).mono hb.size) ((HG.out.below hb).mono hb.size) hl htl (fun a => Nat.le_trans (hm a) (by omega)))
  obtain ⟨z, ez⟩ : ∃ z, z = sysB xs l to := ⟨_, rfl⟩
  have HZ := Lib.hid ez
  clear hu hx hxl hT hv hwl hg hl htl hm ez
  have HB0 := Lib.hid (show Below W.heap.size W (W.alloc (.cells #[.slice ca l.length cc, .slice na to.length nc] 26)) from (Below.refl _ _).alloc (Nat.le_refl _) _)
  cases z with
  | false =>
    go_enter Tryd.func6, Tryd.ntmps6
    go_wp2_with (go_at_call 10; refine (HR.out _ HB0.out).mono ?_; rintro e w2 ⟨rfl, hb2⟩; rw [← HZ.out]; have HB2 := Lib.hid (HB0.out.trans (hb2.mono HB0.out.size)); clear hb2)
    go_ret3
    exact ⟨HB2.out, .inl ⟨HZ.out.symm, rfl⟩⟩
  | true =>
    obtain ⟨hln, htn, hr, hin, hti⟩ := sys_parts HZ.out.symm
    have HIN := Lib.hid hin
    have HTI := Lib.hid hti
    have HRB := Lib.hid hr
    have HTN := Lib.hid htn
    have HLN := Lib.hid hln
    have HX64 := Lib.hid (show xs.length ≤ 64 from (LL.ord_len (LL.right_ord hr)).2)
    have HS := Lib.hid (sys_ok hr HX.out HWL.out htn hin hti)
    have HTOP := Lib.hid (top_bd hr HX.out HS.out hln)
    clear hln htn hin hti
    go_enter Tryd.func6, Tryd.ntmps6
    go_wp2_with (first
      | (go_at_call 10; refine (HR.out _ HB0.out).mono ?_; rintro e w2 ⟨rfl, hb2⟩; rw [← HZ.out]; have HB2 := Lib.hid (HB0.out.trans (hb2.mono HB0.out.size)); have hc0 := (hb2.cell (p := ⟨W.heap.size, 0, none⟩) (by simp)).trans (cell_of_row _ _ 0 _ _ _ (heap_alloc_new _ _)); have hc1 := (hb2.cell (p := ⟨W.heap.size, 1, none⟩) (by simp)).trans (cell_of_row _ _ 1 _ _ _ (heap_alloc_new _ _)); clear hb2)
      | (go_at_call 11; refine (begin_any _ ((HU.out.below HB2.out).mono HB2.out.size) ((HL.out.below HB2.out).mono HB2.out.size) ((HG.out.below HB2.out).mono HB2.out.size) HX64.out (Nat.le_trans HLN.out (by decide)) HIN.out HTN.out HTM.out HTI.out).mono ?_; rintro e w3 ⟨wb, rfl, hb3, hcase⟩; have HB3 := Lib.hid (HB2.out.trans (hb3.mono HB2.out.size)); have HCS := Lib.hid hcase; clear hcase hb3 hc0 hc1))
    rcases HCS.out with ⟨hn0, sv, c1, c2, c3, mv, hW, hO⟩ | ⟨hn0, B, mb, sb, sc, ab, ov, pv, lv, pl, ll, vs, q, hL, hq⟩
    · have HN0 := Lib.hid hn0
      have HW := Lib.hid hW
      have HO := Lib.hid hO
      obtain ⟨sa, sc, rfl⟩ := SS.ownOf hO
      have HLE := Lib.hid (show Least (labs xs hr HX.out) (sysL l to) [] ∧ (sysL l to).C.length ≤ 0 ∧ _ from SV.loop_end HS.out (SV.loop_start HS.out (q := []) List.nodup_nil (fun v => by
        have e1 : (sysL l to).C.length = l.length := natL_len l
        rw [e1, HN0.out]; simp) |> fun h => (show LoopI (labs xs hr HX.out) (sysL l to) 0 [] [] from by
          have e1 : (sysL l to).C = [] := List.length_eq_zero_iff.1 ((natL_len l).trans HN0.out)
          rw [e1] at h
          exact h)))
      have hcl := hW.cells.2.2.2.2.1
      have hcs := hW.cells.1
      clear HCS hn0 hW hO
      go_loopw [8] (fun k wr => k = .int .i64 0 ∧ wr = w3) (fun k _ => 0)
      case atStart => exact ⟨rfl, rfl⟩
      case round =>
        obtain ⟨rfl, e8⟩ := hrel
        rewrite [e8]
        clear e8
        go_wp2_with (go_at_call 14; refine (labels_any (s := []) _ HRB.out ((HU.out.below HB3.out).mono HB3.out.size) (SS.own_lower (Nat.zero_le _) HO.out) HX64.out (by simp) (fun j hj => by simp at hj)).mono ?_; rintro e w4 ⟨lv, rfl, hlv, hb4⟩; have HF := Lib.hid (show SolveE xs l to W (.returned (.tuple #[lv, .int .i64 0, .int .i64 0])) w4 from ⟨HB3.out.trans (hb4.mono HB3.out.size), .inr ⟨HZ.out.symm, HRB.out, HX.out, [], 0, lv, rfl, SS.own_lower HB3.out.size hlv, HLE.out.1, by rw [HN0.out]; exact Nat.le_refl _, Nat.zero_le _⟩⟩); clear hlv hb4)
        go_ret3
        exact HF.out
    · have HN0 := Lib.hid hn0
      have HL3 := Lib.hid hL
      have HQ3 := Lib.hid hq
      have HNL := Lib.hid (natL_len l)
      have HLI := Lib.hid (show LoopI (labs xs hr HX.out) (sysL l to) 0 (natL l) q from SV.loop_start HS.out ((hL.tell).nodup) (fun v => by
        rw [hq v]
        show v < l.length ↔ v < (natL l).length
        rw [natL_len]))
      clear HCS hn0 hL hq
      go_loopw [8] (fun k wr => ∃ (m : Nat) (lv : Value) (ll : List Int) (s : List Lab) (q : List Nat), k = .int .i64 (m : Int) ∧ LoopP w2 wr B wb mb sb sc ab l.length ov pv lv pl ((SV.ordL (GG.adjOf to) to.length).map Int.ofNat) ll vs (fun j => askI to to.length 0 j) (s.map (sumOf xs), q) ∧ LoopI (labs xs hr HX.out) (sysL l to) m s q) (fun k _ => topN xs l hr HX.out - (intOf k).toNat)
      case atStart => exact ⟨0, _, _, natL l, q, rfl, by rw [natL_sum]; exact HL3.out, HLI.out⟩
      case round =>
        obtain ⟨m, lv, ll, s, q, rfl, hL, hI⟩ := hrel
        have HL4 := Lib.hid hL
        have HI4 := Lib.hid hI
        have HSM := Lib.hid hL.tell.small
        have hW := hL.tell.wait.line.work
        have hcl := hW.cells.2.2.2.2.1
        have hcs := hW.cells.1
        obtain ⟨la, lc, rfl⟩ := SS.ownOf hL.tell.wait.line.own
        have HMB := Lib.hid (show m + mu (labs xs hr HX.out) s q ≤ topN xs l hr HX.out from hI.2.2.1)
        have hmi : (m : Int) ≤ 4294967296 := by have h1 := HMB.out; have h2 := HTOP.out; omega
        have HPR := Lib.hid hL.tell.perm
        have HLQ := Lib.hid (show ll.length = q.length by have h1 := hL.tell.perm.length_eq; unfold plAt at h1; rw [List.length_map] at h1; exact h1)
        clear hL hI HL3 HLI HQ3 hW
        by_cases hz : ll.length = 0
        · have HE := Lib.hid (show q = [] from List.length_eq_zero_iff.1 (by have := HLQ.out; omega))
          have hlz : ¬ ((0 : Int) < (ll.length : Int)) := by omega
          have HND := Lib.hid (show _ from SV.loop_end HS.out (by have h1 := HI4.out; rw [HE.out] at h1; exact h1))
          have HSL := Lib.hid (show s.length = l.length from HI4.out.1.len.trans (natL_len l))
          go_wp2_with (go_at_call 14; refine (labels_any (s := s) _ HRB.out ((HU.out.below (HB2.out.trans (HL4.out.below.mono HB2.out.size))).mono (HB2.out.trans (HL4.out.below.mono HB2.out.size)).size) (by have h1 := HL4.out.tell.sums; rw [← HSL.out] at h1 ⊢; exact h1) HX64.out (by rw [HSL.out]; exact Nat.le_trans HLN.out (by decide)) (fun j hj => (HI4.out.1.ok j (by rw [← HI4.out.1.len]; exact hj)).1)).mono ?_; rintro e w4 ⟨lv4, rfl, hlv, hb4⟩; have HF := Lib.hid (show SolveE xs l to W (.returned (.tuple #[lv4, .int .i64 (m : Int), .int .i64 0])) w4 from ⟨(HB2.out.trans (HL4.out.below.mono HB2.out.size)).trans (hb4.mono (HB2.out.trans (HL4.out.below.mono HB2.out.size)).size), .inr ⟨HZ.out.symm, HRB.out, HX.out, s, m, lv4, rfl, SS.own_lower (HB2.out.trans (HL4.out.below.mono HB2.out.size)).size hlv, HND.out.1, by have h1 := HND.out.2.1; have e1 : (sysL l to).C.length = l.length := natL_len l; omega, by
            have h1 := SV.looks_le HRB.out HX.out HS.out HND.out.2.2.1 HND.out.2.2.2
            have e1 : (sysL l to).C.length = l.length := natL_len l
            rw [e1] at h1
            exact h1⟩⟩); clear hlv hb4)
          go_ret3
          exact HF.out
        · have i1 : (0 : Int) < (ll.length : Int) := by omega
          have HL0 := Lib.hid (show 0 < ll.length by omega)
          go_wp2_with (first
            | (go_at_call 13
               refine (next_any HL4.out.tell.wait (by have h1 := HSM.out.2; have h2 := HLN.out; omega) HL0.out HPR.out (fun v hv => HL4.out.inv v (HL4.out.tell.qlt v hv)) HL4.out.tell.nodup (fun v hv => by have h1 := HL4.out.tell.qlt v hv; have h2 := HLN.out; omega) HL4.out.ord (fun k e => ⟨(HL4.out.olt k e).1, (HL4.out.olt k e).2.1⟩)).mono ?_
               rintro e w5 ⟨v, q5, lv5, l5, rfl, hk5, hw5, hq5, hp5⟩
               have HQ5 := Lib.hid hq5
               have HV5 := Lib.hid (show v < l.length from HL4.out.tell.qlt v (hq5.mem_iff.2 (List.mem_cons_self ..)))
               have HL5 := Lib.hid (HL4.out.step (hk5.sk sb) (HL4.out.tell.nexted hk5 hw5 hq5 hp5))
               clear hk5 hw5 hq5 hp5 hcl hcs)
            | (go_at_call 12
               refine (tell_any (r := SV.ask (natsL to) v) HL5.out.tell (Nat.le_trans HLN.out (by decide)) HL5.out.plen HV5.out (fun o ho => by have h1 := (SV.mem_ask.1 ho).1; have h2 := HTN.out; simp [natsL] at h1; omega) (by
                 have h1 := SV.askI_len (to := to) (m := 1000000) HTM.out to.length 0 v
                 rw [ask_rows, List.length_map] at h1
                 have h2 := HTN.out
                 have h3 := HLN.out
                 omega) (HL5.out.tab v HV5.out) (by have h1 := HL5.out.own v HV5.out; rw [ask_rows, List.length_map] at h1; exact h1) (HL5.out.oth v HV5.out)).mono ?_
               rintro e w6 ⟨rfl, hk6, lv6, l6, hT6⟩
               obtain ⟨s6, he6, hI6⟩ := SV.tell_bridge HRB.out HX.out HS.out (SV.tell_start HI4.out.1 HS.out HQ5.out) _ (Nat.le_refl _)
               have HI6 := Lib.hid (SV.loop_step HS.out HI4.out HQ5.out hI6).1
               have HL6 := Lib.hid (HL5.out.step hk6 hT6)
               have HE6 := Lib.hid he6
               clear hk6 hT6 he6 hI6))
          go_roundw
          case rel => exact ⟨m + 1, _, _, s6, _, by go_num, by rw [← HE6.out]; exact HL6.out, HI6.out⟩
          case measure =>
            have h1 := HMB.out
            have h2 : q.length ≤ mu (labs xs hr HX.out) s q := by unfold mu; omega
            have h3 := HLQ.out
            have h4 := HL0.out
            simp [intOf]
            omega
end Go.Proofs.YtkoofibhddkpiaaDoor

/-! layer 17's reference: labels; may one be; joins -/
namespace Go.Proofs.YtkoofibhddkpiaaDoor
open Go.RowKit
open SV (Lab SysOk Least labs sumOf mu sumP at' natsL askT askI fanN lok)
theorem eq_lab (a b c d : Int) (w : World) : (Op.equalIn 10000 49 (.agg #[.int .i64 a, .int .u64 b]) (.agg #[.int .i64 c, .int .u64 d])).run Tryd.prog w = .ok (decide (a = c) && decide (b = d)) w := by
  go_simp
  by_cases h1 : a = c <;> by_cases h2 : b = d <;> simp [h1, h2]
/-- labels as the program has them -/
def labI (s : List Lab) : List (Int × Int) := s.map fun a => ((a.1 : Int), a.2)
theorem labI_len (s : List Lab) : (labI s).length = s.length := by simp [labI]
theorem labC_at {s : List Lab} {i : Nat} (h : i < s.length) : (labC s)[i * 2]? = some (.int .i64 ((labI s)[i]?.getD s0).1) ∧ (labC s)[i * 2 + 1]? = some (.int .u64 ((labI s)[i]?.getD s0).2) := by
  induction s generalizing i with
  | nil => simp at h
  | cons e s ih =>
    cases i with
    | zero => simp [labC, labI]
    | succ i =>
      have := ih (i := i) (by simpa using h)
      have e1 : (i + 1) * 2 = i * 2 + 2 := by omega
      rw [e1]
      unfold labC labI at this ⊢
      rw [List.flatMap_cons]
      simpa using this
theorem lab_own {V : World} {B : Nat} {lv : Value} {s : List Lab} (h : V.ownsRow B 49 2 lv s.length (labC s)) : LabRow V.heap.size V lv (labI s) := by
  obtain ⟨a, c, rfl⟩ := SS.ownOf h
  by_cases h0 : s.length = 0
  · have e : s = [] := List.length_eq_zero_iff.1 h0
    subst e
    refine .inl ⟨⟨a, c, rfl, fun e => ?_⟩, rfl⟩
    subst e
    rcases h.2 with ⟨e1, _⟩ | ⟨g, cap, cur, e1, _⟩
    · cases e1; rfl
    · cases e1
  · obtain ⟨g, cap, e⟩ := SS.own_some h (by omega)
    cases e
    refine .inr ⟨g, 0, _, by rw [labI_len], (h.lt g rfl).2, fun j hj => ?_⟩
    rw [labI_len] at hj
    have h2 := labC_at hj
    rw [Nat.zero_add]
    exact ⟨own_cellZ h h2.1, own_cellZ h h2.2⟩
theorem LabRow.drewN {n₀ : Nat} {W : World} {v : Value} {l : List (Int × Int)} (h : LabRow n₀ W v l) (d : Nat) : LabRow n₀ (W.drewN d) v l := h.below ⟨rfl, rfl, rfl, Nat.le_refl _, fun _ _ => rfl⟩
set_option maxRecDepth 100000 in
set_option maxHeartbeats 3200000 in
theorem rsame17_any (a b : Value) (xs ys : List (Int × Int)) (n : Nat) (w : World) (ha : LabRow n w a xs) (hb : LabRow n w b ys) (hx : xs.length ≤ 17592186044416) (hy : ys.length ≤ 17592186044416) :
    Calls Tryd.prog 7 #[a, b] w fun e w' => e = .returned (.bool (decide (xs = ys))) ∧ ∃ d, w' = w.drewN d := by
  obtain ⟨aa, ca, rfl⟩ := ha.form
  obtain ⟨ab, cb, rfl⟩ := hb.form
  by_cases hl : xs.length = ys.length
  · have hne : ((xs.length : Int) != (ys.length : Int)) = false := by rw [bne_eq_false_iff_eq]; omega
    have hl1 : xs.length ≤ ys.length := by omega
    have hl2 : ys.length ≤ xs.length := by omega
    have HL := Lib.hid hl
    have HA := Lib.hid ha
    have HB := Lib.hid hb
    clear hl ha hb
    go_enter Tryd.func7, Tryd.ntmps7
    go_wp2_with fail
    go_loopw [5] (fun k wr => ∃ j d : Nat, j ≤ xs.length ∧ k = .int .i64 (j : Int) ∧ RowKit.Hid (wr = w.drewN d) ∧ RowKit.Hid (xs.take j = ys.take j)) (fun k _ => xs.length - (intOf k).toNat)
    case atStart => exact ⟨0, 0, by omega, rfl, Lib.hid rfl, Lib.hid rfl⟩
    case round =>
      obtain ⟨j, d, hj, rfl, HW, HT⟩ := hrel
      by_cases hlt : j < xs.length
      · obtain ⟨xb, xo, rfl, _, hx1, hx2⟩ := (show LabRow n wr _ xs by rw [HW.out]; exact HA.out.drewN d).at hlt
        obtain ⟨yb, yo, rfl, _, hy1, hy2⟩ := (show LabRow n wr _ ys by rw [HW.out]; exact HB.out.drewN d).at (show j < ys.length by omega)
        have i1 : (0 : Int) ≤ j ∧ (j : Int) < xs.length := by omega
        have i2 : (0 : Int) ≤ j ∧ (j : Int) < ys.length := by omega
        obtain ⟨x, ex⟩ : ∃ x, x = xs[j]?.getD s0 := ⟨_, rfl⟩
        obtain ⟨y, ey⟩ : ∃ y, y = ys[j]?.getD s0 := ⟨_, rfl⟩
        rw [← ex] at hx1 hx2
        rw [← ey] at hy1 hy2
        have EX := Lib.hid ex
        have EY := Lib.hid ey
        clear ex ey
        by_cases hxy : x = y
        · subst hxy
          have HT' := Lib.hid (GG.take_same hlt (show j < ys.length by omega) HT.out (EX.out.symm.trans EY.out))
          have hE : ∀ w, (Op.equalIn 10000 49 (.agg #[.int .i64 x.1, .int .u64 x.2]) (.agg #[.int .i64 x.1, .int .u64 x.2])).run Tryd.prog w = .ok true w := fun w => by rw [eq_lab]; simp
          clear HT EX EY
          go_wp2_with fail
          go_quiet (fail)
          go_wp2_with fail
          go_roundw
          case rel => exact ⟨j + 1, _, by omega, by go_num, Lib.hid (by rw [HW.out]; exact World.drewN_drewN _ _ _), HT'⟩
          case measure => simp [intOf]; omega
        · have HS := Lib.hid (show decide (xs = ys) = false from decide_eq_false (fun e => hxy (by rw [EX.out, EY.out, e])))
          have hE : ∀ w, (Op.equalIn 10000 49 (.agg #[.int .i64 x.1, .int .u64 x.2]) (.agg #[.int .i64 y.1, .int .u64 y.2])).run Tryd.prog w = .ok false w := fun w => by
            rw [eq_lab]
            by_cases h1 : x.1 = y.1
            · have h2 : ¬ x.2 = y.2 := fun e => hxy (Prod.ext h1 e)
              rw [decide_eq_false h2, Bool.and_false]
            · rw [decide_eq_false h1, Bool.false_and]
          clear HT EX EY hxy
          go_wp2_with fail
          go_quiet (fail)
          go_wp2_with fail
          go_ret
          exact ⟨ret_bool HS.out.symm, _, by rw [HW.out]; exact World.drewN_drewN _ _ _⟩
      · have HS := Lib.hid (show decide (xs = ys) = true from decide_eq_true (GG.take_whole (by omega) (by omega) HT.out))
        clear HT
        go_wp2_with fail
        go_ret
        exact ⟨ret_bool HS.out.symm, _, HW.out⟩
  · have hne : ((xs.length : Int) != (ys.length : Int)) = true := by rw [bne_iff_ne]; omega
    have HS := Lib.hid (show decide (xs = ys) = false from decide_eq_false (fun e => hl (by rw [e])))
    clear hl ha hb
    go_enter Tryd.func7, Tryd.ntmps7
    go_wp2_with fail
    go_ret
    exact ⟨ret_bool HS.out.symm, 0, rfl⟩
/-- is a label at or below another one? -/
def lleqB (xs : List Int) (a b : Lab) : Bool := LL.ab xs a.1 b.1 && decide (bits .or .u64 a.2 b.2 = b.2)
def JoinE17 (xs : List Int) (a b : Nat) (m k : Int) (W : World) (e : Ending) (V : World) : Prop := e = .returned (.agg #[.int .i64 (LL.joinI xs a b), .int .u64 (bits .or .u64 m k)]) ∧ Below W.heap.size W V
theorem labs_held {a b : Int} {m k : Int} {N : Nat} {w V : World} (h1 : w.heap[N]? = some (.cells #[.int .i64 a, .int .u64 m] 49)) (h2 : w.heap[N + 1]? = some (.cells #[.int .i64 b, .int .u64 k] 49)) (e1 : V.heap[N]? = w.heap[N]?) (e2 : V.heap[N + 1]? = w.heap[N + 1]?) :
    V.cell? ⟨N, 0, none⟩ = some (.int .i64 a) ∧ V.cell? ⟨N, 1, none⟩ = some (.int .u64 m) ∧ V.cell? ⟨N + 1, 0, none⟩ = some (.int .i64 b) ∧ V.cell? ⟨N + 1, 1, none⟩ = some (.int .u64 k) := by
  rw [h1] at e1
  rw [h2] at e2
  refine ⟨?_, ?_, ?_, ?_⟩
  · simp [World.cell?, e1]
  · simp [World.cell?, e1]
  · simp [World.cell?, e2]
  · simp [World.cell?, e2]
end Go.Proofs.YtkoofibhddkpiaaDoor

/-! solve, plain: the chapter's example; a join of some as a least solution -/
namespace Go.Proofs.YtkoofibhddkpiaaDoor
open Go.RowKit
open SV (Lab SysOk Least labs sumOf mu sumP at' natsL askT askI fanN lok)
namespace SV
section
variable {L : Type} [Inhabited L] [DecidableEq L] {M : Semi L}
theorem pick_least {S : Sys L} (hS : SysOk M S) (h0 : 0 < S.C.length) (hz : ∀ j ∈ S.nd 0, j ≠ 0) (hn : ∀ i, 0 < i → S.nd i = []) {sol : List L} (h : Least M S sol) : at' sol 0 = val M S S.C 0 := by
  have hv := val_is hS hS.ok h0
  have h00 : at' (S.C.set 0 (val M S S.C 0)) 0 = val M S S.C 0 := by rw [at_set _ _ _ _ h0, if_pos rfl]
  have hj : ∀ j, j ≠ 0 → at' (S.C.set 0 (val M S S.C 0)) j = at' S.C j := fun j hj => by rw [at_set _ _ _ _ h0, if_neg hj]
  have ht : Least M S (S.C.set 0 (val M S S.C 0)) := by
    refine ⟨⟨by rw [List.length_set], fun i hi => ?_, fun i hi => ?_, fun i hi j hm => ?_⟩, fun t ht i hi => ?_⟩
    · by_cases e : i = 0
      · subst e; rw [h00]; exact hv.1
      · rw [hj i e]; exact hS.ok i hi
    · by_cases e : i = 0
      · subst e; rw [h00]; exact hv.2.1
      · rw [hj i e]; exact le_refl (hS.ok i hi)
    · by_cases e : i = 0
      · subst e
        rw [h00, hj j (hz j hm)]
        exact hv.2.2.1 j hm
      · rw [hn i (by omega)] at hm
        simp at hm
    · by_cases e : i = 0
      · subst e
        rw [h00]
        exact hv.2.2.2 _ (ht.ok 0 hi) (ht.base 0 hi) (fun j hm => le_trans (hS.ok j (hS.lt 0 hi j hm)) (ht.ok j (hS.lt 0 hi j hm)) (ht.ok 0 hi) (ht.base j (hS.lt 0 hi j hm)) (ht.need 0 hi j hm))
      · rw [hj i e]; exact ht.base i hi
  rw [least_one h ht, h00]
end
end SV
def exXs : List Int := [3, 2]
theorem exR : LL.rightB exXs = true := by decide +kernel
theorem exW : Wide exXs := by
  intro x hx
  simp [exXs] at hx
  rcases hx with rfl | rfl <;> decide
def ex17L : List (Int × Int) := [(0, 0), (1, 0), (0, 4)]
def ex17N : List (List Int) := [[1], [2], []]
theorem ex17_sys : sysB exXs ex17L ex17N = true := by decide +kernel
theorem ex17_least (hr : LL.rightB exXs = true) (hw : Wide exXs) : Least (labs exXs hr hw) (sysL ex17L ex17N) [(1, 4), (1, 4), (0, 4)] := by
  have hC : (sysL ex17L ex17N).C.length = 3 := by decide
  have ok : ∀ i, i < 3 → lok exXs (at' [((1, 4) : Lab), (1, 4), (0, 4)] i) := fun i hi => by
    match i, hi with
    | 0, _ => exact ⟨by decide, by decide, by decide⟩
    | 1, _ => exact ⟨by decide, by decide, by decide⟩
    | 2, _ => exact ⟨by decide, by decide, by decide⟩
  have hS := sys_ok hr hw (l := ex17L) (to := ex17N) (by
    intro p hp
    simp [ex17L] at hp
    rcases hp with rfl | rfl | rfl <;> decide) (by decide) (fun j hj => by
    match j, hj with
    | 0, _ => decide
    | 1, _ => decide
    | 2, _ => decide) (fun a x hx => by
    match a with
    | 0 => simp [ex17N] at hx; subst hx; decide
    | 1 => simp [ex17N] at hx; subst hx; decide
    | 2 => simp [ex17N] at hx
    | a + 3 => simp [ex17N] at hx)
  refine ⟨⟨by decide, fun i hi => ok i (by omega), fun i hi => ?_, fun i hi j hj => ?_⟩, fun t ht i hi => ?_⟩
  · rw [hC] at hi
    match i, hi with
    | 0, _ => show SV.ljoin exXs (0, 0) (1, 4) = (1, 4); decide +kernel
    | 1, _ => show SV.ljoin exXs (1, 0) (1, 4) = (1, 4); decide +kernel
    | 2, _ => show SV.ljoin exXs (0, 4) (0, 4) = (0, 4); decide +kernel
  · rw [hC] at hi
    match i, hi with
    | 0, _ => simp [SV.Sys.nd, sysL, natsL, ex17N] at hj; subst hj; show SV.ljoin exXs (1, 4) (1, 4) = (1, 4); decide +kernel
    | 1, _ => simp [SV.Sys.nd, sysL, natsL, ex17N] at hj; subst hj; show SV.ljoin exXs (0, 4) (1, 4) = (1, 4); decide +kernel
    | 2, _ => simp [SV.Sys.nd, sysL, natsL, ex17N] at hj
  · rw [hC] at hi
    have k0 : 0 < (sysL ex17L ex17N).C.length := by omega
    have k1 : 1 < (sysL ex17L ex17N).C.length := by omega
    have k2 : 2 < (sysL ex17L ex17N).C.length := by omega
    have t2 : SV.le (labs exXs hr hw) ((0, 4) : Lab) (at' t 2) := ht.base 2 k2
    have t21 := ht.need 1 k1 2 (by decide)
    have t10 := ht.need 0 k0 1 (by decide)
    have b1 : SV.le (labs exXs hr hw) ((1, 0) : Lab) (at' t 1) := ht.base 1 k1
    have c1 : SV.le (labs exXs hr hw) ((1, 4) : Lab) (at' t 1) := by
      have h := SV.le_lub (M := labs exXs hr hw) (a := ((1, 0) : Lab)) (b := (0, 4)) ⟨by decide, by decide, by decide⟩ (ok 2 (by omega)) (ht.ok 1 k1) b1 (SV.le_trans (ok 2 (by omega)) (ht.ok 2 k2) (ht.ok 1 k1) t2 t21)
      rw [show (labs exXs hr hw).join ((1, 0) : Lab) (0, 4) = (1, 4) from (show SV.ljoin exXs (1, 0) (0, 4) = (1, 4) by decide +kernel)] at h
      exact h
    match i, hi with
    | 0, _ => exact SV.le_trans (ok 1 (by omega)) (ht.ok 1 k1) (ht.ok 0 k0) c1 t10
    | 1, _ => exact c1
    | 2, _ => exact t2
end Go.Proofs.YtkoofibhddkpiaaDoor

/-! solve: the chapter's example -/
namespace Go.Proofs.YtkoofibhddkpiaaDoor
open Go.RowKit
open SV (Lab SysOk Least labs sumOf mu sumP at' natsL askT askI fanN lok)
theorem bel_dN {B : Nat} {W V : World} (h : Below B W V) (d : Nat) : Below B W (V.drewN d) := ⟨h.os, h.tape, h.output, h.size, h.block⟩
/-- labels' cells -/
def labV (l : List (Int × Int)) : List Value := l.flatMap fun p => [.int .i64 p.1, .int .u64 p.2]
theorem labV_at {s : List (Int × Int)} {i : Nat} (h : i < s.length) : (labV s)[i * 2]? = some (.int .i64 (s[i]?.getD s0).1) ∧ (labV s)[i * 2 + 1]? = some (.int .u64 (s[i]?.getD s0).2) := by
  induction s generalizing i with
  | nil => simp at h
  | cons e s ih =>
    cases i with
    | zero => simp [labV]
    | succ i =>
      have := ih (i := i) (by simpa using h)
      have e1 : (i + 1) * 2 = i * 2 + 2 := by omega
      rw [e1]
      unfold labV at this ⊢
      rw [List.flatMap_cons]
      simpa using this
theorem lab_block {W : World} {b : Nat} {l : List (Int × Int)} {t : TypeId} {fr : Nat × Nat} (h : W.heap[b]? = some (.cells (labV l).toArray t fr)) : LabRow W.heap.size W (.slice (some ⟨b, 0, none⟩) l.length l.length) l := by
  refine .inr ⟨b, 0, l.length, rfl, (Array.getElem?_eq_some_iff.1 h).1, fun j hj => ?_⟩
  have h2 := labV_at hj
  rw [Nat.zero_add]
  simp only [World.cell?, h]
  exact ⟨by simpa using h2.1, by simpa using h2.2⟩
theorem num_block {W : World} {b : Nat} {xs : List Int} {t : TypeId} {fr : Nat × Nat} {k : IntKind} (h : W.heap[b]? = some (.cells (xs.map (Value.int k)).toArray t fr)) : Nums k W.heap.size W (.slice (some ⟨b, 0, none⟩) xs.length xs.length) xs := by
  refine .inr ⟨b, 0, xs.length, rfl, (Array.getElem?_eq_some_iff.1 h).1, Nat.le_refl _, fun j hj => ?_⟩
  simp only [World.cell?, h, Nat.zero_add]
  simp [List.getElem?_eq_getElem hj]
theorem row_block {W : World} {b : Nat} {xs : List Int} {t : TypeId} {fr : Nat × Nat} (h : W.heap[b]? = some (.cells (intsV xs).toArray t fr)) : Row W.heap.size W (.slice (some ⟨b, 0, none⟩) xs.length xs.length) xs :=
  .inr ⟨b, 0, xs.length, by rw [intsV_len], (Array.getElem?_eq_some_iff.1 h).1, by rw [intsV_len]; exact Nat.le_refl _, fun j u hj => by
    simp only [World.cell?, h, Nat.zero_add]
    simpa using hj⟩
/-- the example in memory -/
def ex17W (W : World) : World := (((((W.alloc (.cells #[.int .i64 0, .int .u64 0, .int .i64 1, .int .u64 0, .int .i64 0, .int .u64 4] 49)).alloc (.cells #[.int .i64 1] 3)).alloc (.cells #[.int .i64 2] 3)).alloc (.cells #[.slice (some ⟨W.heap.size + 1, 0, none⟩) 1 1, .slice (some ⟨W.heap.size + 1 + 1, 0, none⟩) 1 1, .slice none 0 0] 29)).alloc (.cells #[.slice (some ⟨W.heap.size, 0, none⟩) 3 3, .slice (some ⟨W.heap.size + 1 + 1 + 1, 0, none⟩) 3 3] 26)).alloc (.cells #[.int .u64 3, .int .u64 2] 47)
theorem ex17_below (W : World) : Below W.heap.size W (ex17W W) := ((((((Below.refl _ _).alloc (Nat.le_refl _) _).alloc (by simp) _).alloc (by simp <;> omega) _).alloc (by simp <;> omega) _).alloc (by simp <;> omega) _).alloc (by simp <;> omega) _
theorem ex17_mem (W : World) : LabRow (ex17W W).heap.size (ex17W W) (.slice (some ⟨W.heap.size, 0, none⟩) 3 3) ex17L ∧ GraphM (ex17W W).heap.size (ex17W W) (.slice (some ⟨W.heap.size + 1 + 1 + 1, 0, none⟩) 3 3) ex17N ∧ Nums .u64 (ex17W W).heap.size (ex17W W) (.slice (some ⟨W.heap.size + 1 + 1 + 1 + 1 + 1, 0, none⟩) 2 2) exXs := by
  have hs : (ex17W W).heap.size = W.heap.size + 6 := by simp [ex17W]
  have h0 : (ex17W W).heap[W.heap.size]? = some (.cells (labV ex17L).toArray 49) := by
    unfold ex17W
    rw [heap_alloc_old _ _ (by simp <;> omega), heap_alloc_old _ _ (by simp <;> omega), heap_alloc_old _ _ (by simp <;> omega), heap_alloc_old _ _ (by simp <;> omega), heap_alloc_old _ _ (by simp), heap_alloc_new]
    rfl
  have h1 : (ex17W W).heap[W.heap.size + 1]? = some (.cells (intsV [1]).toArray 3) := by
    unfold ex17W
    rw [heap_alloc_old _ _ (by simp <;> omega), heap_alloc_old _ _ (by simp <;> omega), heap_alloc_old _ _ (by simp <;> omega), heap_alloc_old _ _ (by simp)]
    exact SS.new_at (by simp)
  have h2 : (ex17W W).heap[W.heap.size + 1 + 1]? = some (.cells (intsV [2]).toArray 3) := by
    unfold ex17W
    rw [heap_alloc_old _ _ (by simp <;> omega), heap_alloc_old _ _ (by simp <;> omega), heap_alloc_old _ _ (by simp)]
    exact SS.new_at (by simp)
  have h3 : (ex17W W).heap[W.heap.size + 1 + 1 + 1]? = some (.cells #[.slice (some ⟨W.heap.size + 1, 0, none⟩) 1 1, .slice (some ⟨W.heap.size + 1 + 1, 0, none⟩) 1 1, .slice none 0 0] 29) := by
    unfold ex17W
    rw [heap_alloc_old _ _ (by simp <;> omega), heap_alloc_old _ _ (by simp)]
    exact SS.new_at (by simp)
  have h5 : (ex17W W).heap[W.heap.size + 1 + 1 + 1 + 1 + 1]? = some (.cells ([3, 2].map (Value.int .u64)).toArray 47) := SS.new_at (by simp)
  refine ⟨lab_block h0, ⟨[.slice (some ⟨W.heap.size + 1, 0, none⟩) 1 1, .slice (some ⟨W.heap.size + 1 + 1, 0, none⟩) 1 1, .slice none 0 0], .inr ⟨W.heap.size + 1 + 1 + 1, 0, 3, rfl, by omega, Nat.le_refl 3, fun j u hj => ?_⟩, rfl, fun j hj => ?_⟩, num_block (xs := [3, 2]) h5⟩
  · simp only [World.cell?, h3, Nat.zero_add]
    simpa using hj
  · match j, hj with
    | 0, _ => exact ⟨_, rfl, row_block (xs := [1]) h1⟩
    | 1, _ => exact ⟨_, rfl, row_block (xs := [2]) h2⟩
    | 2, _ => exact ⟨_, rfl, cells_empty _ _ _ _ (fun _ => rfl)⟩
def ex17A : List (Int × Int) := [(1, 4), (1, 4), (0, 4)]
theorem ex17_small (a : Nat) : (ex17N[a]?.getD []).length ≤ 1000000 := by
  match a with
  | 0 => decide
  | 1 => decide
  | 2 => decide
  | a + 3 => simp [ex17N]
set_option maxRecDepth 100000 in
set_option maxHeartbeats 3200000 in
theorem awake17_any (W : World) (hT : Tz W) : Calls Tryd.prog 8 #[] W fun e V => e = .returned (.bool true) ∧ Below W.heap.size W V := by
  have HB0 := Lib.hid (ex17_below W)
  have HM := Lib.hid (ex17_mem W)
  have HSV := Lib.hid (solve_any (ex17W W) HM.out.2.2 exW (by decide) (hT.on (ex17_below W)) HM.out.1 (by intro p hp; simp [ex17L] at hp; rcases hp with rfl | rfl | rfl <;> decide) HM.out.2.1 (by decide) (by decide) ex17_small)
  clear hT
  go_enter Tryd.func8, Tryd.ntmps8
  go_wp2_with fail
  refine HSV.out.mono ?_
  rintro e w1 ⟨hb1, hcase⟩
  rcases hcase with ⟨h1, _⟩ | ⟨_, hr, hw, sol, k, lv, rfl, hown, hL, hk1, hk2⟩
  · rw [ex17_sys] at h1; cases h1
  have es := SV.least_one hL (ex17_least hr hw)
  subst es
  have HB1 := Lib.hid (HB0.out.trans (hb1.mono HB0.out.size))
  have HR := Lib.hid (lab_own hown)
  obtain ⟨la, lc, rfl⟩ := SS.ownOf hown
  have i1 : (3 : Int) ≤ (k : Int) := by have : ex17L.length = 3 := rfl; omega
  clear hown hL hk1 hk2 hb1 HSV
  have HR2 := Lib.hid (HR.out.below ((Below.refl w1.heap.size w1).alloc (Nat.le_refl _) (.cells #[.int .i64 1, .int .u64 4, .int .i64 1, .int .u64 4, .int .i64 0, .int .u64 4] 49)))
  have HQ := Lib.hid (lab_block (W := w1.alloc (.cells #[.int .i64 1, .int .u64 4, .int .i64 1, .int .u64 4, .int .i64 0, .int .u64 4] 49)) (b := w1.heap.size) (l := ex17A) (t := 49) (fr := (0, 0)) (SS.new_at rfl))
  have HB2 := Lib.hid (HB1.out.alloc HB1.out.size (.cells #[.int .i64 1, .int .u64 4, .int .i64 1, .int .u64 4, .int .i64 0, .int .u64 4] 49))
  go_wp2_with (go_at_call 7; go_loud (
    refine (rsame17_any _ _ ex17A ex17A _ _ (HR2.out.mono (by simp)) HQ.out (by decide) (by decide)).mono ?_
    rintro e w2 ⟨rfl, d, e2⟩
    rw [e2, decide_eq_true (rfl : ex17A = ex17A)]
    have HB3 := Lib.hid (bel_dN HB2.out d)
    clear e2))
  go_ret
  exact ⟨rfl, HB3.out⟩
end Go.Proofs.YtkoofibhddkpiaaDoor
