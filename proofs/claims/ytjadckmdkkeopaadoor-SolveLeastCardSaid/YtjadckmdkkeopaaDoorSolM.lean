import Derived.Test.YtjadckmdkkeopaaDoorSolZ
set_option linter.unusedSimpArgs false
set_option linter.unusedVariables false
/-! solve: how often the value is needed that is needed most -/
namespace Go.Proofs.YtjadckmdkkeopaaDoor
open Go.RowKit
open SV (Lab SysOk Least labs sumOf mu sumP at' natsL askT fanN cntN lok Bnd val valT)
namespace SV
theorem cnt_ask (N : List (List Nat)) (v : Nat) : cntN N v = (ask N v).length := by
  unfold ask askT cntN
  rw [List.take_zero, List.filter_nil, List.map_nil, List.append_nil, List.length_flatMap]
  congr 1
  apply List.ext_getElem
  · simp
  · intro i h1 h2
    have hi : i < N.length := by simpa using h1
    rw [List.getElem_map, List.getElem_map, List.getElem_range, List.getElem?_eq_getElem hi, Option.getD_some]
    simp [List.count, List.countP_eq_length_filter]
theorem maxUp_bump {f g : Nat → Nat} {n y : Nat} (hy : y < n) (h1 : g y = f y + 1) (h2 : ∀ j, j ≠ y → g j = f j) : LL.maxUp g n = max (LL.maxUp f n) (g y) := by
  induction n with
  | zero => omega
  | succ n ih =>
    show max (LL.maxUp g n) (g n) = max (max (LL.maxUp f n) (f n)) (g y)
    by_cases e : y = n
    · subst e
      rw [LL.maxUp_congr (f := g) (g := f) (fun k hk => h2 k (by omega)), h1]
      omega
    · rw [ih (by omega), h2 n (fun h => e h.symm)]
      omega
theorem maxUp_zero {f : Nat → Nat} {n : Nat} (h : ∀ j, f j = 0) : LL.maxUp f n = 0 := by
  induction n with
  | zero => rfl
  | succ n ih => show max (LL.maxUp f n) (f n) = 0; rw [ih, h]; rfl
end SV
/-- how often each has been needed, in the first i rows and k of the next -/
def cntQ (tq : List (List Int)) (i k j : Nat) : Nat := (askT (natsL tq) i k j).length
theorem cntQ_zero (tq : List (List Int)) (j : Nat) : cntQ tq 0 0 j = 0 := by unfold cntQ; rw [SV.askT_zero]; rfl
theorem cntQ_step {tq : List (List Int)} {i k y : Nat} (hk : k < (tq[i]?.getD []).length) (hy : (tq[i]?.getD [])[k]?.getD 0 = (y : Int)) (j : Nat) : cntQ tq i (k + 1) j = if j = y then cntQ tq i k j + 1 else cntQ tq i k j := by
  have h1 : ((natsL tq)[i]?.getD [])[k]? = some y := by
    rw [SV.natsL_at, List.getElem?_map, List.getElem?_eq_getElem hk, Option.map_some]
    rw [List.getElem?_eq_getElem hk, Option.getD_some] at hy
    rw [hy, Int.toNat_natCast]
  unfold cntQ
  rw [SV.askT_step h1, List.length_append]
  by_cases e : j = y
  · subst e; simp
  · rw [if_neg e, if_neg (fun e2 => e e2.symm)]; simp
theorem cntQ_row {tq : List (List Int)} {i k : Nat} (h : (tq[i]?.getD []).length ≤ k) (j : Nat) : cntQ tq i k j = cntQ tq (i + 1) 0 j := by
  unfold cntQ
  rw [SV.askT_row (by rw [SV.natsL_at, List.length_map]; exact h)]
theorem cntQ_len {tq : List (List Int)} {m : Nat} (h : ∀ a : Nat, (tq[a]?.getD []).length ≤ m) (i k j : Nat) : cntQ tq i k j ≤ i * m + m :=
  SV.askT_len (fun a => by rw [SV.natsL_at, List.length_map]; exact h a) i k j
theorem cntQ_all (tq : List (List Int)) (v : Nat) : cntQ tq tq.length 0 v = cntN (natsL tq) v := by
  rw [SV.cnt_ask]
  unfold cntQ SV.ask
  rw [show (natsL tq).length = tq.length by simp [natsL]]
theorem fan_all (tq : List (List Int)) : LL.maxUp (cntQ tq tq.length 0) tq.length = fanN (natsL tq) := by
  unfold fanN
  rw [show (natsL tq).length = tq.length by simp [natsL]]
  exact LL.maxUp_congr fun k _ => cntQ_all tq k
theorem maxUp_bd {f : Nat → Nat} {n b : Nat} (h : ∀ k, f k ≤ b) : LL.maxUp f n ≤ b := by
  rcases LL.maxUp_hit f n with e | ⟨k, _, e⟩
  · omega
  · rw [e]; exact h k
set_option maxRecDepth 100000 in
set_option maxHeartbeats 3200000 in
theorem fan_any {ca : Option Addr} {cn cc : Nat} {nv : Value} {tq : List (List Int)} (W : World) (hg : GraphM W.heap.size W nv tq) (hl : tq.length ≤ 1000) (hm : ∀ a : Nat, (tq[a]?.getD []).length ≤ 1000) (hin : ∀ a : Nat, ∀ x ∈ tq[a]?.getD [], 0 ≤ x ∧ x < tq.length) :
    Calls Tryd.prog 50 #[.agg #[.slice ca cn cc, nv]] W fun e V => e = .returned (.int .i64 (fanN (natsL tq) : Int)) ∧ Below W.heap.size W V := by
  obtain ⟨na, nc, rfl⟩ := hg.form
  have hmk := run_make_row' (P := Tryd.prog) 50 3 (.int .i64 0) 8 (by kernel_rfl) Tryd.infoGInt rfl .i64 .i64 tq.length (by omega) (by omega)
  have HG := Lib.hid hg
  have HM := Lib.hid hm
  have HI := Lib.hid hin
  have b0 : (tq.length : Int) ≤ 1000 := by omega
  have HBL := Lib.hid hl
  clear hg hm hin hl
  obtain ⟨W0, eW0⟩ : ∃ W0, W0 = (W.alloc (.cells #[.slice ca cn cc, .slice na tq.length nc] 26)).alloc (.cells (madeCells #[.int .i64 0] tq.length) 3) := ⟨_, rfl⟩
  have HB0 := Lib.hid (show Below W.heap.size W W0 by rw [eW0]; exact ((Below.refl _ _).alloc (Nat.le_refl _) _).alloc (by simp) _)
  have HR0 := Lib.hid (show W0.rowIs (W.heap.size + 1) 3 tq.length (fun j => .int .i64 (cntQ tq 0 0 j : Int)) by
    rw [eW0]
    have h := World.rowIs_made (W.alloc (.cells #[.slice ca cn cc, .slice na tq.length nc] 26)) (.int .i64 0) tq.length 3
    rw [show (W.alloc (.cells #[.slice ca cn cc, .slice na tq.length nc] 26)).heap.size = W.heap.size + 1 by simp] at h
    exact h.congr fun i _ => by rw [cntQ_zero]; rfl)
  go_enter Tryd.func50, Tryd.ntmps50
  go_wp2_with fail
  rw [← eW0]
  clear eW0 hmk
  go_loopw [4, 16] (fun s k wr => ∃ (i m : Nat), i ≤ tq.length ∧ k = .int .i64 (i : Int) ∧ s = .int .i64 (m : Int) ∧ Below W.heap.size W wr ∧ wr.rowIs (W.heap.size + 1) 3 tq.length (fun j => .int .i64 (cntQ tq i 0 j : Int)) ∧ RowKit.Hid (m = LL.maxUp (cntQ tq i 0) tq.length)) (fun _ k _ => tq.length - (intOf k).toNat)
  case atStart => exact ⟨0, 0, Nat.zero_le _, rfl, rfl, HB0.out, HR0.out, Lib.hid (SV.maxUp_zero (cntQ_zero tq)).symm⟩
  case round =>
    obtain ⟨i, m, hi, rfl, rfl, hb, hr, HMX⟩ := hrel
    have HB := Lib.hid hb
    have HR := Lib.hid hr
    clear hb hr HB0 HR0
    by_cases hlt : i < tq.length
    · obtain ⟨va, vo, vc2, e1⟩ := HG.out.addr (by omega)
      cases e1
      obtain ⟨ra, rac, hx1, hrx⟩ := (HG.out.below HB.out).at hlt
      have i1 : (0 : Int) ≤ i ∧ (i : Int) < tq.length := by omega
      have b2 : (tq[i]?.getD []).length ≤ 1000 := HM.out i
      have HRI := Lib.hid (HI.out i)
      have HST := Lib.hid (fun q (hq : q < (tq[i]?.getD []).length) (y : Nat) hy j => cntQ_step (tq := tq) (i := i) (k := q) (y := y) hq hy j)
      have HRW := Lib.hid (fun q (hq : (tq[i]?.getD []).length ≤ q) j => cntQ_row (tq := tq) hq j)
      have HLQ := Lib.hid (fun q j => (show cntQ tq i q j ≤ 1001000 from Nat.le_trans (cntQ_len HM.out i q j) (by have := HBL.out; omega)))
      obtain ⟨r, er⟩ : ∃ r, r = tq[i]?.getD [] := ⟨_, rfl⟩
      rw [← er] at hx1 hrx b2 HRI HST HRW
      have HRX := Lib.hid hrx
      clear er hrx
      go_wp2_with fail
      obtain ⟨wo, ewo⟩ : ∃ wo : World, wo = wr := ⟨_, rfl⟩
      rw [← ewo]
      rw [← ewo] at HB HRX HR hx1
      clear ewo hx1
      go_loopw [4, 22] (fun s k wr => ∃ (q m : Nat), q ≤ r.length ∧ k = .int .i64 (q : Int) ∧ s = .int .i64 (m : Int) ∧ Below W.heap.size W wr ∧ wr.rowIs (W.heap.size + 1) 3 tq.length (fun j => .int .i64 (cntQ tq i q j : Int)) ∧ RowKit.Hid (m = LL.maxUp (cntQ tq i q) tq.length)) (fun _ k _ => r.length - (intOf k).toNat)
      case atStart => exact ⟨0, m, Nat.zero_le _, rfl, rfl, HB.out, HR.out, HMX⟩
      case round =>
        obtain ⟨q, m2, hq, rfl, rfl, hb2, hr2, HMX2⟩ := hrel
        have HB2 := Lib.hid hb2
        have HR2 := Lib.hid hr2
        clear hb2 hr2 HR HMX
        by_cases hqt : q < r.length
        · obtain ⟨xb2, xo2, rfl, hx2⟩ := (HRX.out.of_both HB.out HB2.out).cellAt hqt
          have i3 : (0 : Int) ≤ q ∧ (q : Int) < r.length := by omega
          have HX2 := Lib.hid (HRI.out _ (GG.getD_mem (d := 0) hqt))
          have HSQ := Lib.hid (fun y hy => HST.out q hqt y hy)
          obtain ⟨x, ex⟩ : ∃ x, x = r[q]?.getD 0 := ⟨_, rfl⟩
          rw [← ex] at hx2 HX2 HSQ
          clear ex
          obtain ⟨y, rfl⟩ : ∃ y : Nat, x = (y : Int) := ⟨x.toNat, by have := HX2.out; omega⟩
          have hyn : y < tq.length := by have := HX2.out; omega
          have i4 : (0 : Int) ≤ (y : Int) ∧ (y : Int) < tq.length := by omega
          have hcj := World.rowIs.cell HR2.out hyn
          have hfj := World.rowIs.frozen HR2.out y
          have HL1 := Lib.hid (HLQ.out q y)
          have HL2 := Lib.hid (show m2 ≤ 1001000 from by rw [HMX2.out]; exact maxUp_bd (HLQ.out q))
          have HS1 := Lib.hid (show cntQ tq i (q + 1) y = cntQ tq i q y + 1 by rw [HSQ.out y rfl y, if_pos rfl])
          have HS2 := Lib.hid (fun j (hj : j ≠ y) => show cntQ tq i (q + 1) j = cntQ tq i q j by rw [HSQ.out y rfl j, if_neg hj])
          obtain ⟨t, et⟩ : ∃ t, t = cntQ tq i q y := ⟨_, rfl⟩
          rw [← et] at hcj HL1 HS1
          have HET := Lib.hid et
          have b4 : (0 : Int) ≤ t ∧ (t : Int) ≤ 1001000 := by have := HL1.out; omega
          have b5 : (0 : Int) ≤ m2 ∧ (m2 : Int) ≤ 1001000 := by have := HL2.out; omega
          have HRN := Lib.hid (show (wr.setCell ⟨W.heap.size + 1, y, none⟩ (.int .i64 ((t : Int) + 1))).rowIs (W.heap.size + 1) 3 tq.length (fun j => .int .i64 (cntQ tq i (q + 1) j : Int)) from (World.rowIs.set HR2.out y (.int .i64 ((t : Int) + 1))).congr fun j _ => by
            by_cases e : j = y
            · subst e; rw [if_pos rfl, HS1.out]; simp
            · rw [if_neg e, HS2.out j e])
          have hcn := World.rowIs.cell HRN.out hyn
          rw [HS1.out] at hcn
          obtain ⟨m3, hm3⟩ : ∃ m3 : Nat, max (m2 : Int) ((t : Int) + 1) = (m3 : Int) := ⟨max m2 (t + 1), by omega⟩
          have HM3 := Lib.hid (show m3 = LL.maxUp (cntQ tq i (q + 1)) tq.length by
            have h1 := SV.maxUp_bump (f := cntQ tq i q) (g := cntQ tq i (q + 1)) hyn (by rw [HS1.out, HET.out]) HS2.out
            rw [h1, ← HMX2.out, HS1.out]
            omega)
          have HBN := Lib.hid (HB2.out.setCell (p := ⟨W.heap.size + 1, y, none⟩) (by show W.heap.size ≤ W.heap.size + 1; omega) (.int .i64 ((t : Int) + 1)))
          clear et
          go_wp2_with fail
          go_roundw
          case rel => exact ⟨q + 1, m3, by omega, by go_num, by first | rfl | (rw [← hm3]) | (simp [hm3]), HBN.out, HRN.out, HM3⟩
          case measure => simp [intOf]; omega
        · have HQ := Lib.hid (show ∀ j, cntQ tq i q j = cntQ tq (i + 1) 0 j from fun j => HRW.out q (by omega) j)
          have HRN := Lib.hid (show wr.rowIs (W.heap.size + 1) 3 tq.length (fun j => .int .i64 (cntQ tq (i + 1) 0 j : Int)) from HR2.out.congr fun j _ => by rw [HQ.out j])
          have HM3 := Lib.hid (show m2 = LL.maxUp (cntQ tq (i + 1) 0) tq.length by rw [HMX2.out]; exact LL.maxUp_congr fun k _ => HQ.out k)
          go_wp2_with fail
          go_roundw
          case rel => exact ⟨i + 1, m2, by omega, by go_num, rfl, HB2.out, HRN.out, HM3⟩
          case measure => simp [intOf]; omega
    · have HF := Lib.hid (show m = fanN (natsL tq) by rw [HMX.out, show i = tq.length by omega]; exact fan_all tq)
      have hjz : ¬ ((i : Int) < tq.length) := by omega
      go_wp2_with fail
      go_ret
      exact ⟨by first | (rw [HF.out]; rfl) | (rw [← HF.out]; rfl), HB.out⟩
end Go.Proofs.YtjadckmdkkeopaaDoor
