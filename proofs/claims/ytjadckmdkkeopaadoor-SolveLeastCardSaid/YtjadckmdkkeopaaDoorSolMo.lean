import Derived.Test.YtjadckmdkkeopaaDoorSolM
set_option linter.unusedSimpArgs false
set_option linter.unusedVariables false
/-! solve: Most -/
namespace Go.Proofs.YtjadckmdkkeopaaDoor
open Go.RowKit
open SV (Lab SysOk Least labs sumOf mu sumP at' natsL askT fanN cntN lok Bnd val valT)
set_option maxRecDepth 100000 in
set_option maxHeartbeats 3200000 in
theorem most_any {uv cv nv : Value} {xs : List Int} {c : List (Int × Int)} {tq : List (List Int)} (W : World) (hu : Nums .u64 W.heap.size W uv xs) (hx : Wide xs) (hxl : xs.length ≤ big5) (hT : Tz W) (hv : LabRow W.heap.size W cv c) (hg : GraphM W.heap.size W nv tq) (hl : c.length ≤ 1000) (htl : tq.length ≤ 1000) (hm : ∀ a : Nat, (tq[a]?.getD []).length ≤ 1000) :
    Calls Tryd.prog 19 #[uv, .agg #[cv, nv]] W fun e V => e = .returned (.int .i64 (if sysB xs c tq = true then ((c.length + c.length * fanN (natsL tq) * (LL.heightN xs + 64) : Nat) : Int) else 0)) ∧ Below W.heap.size W V := by
  obtain ⟨ua, uc, rfl⟩ := hu.form
  obtain ⟨ca, cc, rfl⟩ := hv.form
  obtain ⟨na, nc, rfl⟩ := hg.form
  have HS0 := Lib.hid (sysAt_start W (.slice ca c.length cc) (.slice na tq.length nc))
  have HU := Lib.hid hu
  have HR := Lib.hid (fun w (hb : Below W.heap.size W w) => sright_any w ((hu.below hb).mono hb.size) hx hxl (hT.on hb) ((hv.below hb).mono hb.size) ((hg.below hb).mono hb.size) (by omega) (by omega) (fun a => Nat.le_trans (hm a) (by omega)))
  have HH := Lib.hid (fun w (hb : Below W.heap.size W w) => height5_any (.slice ua xs.length uc) xs w.heap.size w ((hu.below hb).mono hb.size) (Nat.le_refl _) hx hxl (hT.on hb))
  have HX := Lib.hid hx
  have HG := Lib.hid hg
  have HM := Lib.hid hm
  have HTL := Lib.hid htl
  have b0 : (c.length : Int) ≤ 1000 := by omega
  obtain ⟨z, ez⟩ : ∃ z, z = sysB xs c tq := ⟨_, rfl⟩
  have HZ := Lib.hid ez
  rw [← ez]
  clear hu hx hxl hT hv hg hl htl hm ez
  cases z with
  | false =>
    rw [if_neg Bool.false_ne_true]
    go_enter Tryd.func19, Tryd.ntmps19
    go_wp2_with (go_at_call 20; refine (HR.out _ HS0.out.1).mono ?_; rintro e w2 ⟨rfl, hb2⟩; rw [← HZ.out]; have HS2 := Lib.hid (HS0.out.on hb2); clear hb2)
    go_ret
    exact ⟨rfl, HS2.out.1⟩
  | true =>
    rw [if_pos rfl]
    obtain ⟨hln, htn, hr, hin, hti⟩ := sys_parts HZ.out.symm
    have HTI := Lib.hid hti
    have HRB := Lib.hid hr
    have h64 := height_bd hr HX.out
    have hfb : fanN (natsL tq) ≤ 1001000 := by rw [← fan_all]; exact maxUp_bd fun k => Nat.le_trans (cntQ_len HM.out _ _ k) (by have := HTL.out; omega)
    obtain ⟨R, eR⟩ : ∃ R : Int, R = ((c.length + c.length * fanN (natsL tq) * (LL.heightN xs + 64) : Nat) : Int) := ⟨_, rfl⟩
    rw [← eR]
    have bn : c.length ≤ 1000 := by omega
    have k1 : c.length * fanN (natsL tq) ≤ 1000 * 1001000 := Nat.mul_le_mul bn hfb
    have k2 : c.length * fanN (natsL tq) * (LL.heightN xs + 64) ≤ 1000 * 1001000 * 128 := Nat.mul_le_mul k1 (by omega)
    obtain ⟨f, ef⟩ : ∃ f : Int, f = (fanN (natsL tq) : Int) := ⟨_, rfl⟩
    obtain ⟨g, eg⟩ : ∃ g : Int, g = (LL.heightN xs : Int) := ⟨_, rfl⟩
    obtain ⟨P, eP⟩ : ∃ P : Int, P = ((c.length * fanN (natsL tq) : Nat) : Int) := ⟨_, rfl⟩
    obtain ⟨Q, eQ⟩ : ∃ Q : Int, Q = ((c.length * fanN (natsL tq) * (LL.heightN xs + 64) : Nat) : Int) := ⟨_, rfl⟩
    have m1 : (c.length : Int) * f = P := by rw [ef, eP]; simp
    have m2 : P * (g + 64) = Q := by rw [eP, eg, eQ]; simp
    have m3 : (c.length : Int) + Q = R := by rw [eQ, eR]; simp
    have EF := Lib.hid ef
    have EG := Lib.hid eg
    have d1 : 0 ≤ P ∧ P ≤ 1001000000 := by rw [eP]; omega
    have d2 : 0 ≤ Q ∧ Q ≤ 128128000000 := by rw [eQ]; omega
    have d3 : 0 ≤ g ∧ g ≤ 64 := by rw [eg]; omega
    clear hln htn hin hti ef eg eP eQ eR k1 k2 h64 hr hfb bn
    have hw1 : wrap64 ((c.length : Int) * f) = P := by rw [m1]; unfold wrap64; omega
    have hw4 : wrap64 (g + 64) = g + 64 := by unfold wrap64; omega
    have hw2 : wrap64 (P * (g + 64)) = Q := by rw [m2]; unfold wrap64; omega
    have hw3 : wrap64 ((c.length : Int) + Q) = R := by rw [m3]; unfold wrap64; omega
    clear m1 m2 m3 d1 d2 b0
    go_enter Tryd.func19, Tryd.ntmps19
    go_wp2_with (first
      | (go_at_call 20; refine (HR.out _ HS0.out.1).mono ?_; rintro e w2 ⟨rfl, hb2⟩; rw [← HZ.out]; have HS2 := Lib.hid (HS0.out.on hb2); have hc0 := HS2.out.2.2.1; have hc1 := HS2.out.2.2.2; clear hb2)
      | (go_at_call 50; refine (fan_any _ ((HG.out.below HS2.out.1).mono HS2.out.1.size) HTL.out HM.out HTI.out).mono ?_; rintro e w3 ⟨rfl, hb3⟩; rw [← EF.out]; have HS3 := Lib.hid (HS2.out.on hb3); clear hb3 hc0 hc1)
      | (go_at_call 51; refine (HH.out _ HS3.out.1).mono ?_; rintro e w4 ⟨rfl, hb4⟩; rw [if_pos HRB.out, ← EG.out]; have HS4 := Lib.hid (HS3.out.on hb4); clear hb4))
    go_ret
    refine ⟨?_, HS4.out.1⟩
    first
      | rfl
      | (rw [← hw3]; rfl)
set_option maxRecDepth 100000 in
set_option maxHeartbeats 3200000 in
theorem rfan17_any {nv : Value} {tq : List (List Int)} (W : World) (hg : GraphM W.heap.size W nv tq) (hl : tq.length ≤ 1000) (hm : ∀ a : Nat, (tq[a]?.getD []).length ≤ 1000) (hin : ∀ a : Nat, ∀ x ∈ tq[a]?.getD [], 0 ≤ x ∧ x < tq.length) :
    Calls Tryd.prog 22 #[nv] W fun e V => e = .returned (.int .i64 (fanN (natsL tq) : Int)) ∧ V = W := by
  obtain ⟨na, nc, rfl⟩ := hg.form
  have HG := Lib.hid hg
  have HM := Lib.hid hm
  have HI := Lib.hid hin
  have b0 : (tq.length : Int) ≤ 1000 := by omega
  have HLQ := Lib.hid (fun i q j => (show i ≤ tq.length → cntQ tq i q j ≤ 1001000 from fun hi => Nat.le_trans (cntQ_len hm i q j) (by have : i * 1000 ≤ 1000 * 1000 := Nat.mul_le_mul_right _ (by omega); omega)))
  clear hg hm hin hl
  go_enter Tryd.func22, Tryd.ntmps22
  go_wp2_with fail
  go_loopw [3, 4] (fun s k wr => ∃ (v m : Nat), v ≤ tq.length ∧ k = .int .i64 (v : Int) ∧ s = .int .i64 (m : Int) ∧ wr = W ∧ RowKit.Hid (m = LL.maxUp (cntN (natsL tq)) v)) (fun _ k _ => tq.length - (intOf k).toNat)
  case atStart => exact ⟨0, 0, Nat.zero_le _, rfl, rfl, rfl, Lib.hid rfl⟩
  case round =>
    obtain ⟨v, m, hv, rfl, rfl, e8, HMX⟩ := hrel
    rewrite [e8]
    clear e8
    have HMB := Lib.hid (show m ≤ 1001000 from by rw [HMX.out]; exact maxUp_bd fun k => by rw [← cntQ_all]; exact HLQ.out _ _ _ (Nat.le_refl _))
    have b1 : (0 : Int) ≤ m ∧ (m : Int) ≤ 1001000 := by have := HMB.out; omega
    by_cases hvt : v < tq.length
    · have i1 : (0 : Int) ≤ v ∧ (v : Int) < tq.length := by omega
      have HV := Lib.hid hvt
      go_wp2_with fail
      go_loopw [5, 6] (fun s k wr => ∃ (i n : Nat), i ≤ tq.length ∧ k = .int .i64 (i : Int) ∧ s = .int .i64 (n : Int) ∧ wr = W ∧ RowKit.Hid (n = cntQ tq i 0 v)) (fun _ k _ => tq.length - (intOf k).toNat)
      case atStart => exact ⟨0, 0, Nat.zero_le _, rfl, rfl, (by first | rfl | trivial), Lib.hid (cntQ_zero tq v).symm⟩
      case round =>
        obtain ⟨i, n, hi, rfl, rfl, e8, HN⟩ := hrel
        rewrite [e8]
        clear e8
        by_cases hlt : i < tq.length
        · obtain ⟨va, vo, vc2, e1⟩ := HG.out.addr (by omega)
          cases e1
          obtain ⟨ra, rac, hx1, hrx⟩ := HG.out.at hlt
          have i2 : (0 : Int) ≤ i ∧ (i : Int) < tq.length := by omega
          have b2 : (tq[i]?.getD []).length ≤ 1000 := HM.out i
          have HRI := Lib.hid (HI.out i)
          have HST := Lib.hid (fun q (hq : q < (tq[i]?.getD []).length) (y : Nat) hy => cntQ_step (tq := tq) (i := i) (k := q) (y := y) hq hy v)
          have HRW := Lib.hid (fun q (hq : (tq[i]?.getD []).length ≤ q) => cntQ_row (tq := tq) hq v)
          have HIL := Lib.hid hi
          obtain ⟨r, er⟩ : ∃ r, r = tq[i]?.getD [] := ⟨_, rfl⟩
          rw [← er] at hx1 hrx b2 HRI HST HRW
          have HRX := Lib.hid hrx
          clear er hrx
          go_wp2_with fail
          go_loopw [5, 7] (fun s k wr => ∃ (q n : Nat), q ≤ r.length ∧ k = .int .i64 (q : Int) ∧ s = .int .i64 (n : Int) ∧ wr = W ∧ RowKit.Hid (n = cntQ tq i q v)) (fun _ k _ => r.length - (intOf k).toNat)
          case atStart => exact ⟨0, n, Nat.zero_le _, rfl, rfl, (by first | rfl | trivial), HN⟩
          case round =>
            obtain ⟨q, n2, hq, rfl, rfl, e8, HN2⟩ := hrel
            rewrite [e8]
            clear e8
            have HNB := Lib.hid (show n2 ≤ 1001000 from by rw [HN2.out]; exact HLQ.out _ _ _ HIL.out)
            have b3 : (0 : Int) ≤ n2 ∧ (n2 : Int) ≤ 1001000 := by have := HNB.out; omega
            by_cases hqt : q < r.length
            · obtain ⟨xb2, xo2, rfl, hx2⟩ := HRX.out.cellAt hqt
              have i3 : (0 : Int) ≤ q ∧ (q : Int) < r.length := by omega
              have HX2 := Lib.hid (HRI.out _ (GG.getD_mem (d := 0) hqt))
              have HSQ := Lib.hid (fun y hy => HST.out q hqt y hy)
              obtain ⟨x, ex⟩ : ∃ x, x = r[q]?.getD 0 := ⟨_, rfl⟩
              rw [← ex] at hx2 HX2 HSQ
              clear ex
              obtain ⟨y, rfl⟩ : ∃ y : Nat, x = (y : Int) := ⟨x.toNat, by have := HX2.out; omega⟩
              by_cases hyv : y = v
              · have HNN := Lib.hid (show n2 + 1 = cntQ tq i (q + 1) v by rw [HSQ.out y rfl, if_pos hyv.symm, ← HN2.out])
                subst hyv
                have hee : ((y : Int) == (y : Int)) = true := beq_self_eq_true _
                go_wp2_with fail
                go_roundw
                case rel => exact ⟨q + 1, n2 + 1, by omega, by go_num, by go_num, (by first | rfl | trivial), Lib.hid HNN.out⟩
                case measure => simp [intOf]; omega
              · have HNN := Lib.hid (show n2 = cntQ tq i (q + 1) v by rw [HSQ.out y rfl, if_neg (fun e => hyv e.symm), ← HN2.out])
                have hee : ((y : Int) == (v : Int)) = false := by simp; omega
                go_wp2_with fail
                go_roundw
                case rel => exact ⟨q + 1, n2, by omega, by go_num, rfl, (by first | rfl | trivial), Lib.hid HNN.out⟩
                case measure => simp [intOf]; omega
            · have HNN := Lib.hid (show n2 = cntQ tq (i + 1) 0 v by rw [HN2.out]; exact HRW.out q (by omega))
              have hqz : ¬ ((q : Int) < r.length) := by omega
              go_wp2_with fail
              go_roundw
              case rel => exact ⟨i + 1, n2, by omega, by go_num, rfl, (by first | rfl | trivial), Lib.hid HNN.out⟩
              case measure => simp [intOf]; omega
        · have HNV := Lib.hid (show n = cntN (natsL tq) v by rw [HN.out, show i = tq.length by omega]; exact cntQ_all tq v)
          have HNB := Lib.hid (show n ≤ 1001000 from by rw [HN.out]; exact HLQ.out _ _ _ hi)
          have b3 : (0 : Int) ≤ n ∧ (n : Int) ≤ 1001000 := by have := HNB.out; omega
          have hiz : ¬ ((i : Int) < tq.length) := by omega
          by_cases hnm : m < n
          · have hni : (m : Int) < (n : Int) := by omega
            have HMM := Lib.hid (show n = LL.maxUp (cntN (natsL tq)) (v + 1) by
              show n = max (LL.maxUp (cntN (natsL tq)) v) (cntN (natsL tq) v)
              rw [← HMX.out, ← HNV.out]; omega)
            go_wp2_with fail
            go_roundw
            case rel => exact ⟨v + 1, n, by omega, by go_num, rfl, (by first | rfl | trivial), Lib.hid HMM.out⟩
            case measure => simp [intOf]; omega
          · have hni : ¬ ((m : Int) < (n : Int)) := by omega
            have HMM := Lib.hid (show m = LL.maxUp (cntN (natsL tq)) (v + 1) by
              show m = max (LL.maxUp (cntN (natsL tq)) v) (cntN (natsL tq) v)
              rw [← HMX.out, ← HNV.out]; omega)
            go_wp2_with fail
            go_roundw
            case rel => exact ⟨v + 1, m, by omega, by go_num, rfl, (by first | rfl | trivial), Lib.hid HMM.out⟩
            case measure => simp [intOf]; omega
    · have HF := Lib.hid (show m = fanN (natsL tq) by
        rw [HMX.out, show v = tq.length by omega]
        unfold fanN
        rw [show (natsL tq).length = tq.length by simp [natsL]])
      have hjz : ¬ ((v : Int) < tq.length) := by omega
      go_wp2_with fail
      go_ret
      exact ⟨by first | (rw [HF.out]; rfl) | (rw [← HF.out]; rfl), (by first | rfl | trivial)⟩
end Go.Proofs.YtjadckmdkkeopaaDoor
