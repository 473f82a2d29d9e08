import Derived.Test.YtdkpnbjkehakjaaGreatDoorPlatC
set_option linter.unusedSimpArgs false
set_option linter.unusedVariables false
/-! the walk of layer 5's Build -/
namespace Go.Proofs.YtdkpnbjkehakjaaGreatDoor
open Go.RowKit

theorem BuildP.bad {n : Int} {ps : List (Int × Int)} {W : World} (h : ¬ (1 ≤ n ∧ n ≤ 64 ∧ ∀ p ∈ ps, pairOk n.toNat p = true)) : BuildP n ps (.returned (.tuple #[.slice none 0 0, .int .i64 1])) W :=
  ⟨_, [], 1, rfl, .inl ⟨⟨_, _, rfl⟩, rfl⟩, fun x hx => (by simp at hx), .inl ⟨h, rfl, rfl⟩⟩
theorem toPrs_at (ps : List (Int × Int)) (q : Nat) (h : q < ps.length) : (toPrs ps)[q]?.getD (0, 0) = ((ps[q]?.getD (0, 0)).1.toNat, (ps[q]?.getD (0, 0)).2.toNat) := by
  unfold toPrs; rw [List.getElem?_map, List.getElem?_eq_getElem h]; rfl
theorem pairs5_tk (n : Nat) (ps qs : List (Nat × Nat)) : pairs5 n ps 0 = pairs5 n qs 0 := rfl

theorem with_q {m i : Int} {W : World} (h : 0 ≤ m ∧ m ≤ 18446744073709551615) : Calls Tryz.prog 60 #[.int .u64 m, .int .i64 i] W fun e w' => e = .returned (.int .u64 (MM.withI m i)) ∧ w' = W :=
  (with_any m i W h.1 h.2).mono fun e w' h => ⟨h.1, h.2.symm⟩

set_option maxRecDepth 100000 in
set_option maxHeartbeats 3200000 in
theorem build_in (v : Value) (ps : List (Int × Int)) (n₀ n : Nat) (w : World) (hv : PrsI n₀ w v ps) (hn₀ : n₀ ≤ w.heap.size) (hl : ps.length ≤ big5) (n1 : 1 ≤ n) (n2 : n ≤ 64) (hT : Tz w) :
    Calls Tryz.prog 53 #[.int .i64 n, v] w fun e w' => BuildP n ps e w' ∧ Below w.heap.size w w' := by
  have hmk := run_make_row' (P := Tryz.prog) 23 117 (.int .u64 0) 8 Tryz.underlying23 Tryz.infoU64 rfl .i64 .i64 n (by omega) (by omega)
  have HV := Lib.hid hv
  have HLp := Lib.hid hl
  have hl2 : ps.length ≤ 17592186044416 := hl
  obtain ⟨a, cap, rfl⟩ := hv.form
  have hR0 := Row5.made w n (by unfold maxLen; omega)
  rw [ones5_zero] at hR0
  have hB0 : Below w.heap.size w (w.alloc (.cells (madeCells #[Value.int .u64 0] n) 117)) := (Below.refl _ _).alloc (Nat.le_refl _) _
  have e1 : decide ((n : Int) < 1) = false := decide_eq_false (by omega)
  have e2 : decide (64 < (n : Int)) = false := decide_eq_false (by omega)
  clear hv hl
  go_enter Tryz.func53, Tryz.ntmps53
  go_wp2_with fail
  clear hmk
  go_loopw [19] (fun i wr => ∃ k : Nat, k ≤ n ∧ i = .int .i64 (k : Int) ∧ Row5 w.heap.size n (ones5 n k) wr ∧ Below w.heap.size w wr) (fun i _ => n - (intOf i).toNat)
  case atStart => exact ⟨0, Nat.zero_le _, rfl, hR0, hB0⟩
  case round =>
    obtain ⟨k, hk, rfl, hR, hB⟩ := hrel
    clear hR0 hB0
    by_cases hlt : k < n
    · have HR := Lib.hid hR
      have hc := hR.cell (ones5_len n k) hlt
      have hf := hR.frozen k
      have i1 : (0 : Int) ≤ k ∧ (k : Int) < n := by omega
      have HS := Lib.hid (ones5_step n k hlt)
      have HBi := Lib.hid (show MM.withI 0 (k : Int) = MM.bitI (k : Int) by
        unfold MM.withI; rw [if_pos (by omega), MM.bitI_in (by omega) (by omega)]; simp)
      clear hR
      go_wp2_with (go_at_call 60; refine (with_any _ _ _ (by omega) (by omega)).mono ?_; rintro e w' ⟨rfl, rfl⟩; rw [HBi.out])
      go_roundw
      case rel => exact ⟨k + 1, by omega, by go_num, HS.out ▸ HR.out.set k _, hB.setCell (p := ⟨w.heap.size, k, none⟩) (Nat.le_refl _) _⟩
      case measure => simp [intOf]; omega
    · have hR1 : Row5 w.heap.size n (pairs5 n (toPrs ps) 0) wr := by
        obtain rfl : k = n := by omega
        exact hR
      clear hR hk
      go_wp2_with fail
      go_loopw [30] (fun i wr => ∃ q : Nat, q ≤ ps.length ∧ i = .int .i64 (q : Int) ∧ Row5 w.heap.size n (pairs5 n (toPrs ps) q) wr ∧ Below w.heap.size w wr ∧ RowKit.Hid (∀ j, j < q → pairOk n (ps[j]?.getD (0, 0)) = true)) (fun i _ => ps.length - (intOf i).toNat)
      case atStart => exact ⟨0, Nat.zero_le _, rfl, hR1, hB, Lib.hid (fun j hj => absurd hj (Nat.not_lt_zero _))⟩
      case round =>
        obtain ⟨q, hq, rfl, hR2, hB2, HQ⟩ := hrel
        clear hR1 hB
        by_cases hlq : q < ps.length
        · have HR := Lib.hid hR2
          obtain ⟨b, off, rfl, hbk, hc⟩ := HV.out.at (by omega)
          have hcc := hc q hlq
          clear hc
          obtain ⟨pr, hpr⟩ : ∃ p, ps[q]?.getD (0, 0) = p := ⟨_, rfl⟩
          rw [hpr] at hcc
          have HPR := Lib.hid hpr
          obtain ⟨x1, x2⟩ := pr
          have hx1 : wr.cell? ⟨b, off + q * 2, none⟩ = some (.int .i64 x1) := (hB2.cell (p := ⟨b, off + q * 2, none⟩) (by show b < w.heap.size; omega)).trans hcc.1
          have hx2 : wr.cell? ⟨b, off + q * 2 + 1, none⟩ = some (.int .i64 x2) := (hB2.cell (p := ⟨b, off + q * 2 + 1, none⟩) (by show b < w.heap.size; omega)).trans hcc.2
          clear hcc hpr
          have i1 : (0 : Int) ≤ q ∧ (q : Int) < ps.length := by omega
          have HBad := Lib.hid (show ∀ W, pairOk n (x1, x2) = false → BuildP n ps (.returned (.tuple #[.slice none 0 0, .int .i64 1])) W from fun W h => BuildP.bad fun hh => (by
            have := hh.2.2 (ps[q]?.getD (0, 0)) (by rw [List.getElem?_eq_getElem hlq]; exact List.getElem_mem hlq)
            rw [HPR.out, Int.toNat_natCast, h] at this
            cases this))
          have hy1 : (wr.alloc (.cells #[.int .i64 x1, .int .i64 x2] 133)).cell? ⟨wr.heap.size, 0, none⟩ = some (.int .i64 x1) := cell_two_new5 wr _ _ _ 0 _ rfl
          have hy2 : (wr.alloc (.cells #[.int .i64 x1, .int .i64 x2] 133)).cell? ⟨wr.heap.size, 1, none⟩ = some (.int .i64 x2) := cell_two_new5 wr _ _ _ 1 _ rfl
          have hB3 := hB2.alloc hB2.size (.cells #[.int .i64 x1, .int .i64 x2] 133)
          have HR3 := Lib.hid (show Row5 w.heap.size n (pairs5 n (toPrs ps) q) (wr.alloc (.cells #[.int .i64 x1, .int .i64 x2] 133)) from HR.out.alloc _)
          cases hla : (decide (0 ≤ x1) && decide (x1 < (n : Int)))
          · have HA := Lib.hid hla
            have HE := Lib.hid (HBad.out (wr.alloc (.cells #[.int .i64 x1, .int .i64 x2] 133)) (show pairOk n (x1, x2) = false by unfold pairOk; rw [hla]; rfl))
            clear hla hR2
            go_wp2_with fail
            refine (level_any _ n n x1 _).mono ?_
            rintro e w2 ⟨rfl, rfl⟩
            rw [HA.out]
            go_wp2_with fail
            go_ret2
            exact ⟨HE.out, hB3⟩
          · have HA := Lib.hid hla
            cases hlb : (decide (0 ≤ x2) && decide (x2 < (n : Int)))
            · have HBb := Lib.hid hlb
              have HE := Lib.hid (HBad.out (wr.alloc (.cells #[.int .i64 x1, .int .i64 x2] 133)) (show pairOk n (x1, x2) = false by unfold pairOk; rw [hlb, Bool.and_false]))
              clear hla hlb hR2
              go_wp2_with fail
              refine (level_any _ n n x1 _).mono ?_
              rintro e w2 ⟨rfl, rfl⟩
              rw [HA.out]
              go_wp2_with fail
              refine (level_any _ n n x2 _).mono ?_
              rintro e w3 ⟨rfl, rfl⟩
              rw [HBb.out]
              go_wp2_with fail
              go_ret2
              exact ⟨HE.out, hB3⟩
            · have HBb := Lib.hid hlb
              have HQ2 := Lib.hid (show ∀ j, j < q + 1 → pairOk n (ps[j]?.getD (0, 0)) = true from LL.all_step (p := fun j => pairOk n (ps[j]?.getD (0, 0))) HQ.out (by show pairOk n (ps[q]?.getD (0, 0)) = true; rw [HPR.out]; unfold pairOk; rw [hla, hlb]; rfl))
              obtain ⟨p1, rfl, hp1⟩ := lev_nat hla
              obtain ⟨p2, rfl, hp2⟩ := lev_nat hlb
              have HS := Lib.hid (show (pairs5 n (toPrs ps) q).set p1 (MM.withI ((pairs5 n (toPrs ps) q)[p1]?.getD 0) (p2 : Int)) = pairs5 n (toPrs ps) (q + 1) by
                have h := pairs5_step n (toPrs ps) q (by unfold toPrs; rw [List.length_map]; exact hlq)
                rw [toPrs_at ps q hlq, HPR.out] at h
                exact h)
              have hcu := HR3.out.cell (pairs5_len n (toPrs ps) q) hp1
              have hfu := HR3.out.frozen p1
              have HU := Lib.hid ((pairs5_wide n (toPrs ps) q).at p1)
              obtain ⟨mu, hmu⟩ : ∃ m, (pairs5 n (toPrs ps) q)[p1]?.getD 0 = m := ⟨_, rfl⟩
              rw [hmu] at hcu HS HU
              clear hla hlb hR2 hmu
              have i2 : (0 : Int) ≤ p1 ∧ (p1 : Int) < n := by omega
              go_wp2_with fail
              refine (level_any _ n n p1 _).mono ?_
              rintro e w2 ⟨rfl, rfl⟩
              rw [HA.out]
              go_wp2_with fail
              refine (level_any _ n n p2 _).mono ?_
              rintro e w3 ⟨rfl, rfl⟩
              rw [HBb.out]
              generalize wr.alloc (.cells #[.int .i64 (p1 : Int), .int .i64 (p2 : Int)] 133) = W2 at hy1 hy2 hB3 HR3 hcu hfu ⊢
              go_wp2_with fail
              refine wp_region_still_tail 12 (by kernel_rfl) (by kernel_rfl) ?_
              simp only [List.take_succ_cons, List.take_zero, List.drop_succ_cons, List.drop_zero]
              iterate 10 still_step
              still_call (with_q HU.out)
              still_step
              refine wpStill_nil ?_
              change wpList _ _ _ _ _ W2.drew
              have HR4 := Lib.hid (show Row5 w.heap.size n (pairs5 n (toPrs ps) q) W2.drew from HR3.out)
              have hB4 : Below w.heap.size w W2.drew := hB3.trans ⟨rfl, rfl, rfl, Nat.le_refl _, fun _ _ => rfl⟩
              have hfu4 : W2.drew.frozen? ⟨w.heap.size, p1, none⟩ = false := hfu
              have hcu4 : W2.drew.cell? ⟨w.heap.size, p1, none⟩ = some (.int .u64 mu) := hcu
              clear hcu hfu hy1 hy2 hB3 HR3
              generalize W2.drew = W4 at HR4 hB4 hfu4 hcu4 ⊢
              go_wp2_with fail
              go_roundw
              case rel => exact ⟨q + 1, by omega, by go_num, HS.out ▸ HR4.out.set p1 _, hB4.setCell (p := ⟨w.heap.size, p1, none⟩) (Nat.le_refl _) _, HQ2⟩
              case measure => simp [intOf]; omega
        · have hR3 : Row5 w.heap.size n (pairs5 n (toPrs ps) (toPrs ps).length) wr := by
            have e : (toPrs ps).length = ps.length := by unfold toPrs; simp
            rw [e]
            obtain rfl : q = ps.length := by omega
            exact hR2
          have HP := Lib.hid (show ∀ p ∈ ps, pairOk n p = true by
            intro p hm
            obtain ⟨j, hj, rfl⟩ := List.getElem_of_mem hm
            have := HQ.out j (by omega)
            rwa [List.getElem?_eq_getElem hj] at this)
          have hI := pairs5_inv n (toPrs ps) n2 (toPrs_ok HP.out)
          have HC := Lib.hid (LL.ch_close hI.1 hI.2)
          have HPl := Lib.hid (pairs5_len n (toPrs ps) (toPrs ps).length)
          have HPw := Lib.hid (pairs5_wide n (toPrs ps) (toPrs ps).length)
          clear hR2 hq hI HQ
          generalize pairs5 n (toPrs ps) (toPrs ps).length = S0 at hR3 HC HPl HPw
          go_wp2_with fail
          refine (chase_any w.heap.size n S0 w wr hR3 HPl.out HPw.out n2 (Nat.le_refl _) hB2).mono ?_
          rintro e w3 ⟨⟨vr, rfl⟩, hR4, hB4⟩
          have HLs := Lib.hid (show (LL.chL S0 n).length = n by rw [LL.ch_len, HPl.out])
          have HWs := Lib.hid (LL.ch_wide HPw.out n)
          have HRow := Lib.hid hR4
          have HNm := Lib.hid (hR4.nums HLs.out)
          clear hR3 hB2 hR4
          generalize LL.chL S0 n = T at HC HLs HWs HRow HNm
          cases hr : LL.rightB T
          · have HR := Lib.hid hr
            have HE := Lib.hid (show ∀ W, BuildP n ps (.returned (.tuple #[.slice none 0 0, .int .i64 11])) W from fun W =>
              ⟨_, [], 11, rfl, .inl ⟨⟨_, _, rfl⟩, rfl⟩, fun x hx => (by simp at hx), .inr ⟨by omega, by omega, by rw [Int.toNat_natCast]; exact HP.out, T, by rw [Int.toNat_natCast]; exact HC.out, .inr ⟨hr, rfl, rfl⟩⟩⟩)
            clear hr
            go_wp2_with fail
            refine (right5_any _ T _ w3 (by have h := HNm.out; rw [← HLs.out] at h ⊢; exact h) (Nat.le_refl _) HWs.out (by have := HLs.out; simp only [big5]; omega) (hT.on hB4)).mono ?_
            rintro e w4 ⟨rfl, hb4⟩
            rw [HR.out]
            go_wp2_with fail
            go_ret2
            exact ⟨HE.out _, bstep hB4 hb4⟩
          · have HR := Lib.hid hr
            have HE := Lib.hid (show ∀ W, Nums .u64 W.heap.size W (.slice (some ⟨w.heap.size, 0, none⟩) n n) T → BuildP n ps (.returned (.tuple #[.slice (some ⟨w.heap.size, 0, none⟩) n n, .int .i64 0])) W from fun W hW =>
              ⟨_, T, 0, rfl, hW, HWs.out, .inr ⟨by omega, by omega, by rw [Int.toNat_natCast]; exact HP.out, T, by rw [Int.toNat_natCast]; exact HC.out, .inl ⟨hr, rfl, rfl⟩⟩⟩)
            clear hr
            go_wp2_with fail
            refine (right5_any _ T _ w3 (by have h := HNm.out; rw [← HLs.out] at h ⊢; exact h) (Nat.le_refl _) HWs.out (by have := HLs.out; simp only [big5]; omega) (hT.on hB4)).mono ?_
            rintro e w4 ⟨rfl, hb4⟩
            rw [HR.out]
            go_wp2_with fail
            go_ret2
            exact ⟨HE.out _ ((HNm.out.below hb4).mono hb4.size), bstep hB4 hb4⟩

set_option maxRecDepth 100000 in
set_option maxHeartbeats 1600000 in
theorem build5_any : BuildC := by
  intro v ps n₀ n w hv hn₀ hl hw hT
  by_cases hn : 1 ≤ n ∧ n ≤ 64
  · obtain ⟨k, rfl⟩ : ∃ k : Nat, n = k := ⟨n.toNat, by omega⟩
    exact build_in v ps n₀ k w hv hn₀ hl (by omega) (by omega) hT
  · have HE := Lib.hid (show ∀ W, BuildP n ps (.returned (.tuple #[.slice none 0 0, .int .i64 1])) W from fun W => BuildP.bad fun h => hn ⟨h.1, h.2.1⟩)
    obtain ⟨a, cap, rfl⟩ := hv.form
    clear hv hw
    by_cases h1 : n < 1
    · have e1 : decide (n < 1) = true := decide_eq_true h1
      clear hn h1
      go_enter Tryz.func53, Tryz.ntmps53
      go_wp2_with fail
      go_ret2
      exact ⟨HE.out _, Below.refl _ _⟩
    · have e1 : decide (n < 1) = false := decide_eq_false h1
      have e2 : decide (64 < n) = true := decide_eq_true (by omega)
      clear hn h1
      go_enter Tryz.func53, Tryz.ntmps53
      go_wp2_with fail
      go_ret2
      exact ⟨HE.out _, Below.refl _ _⟩
end Go.Proofs.YtdkpnbjkehakjaaGreatDoor
