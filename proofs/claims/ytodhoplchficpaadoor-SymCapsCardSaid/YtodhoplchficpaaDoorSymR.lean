import Derived.Test.YtodhoplchficpaaDoorSymA
set_option linter.unusedSimpArgs false
set_option linter.unusedVariables false
/-! layer 19's reference: Fits, Put, Low, Levels -/
namespace Go.Proofs.YtodhoplchficpaaDoor
open Go.RowKit
open SV (Lab SysOk Least labs sumOf mu sumP at' natsL askT askI fanN lok ljoin val le Bnd)
def rfitB (n : Nat) (a m : Int) (k : Nat) : Bool := labOk n (a, m) && bitsIn m k
theorem bits_not {m : Int} {n i : Nat} (hi : i < 64) (h : MM.hasB m (i : Int) = true) (h1 : ¬ i < n) (h2 : ¬ i = 6) : bitsIn m n = false := by
  unfold bitsIn
  rw [List.all_eq_false]
  exact ⟨i, List.mem_range.2 hi, by rw [h, decide_eq_false h1, decide_eq_false h2]; simp⟩
theorem bits_all {m : Int} {n : Nat} (h : ∀ i : Nat, i < 64 → MM.hasB m (i : Int) = true → i < n ∨ i = 6) : bitsIn m n = true := by
  rw [bitsIn_iff]
  exact fun i hi => h i (MM.bits_lt m i hi) (mem_bits.1 hi)
set_option maxRecDepth 100000 in
set_option maxHeartbeats 3200000 in
theorem rfits_any (ua : Option Addr) (n uc : Nat) (a m : Int) (k : Nat) (W : World) (hm : 0 ≤ m ∧ m ≤ 18446744073709551615) (hk : k ≤ 17592186044416) :
    Calls Tryd.prog 24 #[.slice ua n uc, .agg #[.int .i64 a, .int .u64 m], .int .i64 k] W fun e V => e = .returned (.bool (rfitB n a m k)) ∧ Below W.heap.size W V := by
  obtain ⟨W0, eW0⟩ : ∃ W0, W0 = W.alloc (.cells #[.int .i64 a, .int .u64 m] 38) := ⟨_, rfl⟩
  have HB0 := Lib.hid (show Below W.heap.size W W0 by rw [eW0]; exact (Below.refl _ _).alloc (Nat.le_refl _) _)
  have HH1 := Lib.hid (show W0.heap[W.heap.size]? = some (.cells #[.int .i64 a, .int .u64 m] 38) by rw [eW0, heap_alloc_new])
  have HM := Lib.hid hm
  have HZ0 := Lib.hid (show W.heap.size < W0.heap.size by rw [eW0]; simp)
  obtain ⟨z, ez⟩ : ∃ z, z = rfitB n a m k := ⟨_, rfl⟩
  have HZ := Lib.hid ez
  rw [← ez]
  obtain ⟨hc0, hc1⟩ := two_lab HH1.out
  have b0 : (k : Int) ≤ 17592186044416 := by omega
  clear ez hm hk
  cases hg : labOk n (a, m) with
  | false =>
    have hz : z = false := by rw [HZ.out]; unfold rfitB; rw [hg]; rfl
    have HG := Lib.hid hg
    clear hg
    go_enter Tryd.func24, Tryd.ntmps24
    go_upto_region 1 with fail
    rw [← eW0]
    clear eW0
    go_wp2_with (go_at_call 19; refine (rgood17_any _ _ _ _ _ _).mono ?_; rintro e w2 ⟨rfl, hb2⟩; rw [HG.out]; have HB2 := Lib.hid (HB0.out.trans (hb2.mono HB0.out.size)); clear hb2)
    go_ret
    exact ⟨by first | (rw [hz]; rfl) | rfl | (subst hz; rfl), HB2.out⟩
  | true =>
    have HG := Lib.hid hg
    have HZ2 := Lib.hid (show z = bitsIn m k by rw [HZ.out]; unfold rfitB; rw [hg]; rfl)
    clear hg
    go_enter Tryd.func24, Tryd.ntmps24
    go_upto_region 1 with fail
    rw [← eW0]
    clear eW0
    go_wp2_with (go_at_call 19; refine (rgood17_any _ _ _ _ _ _).mono ?_; rintro e w2 ⟨rfl, hb2⟩; rw [HG.out]; have HB2 := Lib.hid (HB0.out.trans (hb2.mono HB0.out.size)); have HH2 := Lib.hid ((hb2.block _ HZ0.out).trans HH1.out); clear hb2 hc0 hc1)
    obtain ⟨hc0, hc1⟩ := two_lab HH2.out
    go_loopw [7] (fun x wr => ∃ i : Nat, i ≤ 64 ∧ x = .int .i64 (i : Int) ∧ wr = w2 ∧ RowKit.Hid (∀ j : Nat, j < i → MM.hasB m (j : Int) = true → j < k ∨ j = 6)) (fun x _ => 64 - (intOf x).toNat)
    case atStart => exact ⟨0, Nat.zero_le _, rfl, rfl, Lib.hid fun j hj => absurd hj (Nat.not_lt_zero _)⟩
    case round =>
      obtain ⟨i, hi, rfl, e8, HJ⟩ := hrel
      rewrite [e8]
      clear e8
      by_cases hlt : i < 64
      · have i1 : (i : Int) < 64 := by omega
        cases hh : MM.hasB m (i : Int) with
        | false =>
          have HH := Lib.hid hh
          clear hh
          go_wp2_with (go_at_call 49; refine (rhas_any _ _ _ HM.out.1 HM.out.2).mono ?_; rintro e w' ⟨rfl, rfl⟩; rw [HH.out])
          go_roundw
          case rel => exact ⟨i + 1, by omega, by go_num, by first | exact trivial | rfl, Lib.hid fun j hj hm => if e : j = i then by rw [e, HH.out] at hm; cases hm else HJ.out j (by omega) hm⟩
          case measure => simp [intOf]; omega
        | true =>
          have HH := Lib.hid hh
          clear hh
          by_cases hk : i < k
          · have i2 : ¬ ((i : Int) ≥ k) := by omega
            have i3 : decide ((i : Int) ≥ k) = false := decide_eq_false i2
            have i4 : decide ((k : Int) ≤ i) = false := decide_eq_false i2
            go_wp2_with (go_at_call 49; refine (rhas_any _ _ _ HM.out.1 HM.out.2).mono ?_; rintro e w' ⟨rfl, rfl⟩; rw [HH.out])
            go_roundw
            case rel => exact ⟨i + 1, by omega, by go_num, by first | exact trivial | rfl, Lib.hid fun j hj hm => if e : j = i then .inl (by omega) else HJ.out j (by omega) hm⟩
            case measure => simp [intOf]; omega
          · have i2 : (i : Int) ≥ k := by omega
            have i3 : decide ((i : Int) ≥ k) = true := decide_eq_true i2
            have i4 : decide ((k : Int) ≤ i) = true := decide_eq_true i2
            by_cases h6 : i = 6
            · have HI6 := Lib.hid h6
              have i5 : ((i : Int) != 6) = false := by rw [h6]; rfl
              have i6 : ((i : Int) == 6) = true := by rw [h6]; rfl
              clear h6
              go_wp2_with (go_at_call 49; refine (rhas_any _ _ _ HM.out.1 HM.out.2).mono ?_; rintro e w' ⟨rfl, rfl⟩; rw [HH.out])
              go_roundw
              case rel => exact ⟨i + 1, by omega, by go_num, by first | exact trivial | rfl, Lib.hid fun j hj hm => if e : j = i then .inr (by rw [e]; exact HI6.out) else HJ.out j (by omega) hm⟩
              case measure => simp [intOf]; omega
            · have hz : z = false := by rw [HZ2.out]; exact bits_not hlt HH.out hk h6
              have i5 : ((i : Int) != 6) = true := by simp; omega
              have i6 : ((i : Int) == 6) = false := by simp; omega
              clear h6
              go_wp2_with (go_at_call 49; refine (rhas_any _ _ _ HM.out.1 HM.out.2).mono ?_; rintro e w' ⟨rfl, rfl⟩; rw [HH.out])
              go_ret
              exact ⟨by first | (rw [hz]; rfl) | rfl | (subst hz; rfl), HB2.out⟩
      · have hz : z = true := by rw [HZ2.out]; exact bits_all fun j hj hm => HJ.out j (by omega) hm
        have i1 : ¬ ((i : Int) < 64) := by omega
        go_wp2_with fail
        go_ret
        exact ⟨by first | (rw [hz]; rfl) | rfl | (subst hz; rfl), HB2.out⟩
def levB (n : Nat) (l : List Int) : Bool := l.all fun x => decide (0 ≤ x ∧ x < n)
set_option maxRecDepth 100000 in
set_option maxHeartbeats 3200000 in
theorem rlevels_any (ua : Option Addr) (n uc : Nat) {lv : Value} {l : List Int} (W : World) (hl : Row W.heap.size W lv l) (hn : n ≤ 17592186044416) (hll : l.length ≤ 1000000) :
    Calls Tryd.prog 27 #[.slice ua n uc, lv] W fun e V => e = .returned (.bool (levB n l)) ∧ W = V := by
  obtain ⟨la, lc, rfl⟩ := hl.form
  have HL := Lib.hid hl
  have b0 : (l.length : Int) ≤ 1000000 := by omega
  have b1 : (n : Int) ≤ 17592186044416 := by omega
  obtain ⟨z, ez⟩ : ∃ z, z = levB n l := ⟨_, rfl⟩
  have HZ := Lib.hid ez
  rw [← ez]
  clear ez hl hn hll
  go_enter Tryd.func27, Tryd.ntmps27
  go_wp2_with fail
  go_loopw [5] (fun x wr => ∃ i : Nat, i ≤ l.length ∧ x = .int .i64 (i : Int) ∧ wr = W ∧ RowKit.Hid (∀ j, j < i → 0 ≤ l[j]?.getD 0 ∧ l[j]?.getD 0 < n)) (fun x _ => l.length - (intOf x).toNat)
  case atStart => exact ⟨0, Nat.zero_le _, rfl, rfl, Lib.hid fun j hj => absurd hj (Nat.not_lt_zero _)⟩
  case round =>
    obtain ⟨i, hi, rfl, e8, HJ⟩ := hrel
    rewrite [e8]
    clear e8
    by_cases hlt : i < l.length
    · have i1 : (0 : Int) ≤ i ∧ (i : Int) < l.length := by omega
      obtain ⟨xb, xo, rfl, hx⟩ := HL.out.cellAt hlt
      have HNO := Lib.hid (fun (h : ¬ (0 ≤ l[i]?.getD 0 ∧ l[i]?.getD 0 < n)) => show levB n l = false from by
        unfold levB
        rw [List.all_eq_false]
        exact ⟨l[i]?.getD 0, GG.getD_mem hlt, by rw [decide_eq_false h]; simp⟩)
      have HYES := Lib.hid (fun (h : 0 ≤ l[i]?.getD 0 ∧ l[i]?.getD 0 < n) (j : Nat) (hj : j < i + 1) => if e : j = i then (e ▸ h : 0 ≤ l[j]?.getD 0 ∧ l[j]?.getD 0 < n) else HJ.out j (by omega))
      obtain ⟨x, ex⟩ : ∃ x, x = l[i]?.getD 0 := ⟨_, rfl⟩
      rw [← ex] at hx HNO HYES
      clear ex
      by_cases h0 : x < 0
      · have hz : z = false := by rw [HZ.out]; exact HNO.out (by omega)
        have j0 : decide (x < 0) = true := decide_eq_true h0
        go_wp2_with fail
        go_ret
        exact ⟨by first | (rw [hz]; rfl) | rfl | (subst hz; rfl), rfl⟩
      · have j0 : decide (x < 0) = false := decide_eq_false h0
        by_cases h1 : x ≥ n
        · have hz : z = false := by rw [HZ.out]; exact HNO.out (by omega)
          have j1 : decide (x ≥ n) = true := decide_eq_true h1
          have j2 : decide ((n : Int) ≤ x) = true := decide_eq_true h1
          go_wp2_with fail
          go_ret
          exact ⟨by first | (rw [hz]; rfl) | rfl | (subst hz; rfl), rfl⟩
        · have HN := Lib.hid (HYES.out (by omega))
          have j1 : decide (x ≥ n) = false := decide_eq_false h1
          have j2 : decide ((n : Int) ≤ x) = false := decide_eq_false h1
          go_wp2_with fail
          go_roundw
          case rel => exact ⟨i + 1, by omega, by go_num, by first | exact trivial | rfl, Lib.hid HN.out⟩
          case measure => simp [intOf]; omega
    · have hz : z = true := by
        rw [HZ.out]
        unfold levB
        rw [List.all_eq_true]
        intro x hx
        obtain ⟨j, hj, rfl⟩ := List.mem_iff_getElem.1 hx
        have h := HJ.out j (by omega)
        rw [List.getElem?_eq_getElem hj] at h
        exact decide_eq_true h
      have i1 : ¬ ((i : Int) < l.length) := by omega
      go_wp2_with fail
      go_ret
      exact ⟨by first | (rw [hz]; rfl) | rfl | (subst hz; rfl), rfl⟩
end Go.Proofs.YtodhoplchficpaaDoor
