import Derived.Test.YtjadckmdkkeopaaDoorSolY
set_option linter.unusedSimpArgs false
set_option linter.unusedVariables false
/-! layer 17's reference: Right, Value -/
namespace Go.Proofs.YtjadckmdkkeopaaDoor
open Go.RowKit
open SV (Lab SysOk Least labs sumOf mu sumP at' natsL askT askI fanN lok Bnd val valT)
theorem bel_of_dN {W : World} (d : Nat) : Below W.heap.size W (W.drewN d) := ⟨rfl, rfl, rfl, Nat.le_refl _, fun _ _ => rfl⟩
set_option maxRecDepth 100000 in
set_option maxHeartbeats 3200000 in
theorem rright17_any {uv cv nv : Value} {xs : List Int} {c : List (Int × Int)} {to : List (List Int)} (W : World) (hu : Nums .u64 W.heap.size W uv xs) (hx : Wide xs) (hxl : xs.length ≤ big5) (hv : LabRow W.heap.size W cv c) (hg : GraphM W.heap.size W nv to) (hcl : c.length ≤ 17592186044416) (hs : Small to) :
    Calls Tryd.prog 18 #[uv, cv, nv] W fun e V => e = .returned (.bool (sysB xs c to)) ∧ Below W.heap.size W V := by
  obtain ⟨ua, uc, rfl⟩ := hu.form
  obtain ⟨ca, cc, rfl⟩ := hv.form
  obtain ⟨na, nc, rfl⟩ := hg.form
  have b0 : (c.length : Int) ≤ 17592186044416 := by omega
  have b1 : (to.length : Int) ≤ 17592186044416 := by have := hs.1; omega
  have HU := Lib.hid hu
  have HX := Lib.hid hx
  have HXL := Lib.hid (show xs.length ≤ 9223372036854775807 by unfold big5 at hxl; omega)
  have HC := Lib.hid hv
  have HG := Lib.hid hg
  have HS := Lib.hid hs
  obtain ⟨z, ez⟩ : ∃ z, z = sysB xs c to := ⟨_, rfl⟩
  have HZ := Lib.hid ez
  rw [← ez]
  clear hu hx hxl hv hg hcl hs ez
  cases hr : LL.rightB xs with
  | false =>
    have hz : z = false := by rw [HZ.out]; unfold sysB; rw [hr]; simp
    have HR := Lib.hid hr
    clear hr
    go_enter Tryd.func18, Tryd.ntmps18
    go_wp2_with (go_at_call 33; refine (rright_any _ xs _ _ HU.out HX.out HXL.out).mono ?_; rintro e w2 ⟨rfl, d, e2⟩; rw [HR.out]; have HB2 := Lib.hid (show Below W.heap.size W w2 from by rw [e2]; exact bel_of_dN d); clear e2)
    go_ret
    exact ⟨by first | (rw [hz]; rfl) | rfl | (subst hz; rfl), HB2.out⟩
  | true =>
    have HR := Lib.hid hr
    clear hr
    by_cases hA : (16384 : Int) < c.length
    · have hz : z = false := by rw [HZ.out]; unfold sysB; rw [decide_eq_false (by omega)]; simp
      go_enter Tryd.func18, Tryd.ntmps18
      go_wp2_with (go_at_call 33; refine (rright_any _ xs _ _ HU.out HX.out HXL.out).mono ?_; rintro e w2 ⟨rfl, d, e2⟩; rw [HR.out]; have HB2 := Lib.hid (show Below W.heap.size W w2 from by rw [e2]; exact bel_of_dN d); clear e2)
      go_ret
      exact ⟨by first | (rw [hz]; rfl) | rfl | (subst hz; rfl), HB2.out⟩
    · by_cases hB : to.length = c.length
      · have HBQ := Lib.hid hB
        rw [hB] at b1
        have hq2 : ((to.length : Int) != (c.length : Int)) = false := by rw [hB]; simp
        clear hB
        go_enter Tryd.func18, Tryd.ntmps18
        go_wp2_with (go_at_call 33; refine (rright_any _ xs _ _ HU.out HX.out HXL.out).mono ?_; rintro e w2 ⟨rfl, d, e2⟩; rw [HR.out]; have HB2 := Lib.hid (show Below W.heap.size W w2 from by rw [e2]; exact bel_of_dN d); clear e2)
        go_loopw [7] (fun k wr => ∃ i : Nat, i ≤ c.length ∧ k = .int .i64 (i : Int) ∧ Below W.heap.size W wr ∧ RowKit.Hid (∀ a, a < i → (0 ≤ (c[a]?.getD s0).1 ∧ (c[a]?.getD s0).1 < xs.length) ∧ rowIn c.length (to[a]?.getD []) = true)) (fun k _ => c.length - (intOf k).toNat)
        case atStart => exact ⟨0, Nat.zero_le _, rfl, HB2.out, Lib.hid fun a ha => absurd ha (Nat.not_lt_zero _)⟩
        case round =>
          obtain ⟨i, hi, rfl, hb3, HA⟩ := hrel
          have HB3 := Lib.hid hb3
          clear hb3
          by_cases hlt : i < c.length
          · obtain ⟨lb, lo, rfl, _, hl1, hl2⟩ := (HC.out.below HB3.out).at hlt
            have i1 : (0 : Int) ≤ i ∧ (i : Int) < c.length := by omega
            have i2 : (0 : Int) ≤ i ∧ (i : Int) < to.length := by have := HBQ.out; omega
            have hlt2 : i < to.length := by omega
            obtain ⟨va, vo, vc2, e1⟩ := HG.out.addr (by omega)
            cases e1
            have HNL := Lib.hid (fun h => lab_no (n := xs.length) hlt h)
            have HNR := Lib.hid (fun h => rows_no (n := c.length) hlt2 h)
            have HNX := Lib.hid (fun (h : 0 ≤ (c[i]?.getD s0).1 ∧ (c[i]?.getD s0).1 < xs.length) (g : rowIn c.length (to[i]?.getD []) = true) (a : Nat) (ha : a < i + 1) => if e : a = i then e ▸ ⟨h, g⟩ else HA.out a (by omega))
            obtain ⟨⟨pl, pm⟩, ep⟩ : ∃ p, p = c[i]?.getD s0 := ⟨_, rfl⟩
            rw [← ep] at hl1 hl2 HNL HNX
            simp only at hl1 hl2
            clear ep
            by_cases hok : 0 ≤ pl ∧ pl < xs.length
            · have HOK := Lib.hid hok
              have HLT := Lib.hid (show labOk xs.length (pl, pm) = true from decide_eq_true hok)
              clear hok
              go_wp2_with (go_at_call 26; refine (rgood17_any _ _ _ _ _ _).mono ?_; rintro e w4 ⟨rfl, hb4⟩; rw [HLT.out]; have HB4 := Lib.hid (HB3.out.trans (hb4.mono HB3.out.size)); clear hb4 hl1 hl2)
              go_loopw [8] (fun k wr => ∃ q : Nat, q ≤ (to[i]?.getD []).length ∧ k = .int .i64 (q : Int) ∧ Below W.heap.size W wr ∧ RowKit.Hid (∀ a, a < q → 0 ≤ (to[i]?.getD [])[a]?.getD 0 ∧ (to[i]?.getD [])[a]?.getD 0 < c.length)) (fun k _ => (to[i]?.getD []).length - (intOf k).toNat)
              case atStart => exact ⟨0, Nat.zero_le _, rfl, HB4.out, Lib.hid fun a ha => absurd ha (Nat.not_lt_zero _)⟩
              case round =>
                obtain ⟨q, hq, rfl, hb5, HA5⟩ := hrel
                have HB5 := Lib.hid hb5
                clear hb5
                obtain ⟨ra, rac, hx1, hrx⟩ := (HG.out.below HB5.out).at hlt2
                have b2 : (to[i]?.getD []).length ≤ 17592186044416 := HS.out.row i
                have HRN := Lib.hid (fun q (hq : q < (to[i]?.getD []).length) h => HNR.out (row_no (n := c.length) hq h))
                have HRY := Lib.hid (fun (h : ∀ a, a < (to[i]?.getD []).length → 0 ≤ (to[i]?.getD [])[a]?.getD 0 ∧ (to[i]?.getD [])[a]?.getD 0 < c.length) => HNX.out HOK.out (row_yes h))
                obtain ⟨r, er⟩ : ∃ r, r = to[i]?.getD [] := ⟨_, rfl⟩
                rw [← er] at hx1 hrx b2 HRN HRY HA5 hq ⊢
                have HER := Lib.hid er
                clear er
                by_cases hqt : q < r.length
                · obtain ⟨xb2, xo2, rfl, hx2⟩ := hrx.cellAt hqt
                  have i3 : (0 : Int) ≤ q ∧ (q : Int) < r.length := by omega
                  have HN5 := Lib.hid (fun (h : 0 ≤ r[q]?.getD 0 ∧ r[q]?.getD 0 < c.length) (a : Nat) (ha : a < q + 1) => if e : a = q then e ▸ h else HA5.out a (by omega))
                  have HRQ := Lib.hid (HRN.out q hqt)
                  obtain ⟨x, ex⟩ : ∃ x, x = r[q]?.getD 0 := ⟨_, rfl⟩
                  rw [← ex] at hx2 HN5 HRQ
                  clear ex hrx
                  by_cases h0 : x < 0
                  · have hz : z = false := by rw [HZ.out]; unfold sysB; rw [HRQ.out (by omega)]; simp
                    go_wp2_with fail
                    go_ret
                    exact ⟨by first | (rw [hz]; rfl) | rfl | (subst hz; rfl), HB5.out⟩
                  · by_cases h1 : (c.length : Int) ≤ x
                    · have hz : z = false := by rw [HZ.out]; unfold sysB; rw [HRQ.out (by omega)]; simp
                      go_wp2_with fail
                      go_ret
                      exact ⟨by first | (rw [hz]; rfl) | rfl | (subst hz; rfl), HB5.out⟩
                    · have HN := Lib.hid (HN5.out (by omega))
                      go_wp2_with fail
                      go_roundw
                      case rel => exact ⟨q + 1, by omega, by go_num, HB5.out, Lib.hid HN.out⟩
                      case measure => simp [intOf]; omega
                · have HN := Lib.hid (HRY.out fun a ha => HA5.out a (by omega))
                  have hqz : ¬ ((q : Int) < r.length) := by omega
                  clear hrx
                  go_wp2_with fail
                  go_roundw
                  case rel => exact ⟨i + 1, by omega, by go_num, HB5.out, Lib.hid HN.out⟩
                  case measure => simp [intOf]; omega
            · have hz : z = false := by rw [HZ.out]; unfold sysB; rw [HNL.out hok]; simp
              have HLT := Lib.hid (show labOk xs.length (pl, pm) = false from decide_eq_false hok)
              clear hok
              go_wp2_with (go_at_call 26; refine (rgood17_any _ _ _ _ _ _).mono ?_; rintro e w4 ⟨rfl, hb4⟩; rw [HLT.out]; have HB4 := Lib.hid (HB3.out.trans (hb4.mono HB3.out.size)); clear hb4 hl1 hl2)
              go_ret
              exact ⟨by first | (rw [hz]; rfl) | rfl | (subst hz; rfl), HB4.out⟩
          · have hz : z = true := by
              rw [HZ.out]
              unfold sysB
              rw [decide_eq_true (by omega), decide_eq_true HBQ.out, HR.out, lab_yes fun j hj => (HA.out j (by omega)).1, rows_yes fun a ha => (HA.out a (by have := HBQ.out; omega)).2]
              rfl
            have hjz : ¬ ((i : Int) < c.length) := by omega
            go_wp2_with fail
            go_ret
            exact ⟨by first | (rw [hz]; rfl) | rfl | (subst hz; rfl), HB3.out⟩
      · have hz : z = false := by rw [HZ.out]; unfold sysB; rw [decide_eq_false hB]; simp
        have hq2 : ((to.length : Int) != (c.length : Int)) = true := by simp; omega
        clear hB
        go_enter Tryd.func18, Tryd.ntmps18
        go_wp2_with (go_at_call 33; refine (rright_any _ xs _ _ HU.out HX.out HXL.out).mono ?_; rintro e w2 ⟨rfl, d, e2⟩; rw [HR.out]; have HB2 := Lib.hid (show Below W.heap.size W w2 from by rw [e2]; exact bel_of_dN d); clear e2)
        go_ret
        exact ⟨by first | (rw [hz]; rfl) | rfl | (subst hz; rfl), HB2.out⟩
theorem GraphM.atB {n₀ : Nat} {W : World} {b off n cap : Nat} {to : List (List Int)} (h : GraphM n₀ W (.slice (some ⟨b, off, none⟩) n cap) to) {j : Nat} (hj : j < to.length) :
    b < n₀ ∧ ∃ a' cap', W.cell? ⟨b, off + j, none⟩ = some (.slice a' (to[j]?.getD []).length cap') ∧ Row n₀ W (.slice a' (to[j]?.getD []).length cap') (to[j]?.getD []) := by
  refine ⟨?_, h.at hj⟩
  obtain ⟨vs, h1, h2, h3⟩ := h
  obtain ⟨b', off', cap', e, hb, _⟩ := h1.at (by omega)
  cases e
  exact hb
theorem Row.cellB {n₀ : Nat} {W : World} {a : Option Addr} {n cap : Nat} {xs : List Int} (h : Row n₀ W (.slice a n cap) xs) {k : Nat} (hk : k < xs.length) : ∃ b off, a = some ⟨b, off, none⟩ ∧ b < n₀ ∧ W.cell? ⟨b, off + k, none⟩ = some (.int .i64 (xs[k]?.getD 0)) := by
  obtain ⟨b, off, cap', e, hb, hc⟩ := h.at (by omega)
  cases e
  exact ⟨b, off, rfl, hb, hc k hk⟩
theorem one_lab {W : World} {N : Nat} {a m : Int} (h : W.heap[N]? = some (.cells #[.int .i64 a, .int .u64 m] 43)) : W.cell? ⟨N, 0, none⟩ = some (.int .i64 a) ∧ W.cell? ⟨N, 1, none⟩ = some (.int .u64 m) ∧ W.frozen? ⟨N, 0, none⟩ = false ∧ W.frozen? ⟨N, 1, none⟩ = false :=
  ⟨cell_of_row _ _ 0 _ _ _ h, cell_of_row _ _ 1 _ _ _ h, by simp [World.frozen?, h], by simp [World.frozen?, h]⟩
theorem put_lab {W : World} {N : Nat} {a m : Int} (h : W.heap[N]? = some (.cells #[.int .i64 a, .int .u64 m] 43)) (b k : Int) : ((W.setCell ⟨N, 0, none⟩ (.int .i64 b)).setCell ⟨N, 1, none⟩ (.int .u64 k)).heap[N]? = some (.cells #[.int .i64 b, .int .u64 k] 43) ∧ ∀ j, j ≠ N → ((W.setCell ⟨N, 0, none⟩ (.int .i64 b)).setCell ⟨N, 1, none⟩ (.int .u64 k)).heap[j]? = W.heap[j]? :=
  ⟨SS.set_obj (c := 1) (.int .u64 k) (SS.set_obj (c := 0) (.int .i64 b) h), fun j hj => (Below.heap_setCell _ _ _ _ hj).trans (Below.heap_setCell _ _ _ _ hj)⟩
def ValE (xs : List Int) (c : List (Int × Int)) (to : List (List Int)) (hr : LL.rightB xs = true) (hx : Wide xs) (l : List Lab) (i : Nat) (W : World) (e : Ending) (V : World) : Prop :=
  e = .returned (.agg #[.int .i64 ((val (labs xs hr hx) (sysL c to) l i).1 : Int), .int .u64 (val (labs xs hr hx) (sysL c to) l i).2]) ∧ Below W.heap.size W V
set_option maxRecDepth 100000 in
set_option maxHeartbeats 6400000 in
theorem rvalue_any {uv cv nv lv : Value} {xs : List Int} {c l : List (Int × Int)} {to : List (List Int)} (W : World) (hu : Nums .u64 W.heap.size W uv xs) (hx : Wide xs) (hr : LL.rightB xs = true) (hv : LabRow W.heap.size W cv c) (hg : GraphM W.heap.size W nv to) (hs : Small to) (hl : LabRow W.heap.size W lv l) (hS : SysOk (labs xs hr hx) (sysL c to)) (hin : ∀ j, j < c.length → 0 ≤ (c[j]?.getD s0).1 ∧ (c[j]?.getD s0).1 < xs.length) (hti : ∀ a : Nat, ∀ x ∈ to[a]?.getD [], 0 ≤ x ∧ x < to.length) (hwl : WideL l) (hal : l.all (labOk xs.length) = true) (hlen : l.length = c.length) (htn : to.length = c.length) (hcl : c.length ≤ 17592186044416) (i : Nat) (hi : i < c.length) :
    Calls Tryd.prog 28 #[uv, cv, nv, lv, .int .i64 i] W fun e V => ValE xs c to hr hx (natL l) i W e V := by
  obtain ⟨ua, uc, rfl⟩ := hu.form
  obtain ⟨cb, co, cc, ecv, _, hc1, hc2⟩ : ∃ cb co cc, cv = .slice (some ⟨cb, co, none⟩) c.length cc ∧ cb < W.heap.size ∧ W.cell? ⟨cb, co + i * 2, none⟩ = some (.int .i64 (c[i]?.getD s0).1) ∧ W.cell? ⟨cb, co + i * 2 + 1, none⟩ = some (.int .u64 (c[i]?.getD s0).2) := by
    obtain ⟨ca, cc, rfl⟩ := hv.form
    obtain ⟨b, o, rfl, h1, h2, h3⟩ := hv.at hi
    exact ⟨b, o, cc, rfl, h1, h2, h3⟩
  subst ecv
  obtain ⟨va, vo, vc, rfl⟩ := hg.addr (by omega)
  obtain ⟨hvb, ra, rac, hx1, hrx⟩ := hg.atB (show i < to.length by omega)
  obtain ⟨la, lc, rfl⟩ := hl.form
  have HU := Lib.hid hu
  have HX := Lib.hid hx
  have HLW := Lib.hid hl
  have HS := Lib.hid (show SysOk (labs xs hr HX.out) (sysL c to) from hS)
  have HTI := Lib.hid (hti i)
  have HOK := Lib.hid (fun i (hi : i < c.length) => lok_at hwl hal (show i < l.length by rw [hlen]; exact hi))
  have HAL := Lib.hid hal
  have HLN := Lib.hid hlen
  have HTN := Lib.hid htn
  have HX64 := Lib.hid (show xs.length ≤ 64 from (LL.ord_len (LL.right_ord hr)).2)
  have HND := Lib.hid (nd_at c to i)
  have HRX := Lib.hid hrx
  have HXB := Lib.hid hx1
  have HVB := Lib.hid hvb
  have HIC := Lib.hid hi
  show Calls Tryd.prog 28 _ W fun e V => ValE xs c to hr HX.out (natL l) i W e V
  have hb2 := hs.row i
  have b0 : (c.length : Int) ≤ 17592186044416 := by omega
  have b1 : (l.length : Int) ≤ 17592186044416 := by omega
  have b2 : (to.length : Int) ≤ 17592186044416 := by omega
  have i1 : (0 : Int) ≤ i ∧ (i : Int) < c.length := by omega
  have i2 : (0 : Int) ≤ i ∧ (i : Int) < to.length := by omega
  have hC0 := natL_at hi
  have hlk0 := hS.ok i (show i < (sysL c to).C.length by rw [show (sysL c to).C.length = c.length from natL_len c]; exact hi)
  have e0 : (c[i]?.getD s0).1 = ((at' (natL c) i).1 : Int) := by rw [hC0]; have := hin i hi; simp only; omega
  have e1 : (c[i]?.getD s0).2 = (at' (natL c) i).2 := by rw [hC0]
  rw [e0] at hc1
  rw [e1] at hc2
  have HV0 := Lib.hid (show at' (natL c) i = valT (labs xs hr HX.out) (sysL c to) (natL l) i 0 from (SV.valT_zero (M := labs xs hr HX.out) (sysL c to) (natL l) i).symm)
  obtain ⟨⟨p0, m0⟩, ep0⟩ : ∃ p, p = at' (natL c) i := ⟨_, rfl⟩
  rw [← ep0] at hc1 hc2 HV0
  simp only at hc1 hc2
  clear ep0 hC0 hlk0 e0 e1 hu hx hl hS hti hwl hal hlen htn hcl hi hv hg hs hin hrx hx1 hvb
  obtain ⟨r, er⟩ : ∃ r, r = to[i]?.getD [] := ⟨_, rfl⟩
  rw [← er] at HXB HRX hb2 HTI HND
  have b3 : (r.length : Int) ≤ 17592186044416 := by omega
  clear er
  have hx1 := HXB.out
  obtain ⟨W0, eW0⟩ : ∃ W0, W0 = (W.alloc (.cells #[.int .i64 0, .int .u64 0] 43)).alloc (.cells #[.int .i64 p0, .int .u64 m0] 43) := ⟨_, rfl⟩
  have HB0 := Lib.hid (show Below W.heap.size W W0 by rw [eW0]; exact ((Below.refl _ _).alloc (Nat.le_refl _) _).alloc (by simp) _)
  have HH1 := Lib.hid (show W0.heap[W.heap.size]? = some (.cells #[.int .i64 0, .int .u64 0] 43) by rw [eW0, heap_alloc_old _ _ (by simp), heap_alloc_new])
  have HH2 := Lib.hid (show W0.heap[W.heap.size + 1]? = some (.cells #[.int .i64 p0, .int .u64 m0] 43) by rw [eW0]; exact SS.new_at (by simp))
  go_enter Tryd.func28, Tryd.ntmps28
  go_wp2_with fail
  rw [← eW0]
  clear eW0 hc1 hc2 hx1
  go_loopw [12] (fun k wr => ∃ (q : Nat) (p : Nat) (m : Int), q ≤ r.length ∧ k = .int .i64 (q : Int) ∧ Below W.heap.size W wr ∧ wr.heap[W.heap.size]? = some (.cells #[.int .i64 0, .int .u64 0] 43) ∧ wr.heap[W.heap.size + 1]? = some (.cells #[.int .i64 p, .int .u64 m] 43) ∧ RowKit.Hid ((p, m) = valT (labs xs hr HX.out) (sysL c to) (natL l) i q)) (fun k _ => r.length - (intOf k).toNat)
  case atStart => exact ⟨0, p0, m0, Nat.zero_le _, rfl, HB0.out, HH1.out, HH2.out, HV0⟩
  case round =>
    obtain ⟨q, p, m, hq, rfl, hb, hh1, hh2, HP⟩ := hrel
    have HB := Lib.hid hb
    have HC1 := Lib.hid hh1
    have HC2 := Lib.hid hh2
    have hx1 : wr.cell? ⟨va, vo + i, none⟩ = some (.slice ra r.length rac) := (hb.cell (p := ⟨va, vo + i, none⟩) HVB.out).trans HXB.out
    have hpc := one_lab hh2
    have hp1 := hpc.1
    have hp2 := hpc.2.1
    clear hb hh1 hh2 hpc HB0 HH1 HH2
    by_cases hqt : q < r.length
    · obtain ⟨xb, xo, rfl, hxb, hx2⟩ := HRX.out.cellB hqt
      have i3 : (0 : Int) ≤ q ∧ (q : Int) < r.length := by omega
      have HX2 := Lib.hid (HTI.out _ (GG.getD_mem (d := 0) hqt))
      have HNQ := Lib.hid (show ((sysL c to).nd i)[q]? = some (r[q]?.getD 0).toNat by rw [HND.out, List.getElem?_map, List.getElem?_eq_getElem hqt]; rfl)
      obtain ⟨x, ex⟩ : ∃ x, x = r[q]?.getD 0 := ⟨_, rfl⟩
      rw [← ex] at hx2 HX2 HNQ
      clear ex
      obtain ⟨y, rfl⟩ : ∃ y : Nat, x = (y : Int) := ⟨x.toNat, by have := HX2.out; omega⟩
      have HYC := Lib.hid (show y < c.length by have h1 := HX2.out; have h2 := HTN.out; omega)
      have hyl : y < l.length := by have h1 := HYC.out; have h2 := HLN.out; omega
      have i4 : (0 : Int) ≤ (y : Int) ∧ (y : Int) < l.length := by omega
      obtain ⟨lb, lo, rfl, hlb, hl1, hl2⟩ := HLW.out.at hyl
      have HLY := Lib.hid (HOK.out y HYC.out)
      have e2 : (l[y]?.getD s0).1 = ((at' (natL l) y).1 : Int) := by rw [natL_at hyl]; have := lab_yes2 HAL.out hyl; simp only; omega
      have e3 : (l[y]?.getD s0).2 = (at' (natL l) y).2 := by rw [natL_at hyl]
      have HVS := Lib.hid (SV.valT_step (M := labs xs hr HX.out) (S := sysL c to) (l := natL l) (i := i) (k := q) (j := y) (by rw [HNQ.out, Int.toNat_natCast]))
      have HPK := Lib.hid (show lok xs (p, m) by
        rw [HP.out]
        unfold valT
        exact (SV.fold_val (M := labs xs hr HX.out) (natL l) _ _ (HS.out.ok i (by rw [show (sysL c to).C.length = c.length from natL_len c]; exact HIC.out)) (fun j hj => HOK.out j (by have h := HS.out.lt i (by rw [show (sysL c to).C.length = c.length from natL_len c]; exact HIC.out) j (List.mem_of_mem_take hj); rw [show (sysL c to).C.length = c.length from natL_len c] at h; exact h))).1)
      rw [e2] at hl1
      rw [e3] at hl2
      obtain ⟨⟨b4, b5⟩, eb⟩ : ∃ b, b = at' (natL l) y := ⟨_, rfl⟩
      rw [← eb] at hl1 hl2 HLY HVS
      simp only at hl1 hl2
      clear e2 e3 eb
      have HNX := Lib.hid (show (LL.joinN xs p b4, bits .or .u64 m b5) = valT (labs xs hr HX.out) (sysL c to) (natL l) i (q + 1) by rw [HVS.out, ← HP.out]; rfl)
      have HJN := Lib.hid (LL.joinN_is hr HPK.out.1 HLY.out.1).2
      have HQ4 := Lib.hid (fun V (hb : Below W.heap.size W V) => show V.cell? ⟨va, vo + i, none⟩ = some (.slice (some ⟨xb, xo, none⟩) r.length rac) ∧ V.cell? ⟨xb, xo + q, none⟩ = some (.int .i64 (y : Int)) ∧ V.cell? ⟨lb, lo + y * 2, none⟩ = some (.int .i64 b4) ∧ V.cell? ⟨lb, lo + y * 2 + 1, none⟩ = some (.int .u64 b5) from
        ⟨(hb.cell (p := ⟨va, vo + i, none⟩) HVB.out).trans HXB.out, (hb.cell (p := ⟨xb, xo + q, none⟩) hxb).trans hx2, (hb.cell (p := ⟨lb, lo + y * 2, none⟩) hlb).trans hl1, (hb.cell (p := ⟨lb, lo + y * 2 + 1, none⟩) hlb).trans hl2⟩)
      clear hx2 hl1 hl2 hp1 hp2
      go_upto_region 5 with fail
      clear hx1
      have HB7 := Lib.hid (show Below W.heap.size W wr.drew from HB.out.drew)
      have HD1 := Lib.hid (show wr.drew.heap[W.heap.size]? = _ from HC1.out)
      have HD2 := Lib.hid (show wr.drew.heap[W.heap.size + 1]? = _ from HC2.out)
      refine wp_region_held_drew (S := (fun V => V.cell? ⟨va, vo + i, none⟩ = some (.slice (some ⟨xb, xo, none⟩) r.length rac) ∧ V.cell? ⟨xb, xo + q, none⟩ = some (.int .i64 (y : Int)) ∧ V.cell? ⟨lb, lo + y * 2, none⟩ = some (.int .i64 b4) ∧ V.cell? ⟨lb, lo + y * 2 + 1, none⟩ = some (.int .u64 b5))) (by kernel_rfl) ?_ (fun hHeld => ?_)
      · exact HQ4.out _ HB7.out
      generalize wr.drew = w7 at HB7 HD1 HD2 hHeld ⊢
      have hpd := one_lab HD2.out
      have hp1 := hpd.1
      have hp2 := hpd.2.1
      clear hpd
      refine wpAnyH_take (i := 0) (v := .slice ua xs.length uc) rfl (by kernel_rfl) (by kernel_rfl) (by kernel_rfl) (fun _ _ _ h => h) (Or.inl ⟨by rfl, fun W hSW => ?_⟩) hHeld ?_
      · ((try dsimp only at hSW); go_split_ands; go_simp <;> with_reducible rfl)
      try simp only [List.getElem_toArray, List.getElem_cons_succ, List.getElem_cons_zero, Act.put, List.setIfInBounds_toArray, List.set_cons_zero, List.set_cons_succ]
      refine wpAnyH_take (i := 2) (v := .slice (some ⟨lb, lo, none⟩) l.length lc) rfl (by kernel_rfl) (by kernel_rfl) (by kernel_rfl) (fun _ _ _ h => h) (Or.inl ⟨by rfl, fun W hSW => ?_⟩) hHeld ?_
      · ((try dsimp only at hSW); go_split_ands; go_simp <;> with_reducible rfl)
      try simp only [List.getElem_toArray, List.getElem_cons_succ, List.getElem_cons_zero, Act.put, List.setIfInBounds_toArray, List.set_cons_zero, List.set_cons_succ]
      refine wpAnyH_take (i := 3) (v := .slice (some ⟨va, vo, none⟩) to.length vc) rfl (by kernel_rfl) (by kernel_rfl) (by kernel_rfl) (fun _ _ _ h => h) (Or.inl ⟨by rfl, fun W hSW => ?_⟩) hHeld ?_
      · ((try dsimp only at hSW); go_split_ands; go_simp <;> with_reducible rfl)
      try simp only [List.getElem_toArray, List.getElem_cons_succ, List.getElem_cons_zero, Act.put, List.setIfInBounds_toArray, List.set_cons_zero, List.set_cons_succ]
      refine wpAnyH_take (i := 4) (v := .int .i64 i) rfl (by kernel_rfl) (by kernel_rfl) (by kernel_rfl) (fun _ _ _ h => h) (Or.inl ⟨by rfl, fun W hSW => ?_⟩) hHeld ?_
      · ((try dsimp only at hSW); go_split_ands; go_simp <;> with_reducible rfl)
      try simp only [List.getElem_toArray, List.getElem_cons_succ, List.getElem_cons_zero, Act.put, List.setIfInBounds_toArray, List.set_cons_zero, List.set_cons_succ]
      refine wpAnyH_take (i := 5) (v := .pointer (some ⟨va, vo + i, none⟩)) rfl (by kernel_rfl) (by kernel_rfl) (by kernel_rfl) (fun _ _ _ h => h) (Or.inl ⟨by rfl, fun W hSW => ?_⟩) hHeld ?_
      · ((try dsimp only at hSW); go_split_ands; go_simp <;> with_reducible rfl)
      try simp only [List.getElem_toArray, List.getElem_cons_succ, List.getElem_cons_zero, Act.put, List.setIfInBounds_toArray, List.set_cons_zero, List.set_cons_succ]
      refine wpAnyH_take (i := 6) (v := .slice (some ⟨xb, xo, none⟩) r.length rac) rfl (by kernel_rfl) (by kernel_rfl) (by kernel_rfl) (fun _ _ _ h => h) (Or.inl ⟨by rfl, fun W hSW => ?_⟩) hHeld ?_
      · ((try dsimp only at hSW); go_split_ands; go_simp <;> with_reducible rfl)
      try simp only [List.getElem_toArray, List.getElem_cons_succ, List.getElem_cons_zero, Act.put, List.setIfInBounds_toArray, List.set_cons_zero, List.set_cons_succ]
      refine wpAnyH_take (i := 7) (v := .int .i64 q) rfl (by kernel_rfl) (by kernel_rfl) (by kernel_rfl) (fun _ _ _ h => h) (Or.inl ⟨by rfl, fun W hSW => ?_⟩) hHeld ?_
      · ((try dsimp only at hSW); go_split_ands; go_simp <;> with_reducible rfl)
      try simp only [List.getElem_toArray, List.getElem_cons_succ, List.getElem_cons_zero, Act.put, List.setIfInBounds_toArray, List.set_cons_zero, List.set_cons_succ]
      refine wpAnyH_take (i := 8) (v := .pointer (some ⟨xb, xo + q, none⟩)) rfl (by kernel_rfl) (by kernel_rfl) (by kernel_rfl) (fun _ _ _ h => h) (Or.inl ⟨by rfl, fun W hSW => ?_⟩) hHeld ?_
      · ((try dsimp only at hSW); go_split_ands; go_simp <;> with_reducible rfl)
      try simp only [List.getElem_toArray, List.getElem_cons_succ, List.getElem_cons_zero, Act.put, List.setIfInBounds_toArray, List.set_cons_zero, List.set_cons_succ]
      refine wpAnyH_take (i := 9) (v := .int .i64 (y : Int)) rfl (by kernel_rfl) (by kernel_rfl) (by kernel_rfl) (fun _ _ _ h => h) (Or.inl ⟨by rfl, fun W hSW => ?_⟩) hHeld ?_
      · ((try dsimp only at hSW); go_split_ands; go_simp <;> with_reducible rfl)
      try simp only [List.getElem_toArray, List.getElem_cons_succ, List.getElem_cons_zero, Act.put, List.setIfInBounds_toArray, List.set_cons_zero, List.set_cons_succ]
      refine wpAnyH_take (i := 10) (v := .pointer (some ⟨lb, lo + y * 2, none⟩)) rfl (by kernel_rfl) (by kernel_rfl) (by kernel_rfl) (fun _ _ _ h => h) (Or.inl ⟨by rfl, fun W hSW => ?_⟩) hHeld ?_
      · ((try dsimp only at hSW); go_split_ands; go_simp <;> with_reducible rfl)
      try simp only [List.getElem_toArray, List.getElem_cons_succ, List.getElem_cons_zero, Act.put, List.setIfInBounds_toArray, List.set_cons_zero, List.set_cons_succ]
      refine wpAnyH_take (i := 11) (v := .agg #[.int .i64 b4, .int .u64 b5]) rfl (by kernel_rfl) (by kernel_rfl) (by kernel_rfl) (fun _ _ _ h => h) (Or.inl ⟨by rfl, fun W hSW => ?_⟩) hHeld ?_
      · ((try dsimp only at hSW); go_split_ands; go_simp <;> with_reducible rfl)
      try simp only [List.getElem_toArray, List.getElem_cons_succ, List.getElem_cons_zero, Act.put, List.setIfInBounds_toArray, List.set_cons_zero, List.set_cons_succ]
      refine wpAnyH_ready (rs := [1]) (by kernel_rfl) (by simp) ?_
      refine AllReadyH.cons rfl (fun K hK => ?_) AllReadyH.nil
      try simp only [List.getElem_toArray, List.getElem_cons_succ, List.getElem_cons_zero]
      go_simp
      try go_wp2_with fail
      refine hK.out _ _ ?_ (fun hHeld => ?_)
      · exact hHeld
      clear hK K
      try simp only [List.getElem_toArray, List.getElem_cons_succ, List.getElem_cons_zero, Act.put, List.setIfInBounds_toArray, List.set_cons_zero, List.set_cons_succ]
      clear hp1 hp2
      refine wpAnyH_ready (rs := [12]) (by kernel_rfl) (by simp) ?_
      refine AllReadyH.cons rfl (fun K hK => ?_) AllReadyH.nil
      try simp only [List.getElem_toArray, List.getElem_cons_succ, List.getElem_cons_zero]
      go_simp
      (go_at_call 30; refine (rjoin17_any _ xs w7.heap.size p b4 m b5 w7 ((HU.out.below HB7.out).mono HB7.out.size) (Nat.le_refl _) HX.out HX64.out HPK.out.1 HLY.out.1).mono ?_; rintro e w8 ⟨rfl, hb8⟩; rw [HJN.out]; have HB8 := Lib.hid (HB7.out.trans (hb8.mono HB7.out.size)); have HE1 := Lib.hid ((hb8.block _ (SS.heap_some_lt HD1.out)).trans HD1.out); have HE2 := Lib.hid ((hb8.block _ (SS.heap_some_lt HD2.out)).trans HD2.out); clear hb8)
      try go_wp2_with fail
      refine hK.out _ _ ?_ (fun hHeld => ?_)
      · exact HQ4.out _ HB8.out
      clear hK K
      try simp only [List.getElem_toArray, List.getElem_cons_succ, List.getElem_cons_zero, Act.put, List.setIfInBounds_toArray, List.set_cons_zero, List.set_cons_succ]
      have hpd := one_lab HE2.out
      have hp1 := hpd.1
      have hp2 := hpd.2.1
      have hf1 := hpd.2.2.1
      have hf2 := hpd.2.2.2
      clear hpd
      have HPT := Lib.hid (put_lab HE2.out (LL.joinN xs p b4) (bits .or .u64 m b5))
      have HBZ := Lib.hid (show Below W.heap.size W ((w8.setCell ⟨W.heap.size + 1, 0, none⟩ (.int .i64 (LL.joinN xs p b4))).setCell ⟨W.heap.size + 1, 1, none⟩ (.int .u64 (bits .or .u64 m b5))) from (HB8.out.setCell (p := ⟨W.heap.size + 1, 0, none⟩) (by show W.heap.size ≤ W.heap.size + 1; omega) _).setCell (p := ⟨W.heap.size + 1, 1, none⟩) (by show W.heap.size ≤ W.heap.size + 1; omega) _)
      refine wpAnyH_ready (rs := [13]) (by kernel_rfl) (by simp) ?_
      refine AllReadyH.cons rfl (fun K hK => ?_) AllReadyH.nil
      try simp only [List.getElem_toArray, List.getElem_cons_succ, List.getElem_cons_zero]
      go_simp
      try go_wp2_with fail
      refine hK.out _ _ ?_ (fun hHeld => ?_)
      · exact HQ4.out _ HBZ.out
      clear hK K
      try simp only [List.getElem_toArray, List.getElem_cons_succ, List.getElem_cons_zero, Act.put, List.setIfInBounds_toArray, List.set_cons_zero, List.set_cons_succ]
      refine wpAnyH_done (by kernel_rfl) ?_ _
      clear hHeld hp1 hp2 hf1 hf2
      have HZ1 := Lib.hid ((HPT.out.2 W.heap.size (by omega)).trans HE1.out)
      have HZ2 := Lib.hid HPT.out.1
      clear HPT
      generalize (w8.setCell ⟨W.heap.size + 1, 0, none⟩ (.int .i64 (LL.joinN xs p b4))).setCell ⟨W.heap.size + 1, 1, none⟩ (.int .u64 (bits .or .u64 m b5)) = w9 at HBZ HZ1 HZ2 ⊢
      go_wp2_with fail
      go_roundw
      case rel => exact ⟨q + 1, _, _, by omega, by go_num, HBZ.out, HZ1.out, HZ2.out, Lib.hid HNX.out⟩
      case measure => simp [intOf]; omega
    · have HVA := Lib.hid (show (p, m) = val (labs xs hr HX.out) (sysL c to) (natL l) i by rw [HP.out, SV.valT_all (by rw [HND.out, List.length_map]; omega)])
      have hqz : ¬ ((q : Int) < r.length) := by omega
      have hpz := one_lab HC1.out
      have hq1 := hpz.1
      have hq2 := hpz.2.1
      have hf1 := hpz.2.2.1
      have hf2 := hpz.2.2.2
      clear hpz
      have HPT := Lib.hid (put_lab HC1.out p m)
      have HBZ := Lib.hid (show Below W.heap.size W ((wr.setCell ⟨W.heap.size, 0, none⟩ (.int .i64 p)).setCell ⟨W.heap.size, 1, none⟩ (.int .u64 m)) from (HB.out.setCell (p := ⟨W.heap.size, 0, none⟩) (Nat.le_refl _) _).setCell (p := ⟨W.heap.size, 1, none⟩) (Nat.le_refl _) _)
      go_wp2_with fail
      refine bodyPost_ret (v := .agg #[.int .i64 p, .int .u64 m]) (results_cell_row rfl _ _ W.heap.size 43 #[.int .i64 p, .int .u64 m] (0, 0) _ rfl HPT.out.1 Tryd.underlying43 rfl (by kernel_rfl)) rfl ?_
      exact ⟨by rw [← HVA.out], HBZ.out⟩
end Go.Proofs.YtjadckmdkkeopaaDoor
