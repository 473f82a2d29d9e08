import Derived.Test.YtbelhoeailjkkaaCalS
set_option linter.unusedSimpArgs false
set_option linter.unusedVariables false
/-! calls: the reference's Circle, long, Entries -/
namespace Go.Proofs.Ytbelhoeailjkkaa
open Go.RowKit CC
def rcB (to : List (List Int)) (a : Nat) : Bool := (GG.adjOf to a).any fun j => leadL to j a
theorem rcB_iff {to : List (List Int)} {a : Nat} : rcB to a = true ↔ CC.circP (GG.adjOf to) (leadL to) a := by
  unfold rcB CC.circP
  rw [List.any_eq_true]
theorem rcB_yes {to : List (List Int)} {a k j : Nat} (hk : k < (to[a]?.getD []).length) (hj : (to[a]?.getD [])[k]?.getD 0 = (j : Int)) (h : leadL to j a = true) : rcB to a = true := by
  unfold rcB
  rw [List.any_eq_true]
  refine ⟨j, ?_, h⟩
  unfold GG.adjOf
  rw [List.mem_map]
  exact ⟨(j : Int), by rw [← hj]; exact GG.getD_mem hk, by simp⟩
theorem rcB_no {to : List (List Int)} {a : Nat} (h : ∀ k, k < (to[a]?.getD []).length → leadL to ((to[a]?.getD [])[k]?.getD 0).toNat a = false) : rcB to a = false := by
  unfold rcB
  rw [List.any_eq_false]
  intro j hj
  unfold GG.adjOf at hj
  obtain ⟨x, hx, rfl⟩ := List.mem_map.1 hj
  obtain ⟨k, hk, e⟩ := List.mem_iff_getElem.1 hx
  have := h k hk
  rw [List.getElem?_eq_getElem hk, Option.getD_some, e] at this
  rw [this]
  decide

set_option maxRecDepth 100000 in
set_option maxHeartbeats 3200000 in
theorem rcircle_any {n₀ : Nat} {v bv : Value} {to : List (List Int)} (a : Nat) (W : World) (hv : GraphM n₀ W v to) (hb : BTab n₀ W bv to.length to.length (leadL to)) (hr : GG.rightG to = true) (ha : a < to.length) :
    Calls Try.prog 31 #[v, bv, .int .i64 a] W fun e W' => e = .returned (.bool (rcB to a)) ∧ W' = W := by
  have hlen := GG.right_len hr
  obtain ⟨vb, vf, vc, e1⟩ := hv.addr (by omega)
  subst e1
  obtain ⟨bb, bf, bc, _, _, _, e2, _⟩ := hb.at ha ha
  subst e2
  obtain ⟨ra, rac, hx1, hrx⟩ := hv.at ha
  have hrl := GG.row_len (GG.right_at hr ha)
  have HRI := Lib.hid (fun y hy => GG.row_in (GG.right_at hr ha) y hy)
  have HB := Lib.hid hb
  have HRX := Lib.hid hrx
  have HYES := Lib.hid (fun (k j : Nat) hk hj h => rcB_yes (to := to) (a := a) (k := k) (j := j) hk hj h)
  have HNO := Lib.hid (rcB_no (to := to) (a := a))
  obtain ⟨r, er⟩ : ∃ r, r = to[a]?.getD [] := ⟨_, rfl⟩
  rw [← er] at hx1 hrl HRX HRI HYES HNO
  have i1 : (0 : Int) ≤ a ∧ (a : Int) < to.length := by omega
  clear hv hb hr hrx er
  go_enter Try.func31, Try.ntmps31
  go_wp2_with fail
  go_loopw [7] (fun k wr => ∃ q : Nat, q ≤ r.length ∧ k = .int .i64 (q : Int) ∧ W = wr ∧ RowKit.Hid (∀ j, j < q → leadL to (r[j]?.getD 0).toNat a = false)) (fun k _ => r.length - (intOf k).toNat)
  case atStart => exact ⟨0, by omega, rfl, rfl, Lib.hid (fun j hj => absurd hj (Nat.not_lt_zero _))⟩
  case round =>
    obtain ⟨q, hq, rfl, rfl, HI⟩ := hrel
    by_cases hqr : q < r.length
    · obtain ⟨rb, rf, e1, hrc⟩ := HRX.out.cellAt hqr
      cases e1
      have hin := HRI.out _ (GG.getD_mem (d := 0) hqr)
      obtain ⟨x, ex⟩ : ∃ x, x = r[q]?.getD 0 := ⟨_, rfl⟩
      rw [← ex] at hrc hin
      obtain ⟨j, rfl⟩ : ∃ j : Nat, x = (j : Int) := ⟨x.toNat, by omega⟩
      have hjn : j < to.length := by omega
      obtain ⟨tb, tf, tc, rb2, rf2, rc2, e3, hr2, hc2⟩ := HB.out.at hjn ha
      cases e3
      have i2 : (0 : Int) ≤ q ∧ (q : Int) < r.length := by omega
      have i3 : (0 : Int) ≤ j ∧ (j : Int) < to.length := by omega
      have HQ := Lib.hid hqr
      obtain ⟨z, hz⟩ : ∃ z, z = leadL to j a := ⟨_, rfl⟩
      rw [← hz] at hc2
      cases z
      · have HN := Lib.hid (show ∀ j', j' < q + 1 → leadL to (r[j']?.getD 0).toNat a = false from fun j' hj' => by
          by_cases e : j' = q
          · rw [e, ← ex, Int.toNat_natCast]; exact hz.symm
          · exact HI.out j' (by omega))
        clear hz ex
        go_wp2_with fail
        go_roundw
        case rel => exact ⟨q + 1, by have := HQ.out; omega, by go_num, by first | rfl | trivial, HN⟩
        case measure => have := HQ.out; simp [intOf]; omega
      · have HE := Lib.hid (HYES.out q j hqr ex.symm hz.symm)
        clear hz ex
        go_wp2_with fail
        go_ret
        exact ⟨by rw [HE.out]; rfl, rfl⟩
    · have HE := Lib.hid (HNO.out (fun k hk => HI.out k (by omega)))
      go_wp2_with fail
      go_ret
      exact ⟨by rw [HE.out]; rfl, rfl⟩

theorem lnC_set {W : World} {g n : Nat} {ns : List Int} (h : IntsC W g n (CC.ln ns)) {i : Nat} (hi : i < ns.length) (c : Int) : IntsC (W.setCell ⟨g, i, none⟩ (.int .i64 c)) g n (CC.ln (ns.set i c)) :=
  h.set i c (fun j => CC.ln_set hi j)
/-- what is known in a round, as far as row i, place k -/
structure LongS (W wr : World) (n : Nat) (adj : Nat → List Nat) (L : Nat → Nat → Bool) (main at_ : Nat) (e : Nat → Int) (r i : Nat) (ns : List Int) : Prop where
  ints : IntsC wr W.heap.size n (CC.ln ns)
  long : CC.LongI n L main at_ e r ns
  round : CC.RoundI n adj L at_ e r ns i
  below : Below W.heap.size W wr
theorem LongS.drew {W wr : World} {n : Nat} {adj : Nat → List Nat} {L : Nat → Nat → Bool} {main at_ : Nat} {e : Nat → Int} {r i : Nat} {ns : List Int} (h : LongS W wr n adj L main at_ e r i ns) (d : Nat) : LongS W (wr.drewN d) n adj L main at_ e r i ns :=
  ⟨h.ints.of rfl, h.long, h.round, h.below.trans ⟨rfl, rfl, rfl, Nat.le_refl _, fun _ _ => rfl⟩⟩

set_option maxRecDepth 100000 in
set_option maxHeartbeats 12800000 in
theorem rlong_any {n₀ : Nat} {v bv : Value} {to : List (List Int)} {main at_ : Nat} {e : Nat → Int} (W : World) (hv : GraphM n₀ W v to) (hb : BTab n₀ W bv to.length to.length (leadL to)) (hn₀ : n₀ ≤ W.heap.size) (hr : GG.rightG to = true) (hH : CC.LongH to.length (GG.adjOf to) (leadL to) main at_ e) :
    Calls Try.prog 32 #[v, bv, .int .i64 main, .int .i64 at_] W fun e' W' => e' = .returned (.int .i64 (e at_)) ∧ Below W.heap.size W W' := by
  have hlen := GG.right_len hr
  have hm := hH.hm
  have ha := hH.hat
  obtain ⟨vb, vf, vc, e1⟩ := hv.addr (by omega)
  subst e1
  obtain ⟨bb, bf, bc, _, _, _, e2, _⟩ := hb.at hm hm
  subst e2
  have HV := Lib.hid hv
  have HB := Lib.hid hb
  have HR := Lib.hid hr
  have HH := Lib.hid hH
  have hmk := run_make_row' (P := Try.prog) 28 3 (.int .i64 0) 8 (by kernel_rfl) Try.infoGInt rfl .i64 .i64 to.length (by omega) (by omega)
  have HI1 := Lib.hid (show IntsC (W.alloc (.cells (madeCells #[.int .i64 0] to.length) 3)) W.heap.size to.length (CC.ln (List.replicate to.length 0)) from World.rowIs.congr (World.rowIs_made W (.int .i64 0) to.length 3) (fun j hj => by unfold CC.ln; simp [hj]))
  have hc1 := World.rowIs.cell HI1.out hm
  have hf1 := World.rowIs.frozen HI1.out main
  have hz1 : CC.ln (List.replicate to.length (0 : Int)) main = 0 := by unfold CC.ln; simp [hm]
  rw [hz1] at hc1
  have i1 : (0 : Int) ≤ main ∧ (main : Int) < to.length := by omega
  have i0 : (0 : Int) ≤ at_ ∧ (at_ : Int) < to.length := by omega
  obtain ⟨W2, eW2⟩ : ∃ W2, W2 = W.alloc (.cells ((madeCells #[.int .i64 0] to.length).setIfInBounds main (.int .i64 1)) 3) := ⟨_, rfl⟩
  have HS2 := Lib.hid (show LongS W W2 to.length (GG.adjOf to) (leadL to) main at_ e 0 0 ((List.replicate to.length 0).set main 1) from ⟨by
      have h := lnC_set HI1.out (i := main) (by simpa using hm) 1
      rw [World.setCell_alloc_at _ _ _ _ _ rfl] at h
      rw [eW2]; exact h, CC.long_start hH, fun p hp => absurd hp (Nat.not_lt_zero _), by rw [eW2]; exact (Below.refl _ _).alloc (Nat.le_refl _) _⟩)
  have EW2 := Lib.hid eW2
  clear eW2 hv hb hr hH hz1
  go_enter Try.func32, Try.ntmps32
  go_wp2_with fail
  rw [← EW2.out]
  clear hmk hc1 hf1
  go_loopw [10] (fun k wr => ∃ r : Nat, r ≤ to.length ∧ k = .int .i64 (r : Int) ∧ RowKit.Hid (∃ ns, LongS W wr to.length (GG.adjOf to) (leadL to) main at_ e r 0 ns)) (fun k _ => to.length - (intOf k).toNat)
  case atStart => exact ⟨0, by omega, rfl, Lib.hid ⟨_, HS2.out⟩⟩
  case round =>
    obtain ⟨w3, rfl⟩ : ∃ w3, w3 = wr := ⟨_, rfl⟩
    obtain ⟨r, hr, rfl, HQ⟩ := hrel
    by_cases hrn : r < to.length
    · have HRN := Lib.hid hrn
      go_wp2_with fail
      go_loopw [11] (fun k wr => ∃ i : Nat, i ≤ to.length ∧ k = .int .i64 (i : Int) ∧ RowKit.Hid (∃ ns, LongS W wr to.length (GG.adjOf to) (leadL to) main at_ e r i ns)) (fun k _ => to.length - (intOf k).toNat)
      case atStart => exact ⟨0, by omega, rfl, HQ⟩
      case round =>
        obtain ⟨w4, rfl⟩ : ∃ w4, w4 = wr := ⟨_, rfl⟩
        obtain ⟨i, hi, rfl, HQ4⟩ := hrel
        clear HQ
        by_cases hin : i < to.length
        · have HIN := Lib.hid hin
          have hrl := GG.row_len (GG.right_at HR.out hin)
          have HRI := Lib.hid (fun y hy => GG.row_in (GG.right_at HR.out hin) y hy)
          have HAL := Lib.hid (GG.adj_len to i)
          have HAG := Lib.hid (fun (k : Nat) (hk : k < (to[i]?.getD []).length) => GG.adj_get hk)
          have HGA := Lib.hid (fun (V : World) (hV : GraphM n₀ V (.slice (some ⟨vb, vf, none⟩) to.length vc) to) => hV.at hin)
          obtain ⟨row, er⟩ : ∃ row, row = to[i]?.getD [] := ⟨_, rfl⟩
          rw [← er] at hrl HRI HAL HAG HGA
          clear er
          have HQ5 := Lib.hid (show ∃ ns, LongS W w4 to.length (GG.adjOf to) (leadL to) main at_ e r i ns ∧ CC.RowI (GG.adjOf to) (leadL to) at_ e r ns i 0 by
            obtain ⟨ns, h⟩ := HQ4.out
            exact ⟨ns, h, CC.row_start _ _ _ _ _ _ _⟩)
          clear HQ4
          have i2 : (0 : Int) ≤ i ∧ (i : Int) < to.length := by omega
          go_wp2_with fail
          go_loopw [12] (fun k wr => ∃ q : Nat, q ≤ row.length ∧ k = .int .i64 (q : Int) ∧ RowKit.Hid (∃ ns, LongS W wr to.length (GG.adjOf to) (leadL to) main at_ e r i ns ∧ CC.RowI (GG.adjOf to) (leadL to) at_ e r ns i q)) (fun k _ => row.length - (intOf k).toNat)
          case atStart => exact ⟨0, by omega, rfl, HQ5⟩
          case round =>
            obtain ⟨w5, rfl⟩ : ∃ w5, w5 = wr := ⟨_, rfl⟩
            obtain ⟨q, hq, rfl, HQ6⟩ := hrel
            clear HQ5
            obtain ⟨ns, hS, hRow⟩ := HQ6.out
            have HS := Lib.hid hS
            have HRow := Lib.hid hRow
            clear HQ6 hRow
            have HBL := Lib.hid (hS.below.mono hn₀)
            obtain ⟨ra, rac, hx1, hrx⟩ := HGA.out w5 (HV.out.below HBL.out)
            have hci := World.rowIs.cell hS.ints HIN.out
            have hbd := hS.long.bd i HIN.out
            have hle : ∀ x, x < to.length → 1 ≤ e x → e x ≤ to.length := fun x hx h1 => CC.ent_le HH.out.pre HH.out.ha HH.out.hm HH.out.hs x hx h1
            have hei := hle i HIN.out
            clear hS
            obtain ⟨z, hz⟩ : ∃ z, z = CC.ln ns i := ⟨_, rfl⟩
            have HZ := Lib.hid hz
            rw [← hz] at hci hbd
            have hzb : 0 ≤ z ∧ z ≤ 256 := by
              rcases hbd with h | ⟨_, h1, h2⟩
              · omega
              · have := hei (by omega); omega
            clear hz hbd hei
            by_cases hqr : q < row.length
            · have HQR := Lib.hid hqr
              have i4 : (0 : Int) ≤ q ∧ (q : Int) < row.length := by omega
              by_cases hz0 : z ≤ 0
              · have hg : decide ((0 : Int) < z) = false := decide_eq_false (by omega)
                have HN := Lib.hid (show ∃ ns, LongS W w5 to.length (GG.adjOf to) (leadL to) main at_ e r (i + 1) ns from ⟨ns, HS.out.ints, HS.out.long, CC.round_next HS.out.round (CC.row_zero HH.out HS.out.long (by rw [← HZ.out]; exact hz0) _), HS.out.below⟩)
                clear hrx hle
                go_wp2_with fail
                go_roundw
                case rel => exact ⟨i + 1, by have := HIN.out; omega, by go_num, HN⟩
                case measure => have := HIN.out; simp [intOf]; omega
              · have hg : decide ((0 : Int) < z) = true := decide_eq_true (by omega)
                obtain ⟨rb, rf, e1, hrc⟩ := Row.cellAt (show Row n₀ w5 (.slice ra row.length rac) row from hrx) hqr
                cases e1
                have hji := HRI.out _ (GG.getD_mem (d := 0) hqr)
                have hjm := HAG.out q hqr
                obtain ⟨x, ex⟩ : ∃ x, x = row[q]?.getD 0 := ⟨_, rfl⟩
                rw [← ex] at hrc hji hjm
                obtain ⟨j, rfl⟩ : ∃ j : Nat, x = (j : Int) := ⟨x.toNat, by omega⟩
                rw [Int.toNat_natCast] at hjm
                have hjn : j < to.length := by omega
                have HJM := Lib.hid (List.mem_of_getElem? hjm)
                have HJD := Lib.hid (show (GG.adjOf to i)[q]?.getD 0 = j by rw [hjm]; rfl)
                have HBT := Lib.hid (HB.out.below HBL.out)
                obtain ⟨tb, tf, tc, rb2, rf2, rc2, e3, hr2, hc2⟩ := HBT.out.at hjn ha
                cases e3
                have hcj := World.rowIs.cell HS.out.ints hjn
                have hfj := World.rowIs.frozen HS.out.ints j
                have hbj := HS.out.long.bd j hjn
                have hej := hle j hjn
                obtain ⟨y, hy⟩ : ∃ y, y = CC.ln ns j := ⟨_, rfl⟩
                have HY := Lib.hid hy
                rw [← hy] at hcj hbj
                have hyb : 0 ≤ y ∧ y ≤ 256 := by
                  rcases hbj with h | ⟨_, h1, h2⟩
                  · omega
                  · have := hej (by omega); omega
                have hw : IntKind.i64.wrap (z + 1) = z + 1 := by rw [IntKind.wrap_i64]; omega
                have hw2 : wrap64 (z + 1) = z + 1 := by unfold wrap64; omega
                have i5 : (0 : Int) ≤ j ∧ (j : Int) < to.length := by omega
                have HKL := Lib.hid (show q < (GG.adjOf to i).length by rw [HAL.out]; exact hqr)
                have HSD := Lib.hid (fun d => HS.out.drew d)
                obtain ⟨l, hl⟩ : ∃ l, l = leadL to j at_ := ⟨_, rfl⟩
                rw [← hl] at hc2
                have HL := Lib.hid hl
                clear hrx hle hjm hy hbj hej ex hl hjn
                cases l
                · have HN := Lib.hid (fun d => show ∃ ns, LongS W (w5.drewN d) to.length (GG.adjOf to) (leadL to) main at_ e r i ns ∧ CC.RowI (GG.adjOf to) (leadL to) at_ e r ns i (q + 1) from ⟨ns, HSD.out d, CC.row_next HH.out HS.out.long HKL.out HRow.out (fun h => by rw [HJD.out, ← HL.out] at h; cases h)⟩)
                  go_wp2_with fail
                  go_quiet (fail)
                  go_wp2_with fail
                  go_roundw
                  case rel => exact ⟨q + 1, by have := HQR.out; omega, by go_num, Lib.hid (HN.out _)⟩
                  case measure => have := HQR.out; simp [intOf]; omega
                · by_cases hyz : y < z + 1
                  · have hd : decide (y < z + 1) = true := decide_eq_true hyz
                    have HN := Lib.hid (fun (V : World) (hV : LongS W V to.length (GG.adjOf to) (leadL to) main at_ e r i ns) => show ∃ ns, LongS W (V.setCell ⟨W.heap.size, j, none⟩ (.int .i64 (z + 1))) to.length (GG.adjOf to) (leadL to) main at_ e r i ns ∧ CC.RowI (GG.adjOf to) (leadL to) at_ e r ns i (q + 1) by
                      obtain ⟨h1, h2, h3⟩ := CC.long_relax HH.out hV.long HJM.out (by rw [← HZ.out]; omega) HL.out.symm (by rw [← HZ.out, ← HY.out]; exact hyz)
                      rw [← HZ.out] at h1 h2 h3
                      refine ⟨ns.set j (z + 1), ⟨lnC_set hV.ints (by rw [hV.long.len]; omega) (z + 1), h1, hV.round.mono h2, hV.below.setCell (p := ⟨W.heap.size, j, none⟩) (Nat.le_refl _) _⟩, CC.row_next HH.out h1 HKL.out (HRow.out.mono h2) (fun _ => ?_)⟩
                      rw [HJD.out, h3]
                      have hni : CC.ln (ns.set j (z + 1)) i ≤ z := by
                        rw [CC.ln_set (by rw [hV.long.len]; omega)]
                        by_cases e4 : i = j
                        · exfalso
                          have h5 := HH.out.no i HIN.out (by
                            rcases hV.long.bd i HIN.out with h | h
                            · rw [← HZ.out] at h; omega
                            · exact h.1) (by rw [e4]; exact HL.out.symm)
                          exact h5 ⟨j, HJM.out, by rw [e4]; exact HH.out.pre.refl j (by omega)⟩
                        · rw [if_neg e4, HZ.out]; exact Int.le_refl _
                      omega)
                    have hcjD := fun d => show (w5.drewN d).cell? ⟨W.heap.size, j, none⟩ = some (.int .i64 y) from hcj
                    have hciD := fun d => show (w5.drewN d).cell? ⟨W.heap.size, i, none⟩ = some (.int .i64 z) from hci
                    have hfjD := fun d => show (w5.drewN d).frozen? ⟨W.heap.size, j, none⟩ = false from hfj
                    go_wp2_with fail
                    go_quiet (fail)
                    have hA := hcjD nq
                    have hB := hciD nq
                    have hC := hfjD nq
                    have HSQ := Lib.hid (HSD.out nq)
                    clear hcj hci hfj hcjD hciD hfjD hc2 hr2 hrc hx1
                    generalize w5.drewN nq = w6 at hA hB hC HSQ ⊢
                    go_wp2_with fail
                    go_roundw
                    case rel => exact ⟨q + 1, by have := HQR.out; omega, by go_num, Lib.hid (HN.out _ HSQ.out)⟩
                    case measure => have := HQR.out; simp [intOf]; omega
                  · have hd : decide (y < z + 1) = false := decide_eq_false hyz
                    have HN := Lib.hid (fun d => show ∃ ns, LongS W (w5.drewN d) to.length (GG.adjOf to) (leadL to) main at_ e r i ns ∧ CC.RowI (GG.adjOf to) (leadL to) at_ e r ns i (q + 1) from ⟨ns, HSD.out d, CC.row_next HH.out HS.out.long HKL.out HRow.out (fun h => by rw [HJD.out, ← HZ.out, ← HY.out]; omega)⟩)
                    go_wp2_with fail
                    go_quiet (fail)
                    go_wp2_with fail
                    go_roundw
                    case rel => exact ⟨q + 1, by have := HQR.out; omega, by go_num, Lib.hid (HN.out _)⟩
                    case measure => have := HQR.out; simp [intOf]; omega
            · have HN := Lib.hid (show ∃ ns, LongS W w5 to.length (GG.adjOf to) (leadL to) main at_ e r (i + 1) ns from ⟨ns, HS.out.ints, HS.out.long, CC.round_next HS.out.round (by have h := HRow.out; rwa [show q = (GG.adjOf to i).length by rw [HAL.out]; omega] at h), HS.out.below⟩)
              clear hrx hle
              go_wp2_with fail
              go_roundw
              case rel => exact ⟨i + 1, by have := HIN.out; omega, by go_num, HN⟩
              case measure => have := HIN.out; simp [intOf]; omega
        · have HN := Lib.hid (show ∃ ns, LongS W w4 to.length (GG.adjOf to) (leadL to) main at_ e (r + 1) 0 ns by
            obtain ⟨ns, h⟩ := HQ4.out
            exact ⟨ns, h.ints, CC.long_round HH.out h.long (by have h1 := h.round; rwa [show i = to.length by omega] at h1), fun p hp => absurd hp (Nat.not_lt_zero _), h.below⟩)
          clear HQ4
          go_wp2_with fail
          go_roundw
          case rel => exact ⟨r + 1, by have := HRN.out; omega, by go_num, HN⟩
          case measure => have := HRN.out; simp [intOf]; omega
    · have HE := Lib.hid (show w3.cell? ⟨W.heap.size, at_, none⟩ = some (.int .i64 (e at_)) ∧ Below W.heap.size W w3 by
        obtain ⟨ns, h⟩ := HQ.out
        refine ⟨?_, h.below⟩
        have h1 := World.rowIs.cell h.ints ha
        rw [CC.long_end HH.out (by have h2 := h.long; rwa [show r = to.length by omega] at h2)] at h1
        exact h1)
      have hce := HE.out.1
      obtain ⟨z, hz⟩ : ∃ z, z = e at_ := ⟨_, rfl⟩
      rw [← hz] at hce
      have HZ := Lib.hid hz
      clear HQ hz
      go_wp2_with fail
      go_ret
      exact ⟨by rw [← HZ.out]; rfl, HE.out.2⟩
end Go.Proofs.Ytbelhoeailjkkaa
