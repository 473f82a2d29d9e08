import Derived.Test.YtkfojieiemgliaaGraZ
import Derived.Test.YtkfojieiemgliaaGraD
set_option linter.unusedSimpArgs false
set_option linter.unusedVariables false
/-! GraphAhead: the walk -/
namespace Go.Proofs.Ytkfojieiemgliaa
open Go.RowKit
theorem reachedL_in3 {to : List (List Int)} {k : Nat} (h : GG.rightG to = true) (hk : k < to.length) : reachedL to k = flagsL to.length (GG.reachB to (-1) k) := by
  unfold reachedL
  rw [if_pos ⟨h, decide_eq_true (by omega)⟩, Int.toNat_natCast]
def IntsN (W : World) (g n : Nat) (F : Nat → Int) : Prop := W.rowIs g 3 n (fun i => .int .i64 (F i))
theorem IntsN.put {W : World} {g n : Nat} {F : Nat → Int} (h : IntsN W g n F) (i : Nat) (z : Int) : IntsN (W.setCell ⟨g, i, none⟩ (.int .i64 z)) g n (fun x => if x = i then z else F x) := by
  refine World.rowIs.congr (World.rowIs.set h i (.int .i64 z)) (fun j _ => ?_)
  by_cases e : j = i <;> simp [e]
theorem IntsN.congr {W : World} {g n : Nat} {F G : Nat → Int} (h : IntsN W g n F) (e : ∀ i, i < n → F i = G i) : IntsN W g n G := World.rowIs.congr h (fun i hi => by rw [e i hi])
theorem IntsN.far {W W' : World} {g n m : Nat} {F : Nat → Int} (h : IntsN W g n F) (hb : Below m W W') (hg : g < m) : IntsN W' g n F := World.rowIs.of_block h (hb.block g hg)
/-- what is known of a member of the order -/
theorem order_at {to : List (List Int)} (hr : GG.rightG to = true) {i : Nat} (hi : i < (GG.orderL to).length) : 0 ≤ (GG.orderL to)[i]?.getD 0 ∧ (GG.orderL to)[i]?.getD 0 < to.length ∧ GG.reachB to (-1) 0 ((GG.orderL to)[i]?.getD 0).toNat = true :=
  (GG.mem_order hr _).1 (GG.getD_mem hi)
theorem order_len {to : List (List Int)} (hr : GG.rightG to = true) : (GG.orderL to).length ≤ to.length ∧ 0 < (GG.orderL to).length := by
  have h1 := GG.beenN_all hr
  have h2 := GG.beenN_le to to.length
  obtain ⟨l, e⟩ := GG.order_head (to := to)
  have h3 : (GG.orderL to).length = l.length + 1 := by rw [e]; rfl
  omega

set_option maxRecDepth 100000 in
set_option maxHeartbeats 12800000 in
theorem graphAhead_in {to : List (List Int)} {va vo vc : Nat} (W : World) (HV : RowKit.Hid (GraphM W.heap.size W (.slice (some ⟨va, vo, none⟩) to.length vc) to)) (HX : RowKit.Hid (Small to)) (hl : to.length ≤ 64) (HR : RowKit.Hid (GG.rightG to = true)) :
    Calls Try.prog 8 #[.slice (some ⟨va, vo, none⟩) to.length vc] W fun e W' => e = .returned (.bool true) ∧ Below W.heap.size W W' := by
  have hlen := GG.right_len HR.out
  have HE := Lib.hid (show orderE to = GG.orderL to by unfold orderE; rw [if_pos HR.out])
  have HRL := Lib.hid (reachedL_in3 HR.out (show 0 < to.length by omega))
  have HOL := Lib.hid (order_len HR.out)
  have HAT := Lib.hid (fun i hi => order_at (i := i) HR.out hi)
  have HND := Lib.hid (GG.order_nodup HR.out)
  have HHD := Lib.hid (show (GG.orderL to)[0]?.getD 0 = 0 by obtain ⟨l, e⟩ := GG.order_head (to := to); rw [e]; rfl)
  have HCI := Lib.hid (fun i j hi hj hat => GG.order_circle (i := i) (j := j) HR.out hi hj hat)
  have HBN := Lib.hid (GG.beenN_all HR.out)
  have hmk := run_make_row' (P := Try.prog) 32 3 (.int .i64 0) 8 (by kernel_rfl) Try.infoGInt rfl .i64 .i64 to.length (by omega) (by omega)
  have HVB := HV.out.blk (by omega)
  generalize hL : GG.orderL to = L at HE HOL HAT HND HHD HCI HBN
  have HLE := Lib.hid hL
  clear hL
  have hL1 := HOL.out.1
  have hL2 := HOL.out.2
  go_enter Try.func8, Try.ntmps8
  go_wp2_with (go_at_call 14; refine (rightG_any _ to _ HV.out HX.out).mono ?_; rintro e w' ⟨rfl, hB⟩; have HB := Lib.hid hB; clear hB; rw [HR.out])
  refine (order_any (to := to) _ (HV.out.on HB.out HB.out.size) HX.out).mono ?_
  rintro e w2 ⟨lv, rfl, hl2, hb⟩
  rw [HE.out] at hl2
  obtain ⟨lb, lo, lc, hlv, hlb, _⟩ := hl2.at hL2
  subst hlv
  have HL2 := Lib.hid hl2
  have HB2 := Lib.hid (bstep HB.out hb)
  clear hl2 hb
  go_wp2_with fail
  refine (reached_any (to := to) 0 _ (HV.out.on HB2.out HB2.out.size) HX.out).mono ?_
  rintro e w3 ⟨bv, rfl, hbr, hb⟩
  rw [show reachedL to 0 = flagsL to.length (GG.reachB to (-1) 0) from HRL.out] at hbr
  obtain ⟨bb, bo, bc, hbv, hbb, _⟩ := hbr.at (by rw [flagsL_len]; omega)
  rw [flagsL_len] at hbv
  subst hbv
  have HBR3 := Lib.hid hbr
  have HL3 := Lib.hid (HL2.out.on hb hb.size)
  have HB3 := Lib.hid (bstep HB2.out hb)
  have HV3 := Lib.hid (HV.out.on HB3.out HB3.out.size)
  have HM := Lib.hid (show IntsN (w3.alloc (.cells (madeCells #[.int .i64 0] to.length) 3)) w3.heap.size to.length (fun _ => 0) from World.rowIs_made w3 (.int .i64 0) to.length 3)
  have HBA := Lib.hid ((Below.refl w3.heap.size w3).alloc (Nat.le_refl _) (.cells (madeCells #[.int .i64 0] to.length) 3))
  clear hbr hb hlb hbb
  go_wp2_with fail
  clear hmk
  go_loopw [6] (fun k wr => ∃ i : Nat, i ≤ to.length ∧ k = .int .i64 (i : Int) ∧ IntsN wr w3.heap.size to.length (fun x => if x < i then -1 else 0) ∧ Below w3.heap.size w3 wr) (fun k _ => to.length - (intOf k).toNat)
  case atStart => exact ⟨0, Nat.zero_le _, rfl, HM.out.congr fun x _ => by rw [if_neg (Nat.not_lt_zero _)], HBA.out⟩
  case round =>
    obtain ⟨i, hi, rfl, hI, hB⟩ := hrel
    clear HM HBA
    have HI := Lib.hid hI
    have HBr := Lib.hid hB
    clear hI hB
    by_cases hlt : i < to.length
    · have hci : wr.cell? ⟨w3.heap.size, i, none⟩ = some (.int .i64 0) := by
        have h := World.rowIs.cell HI.out hlt
        simpa using h
      have hfi := World.rowIs.frozen HI.out i
      have i1 : (0 : Int) ≤ i ∧ (i : Int) < to.length := by omega
      have HN := Lib.hid (show IntsN (wr.setCell ⟨w3.heap.size, i, none⟩ (.int .i64 (-1))) w3.heap.size to.length (fun x => if x < i + 1 then -1 else 0) from (HI.out.put i (-1)).congr fun x _ => by
        by_cases e : x = i
        · subst e; rw [if_pos rfl, if_pos (Nat.lt_succ_self _)]
        · rw [if_neg e]
          by_cases h : x < i
          · rw [if_pos h, if_pos (by omega)]
          · rw [if_neg h, if_neg (by omega)])
      go_wp2_with fail
      go_roundw
      case rel => exact ⟨i + 1, by omega, by go_num, HN.out, HBr.out.setCell (p := ⟨w3.heap.size, i, none⟩) (Nat.le_refl _) _⟩
      case measure => simp [intOf]; omega
    · have HI0 := Lib.hid (show IntsN wr w3.heap.size to.length (GG.atI L 0) from HI.out.congr fun x hx => by rw [if_pos (by omega), GG.atI_zero])
      clear HI
      go_wp2_with fail
      go_loopw [7] (fun k wr => ∃ i : Nat, i ≤ L.length ∧ k = .int .i64 (i : Int) ∧ IntsN wr w3.heap.size to.length (GG.atI L i) ∧ Below w3.heap.size w3 wr) (fun k _ => L.length - (intOf k).toNat)
      case atStart => exact ⟨0, Nat.zero_le _, rfl, HI0.out, HBr.out⟩
      case round =>
        obtain ⟨i, hi', rfl, hI, hB⟩ := hrel
        clear HI0 HBr
        have HI := Lib.hid hI
        have HBr := Lib.hid hB
        clear hI hB
        by_cases hlt2 : i < L.length
        · obtain ⟨lb', lo', e1, hc1⟩ := (HL3.out.below HBr.out).cellAt hlt2
          cases e1
          have i1 : (0 : Int) ≤ i ∧ (i : Int) < L.length := by omega
          have HA := Lib.hid (HAT.out i hlt2)
          have HF := Lib.hid (GG.atI_fresh HND.out hlt2 (HAT.out i hlt2).1)
          have HS := Lib.hid (GG.atI_succ HND.out hlt2 (HAT.out i hlt2).1)
          obtain ⟨x, ex⟩ : ∃ x, x = L[i]?.getD 0 := ⟨_, rfl⟩
          rw [← ex] at hc1 HA HF HS
          clear ex
          obtain ⟨y, rfl⟩ : ∃ y : Nat, x = (y : Int) := ⟨x.toNat, by have := HA.out.1; omega⟩
          rw [Int.toNat_natCast] at HA HF HS
          have hyn : y < to.length := by have := HA.out.2.1; omega
          have i2 : (0 : Int) ≤ (y : Int) ∧ (y : Int) < to.length := by omega
          have hcy := World.rowIs.cell HI.out hyn
          have hfy := World.rowIs.frozen HI.out y
          rw [HF.out] at hcy
          obtain ⟨bb', bo', e2, hcb⟩ := (HBR3.out.below HBr.out).cellAt (show y < (flagsL to.length (GG.reachB to (-1) 0)).length by rw [flagsL_len]; exact hyn)
          cases e2
          rw [flagsL_at hyn, Option.getD_some, HA.out.2.2] at hcb
          have HN := Lib.hid (show IntsN (wr.setCell ⟨w3.heap.size, y, none⟩ (.int .i64 (i : Int))) w3.heap.size to.length (GG.atI L (i + 1)) from (HI.out.put y i).congr fun x _ => (HS.out x).symm)
          go_wp2_with fail
          go_roundw
          case rel => exact ⟨i + 1, by omega, by go_num, HN.out, HBr.out.setCell (p := ⟨w3.heap.size, y, none⟩) (Nat.le_refl _) _⟩
          case measure => simp [intOf]; omega
        · have HI4 := Lib.hid (show IntsN wr w3.heap.size to.length (GG.atI L L.length) by have h := HI.out; rwa [show i = L.length by omega] at h)
          obtain ⟨w4, rfl⟩ : ∃ w4 : World, w4 = wr := ⟨_, rfl⟩
          have HV4 := Lib.hid (HV3.out.on HBr.out HBr.out.size)
          have HL4 := Lib.hid (HL3.out.on HBr.out HBr.out.size)
          have HBR4 := Lib.hid (HBR3.out.on HBr.out HBr.out.size)
          have HB4 := Lib.hid (bstep HB3.out HBr.out)
          have hA4 := World.rowIs.lt HI4.out
          clear HI
          go_wp2_with fail
          go_loopw [8, 9, 10] (fun n c k wr => ∃ (i : Nat) (t : Bool), i ≤ to.length ∧ n = .int .i64 (GG.beenN to i : Int) ∧ c = .bool t ∧ k = .int .i64 (i : Int) ∧ Below w4.heap.size w4 wr) (fun _ _ k _ => to.length - (intOf k).toNat)
          case atStart => exact ⟨0, false, Nat.zero_le _, rfl, rfl, rfl, Below.refl _ _⟩
          case round =>
            obtain ⟨i, t, hi3, rfl, rfl, rfl, hB⟩ := hrel
            have HBr := Lib.hid hB
            clear hB
            have hbn := GG.beenN_le to i
            by_cases hlt3 : i < to.length
            · obtain ⟨ra, rac, hx1, hrx⟩ := HV4.out.at hlt3
              have HX1 := Lib.hid hx1
              obtain ⟨bb', bo', e2, hcb0⟩ := HBR4.out.cellAt (show i < (flagsL to.length (GG.reachB to (-1) 0)).length by rw [flagsL_len]; exact hlt3)
              cases e2
              rw [flagsL_at hlt3, Option.getD_some] at hcb0
              have i1 : (0 : Int) ≤ i ∧ (i : Int) < to.length := by omega
              have b1 : (to[i]?.getD []).length ≤ 17592186044416 := by have := GG.row_len (GG.right_at HR.out hlt3); omega
              have HRO := Lib.hid (GG.right_at HR.out hlt3)
              have HAJ := Lib.hid (fun k (hk : k < (to[i]?.getD []).length) => List.mem_of_getElem? (GG.adj_get hk))
              obtain ⟨r, er⟩ : ∃ r, r = to[i]?.getD [] := ⟨_, rfl⟩
              rw [← er] at HX1 hrx b1 HRO HAJ
              have HRX := Lib.hid hrx
              clear er hrx hx1
              have hvb4 : va < w4.heap.size := by have := HB4.out.size; omega
              have hbb4 : bb < w4.heap.size := World.block_lt_of_cell? w4 _ hcb0
              have HSC := Lib.hid (GG.beenN_succ to i)
              cases hrb : GG.reachB to (-1) 0 i
              · rw [hrb] at hcb0
                have HC1 := Lib.hid hcb0
                have HRB := Lib.hid hrb
                have HBS := Lib.hid (show GG.beenN to (i + 1) = GG.beenN to i by rw [HSC.out, if_neg (by rw [hrb]; simp)]; rfl)
                have hcb := (bcell HBr.out bb (bo + i) hbb4).trans HC1.out
                clear hcb0 hrb
                go_wp2_with fail
                obtain ⟨w7, rfl⟩ : ∃ w7 : World, w7 = wr := ⟨_, rfl⟩
                go_loopw [9, 11] (fun c k wr => ∃ (q : Nat) (t : Bool), q ≤ r.length ∧ c = .bool t ∧ k = .int .i64 (q : Int) ∧ Below w4.heap.size w4 wr) (fun _ k _ => r.length - (intOf k).toNat)
                case atStart => exact ⟨0, t, Nat.zero_le _, rfl, rfl, HBr.out⟩
                case round =>
                  obtain ⟨q, t2, hq, rfl, rfl, hB⟩ := hrel
                  have HBq := Lib.hid hB
                  clear hB hcb
                  have hxi := (bcell HBq.out va (vo + i) hvb4).trans HX1.out
                  have hbi := (bcell HBq.out bb (bo + i) hbb4).trans HC1.out
                  by_cases hqt : q < r.length
                  · obtain ⟨xb2, xo2, e3, hx2⟩ := (HRX.out.below HBq.out).cellAt hqt
                    cases e3
                    have i3 : (0 : Int) ≤ q ∧ (q : Int) < r.length := by omega
                    go_wp2_with fail
                    go_quiet (fail)
                    go_wp2_with fail
                    go_roundw
                    case rel => exact ⟨q + 1, t2, by omega, rfl, by go_num, below_dN HBq.out _⟩
                    case measure => simp [intOf]; omega
                  · go_wp2_with fail
                    go_roundw
                    case rel => exact ⟨i + 1, t2, by omega, int_eq (by have := HBS.out; omega), rfl, by go_num, HBq.out⟩
                    case measure => simp [intOf]; omega
              · rw [hrb] at hcb0
                have HC1 := Lib.hid hcb0
                have HRB := Lib.hid hrb
                have HBS := Lib.hid (show GG.beenN to (i + 1) = GG.beenN to i + 1 by rw [HSC.out, if_pos hrb])
                have hcb := (bcell HBr.out bb (bo + i) hbb4).trans HC1.out
                clear hcb0 hrb
                go_wp2_with fail
                obtain ⟨w7, rfl⟩ : ∃ w7 : World, w7 = wr := ⟨_, rfl⟩
                go_loopw [9, 11] (fun c k wr => ∃ (q : Nat) (t : Bool), q ≤ r.length ∧ c = .bool t ∧ k = .int .i64 (q : Int) ∧ Below w4.heap.size w4 wr) (fun _ k _ => r.length - (intOf k).toNat)
                case atStart => exact ⟨0, t, Nat.zero_le _, rfl, rfl, HBr.out⟩
                case round =>
                  obtain ⟨q, t2, hq, rfl, rfl, hB⟩ := hrel
                  have HBq := Lib.hid hB
                  clear hB hcb
                  have hxi := (bcell HBq.out va (vo + i) hvb4).trans HX1.out
                  have hbi := (bcell HBq.out bb (bo + i) hbb4).trans HC1.out
                  by_cases hqt : q < r.length
                  · obtain ⟨xb2, xo2, e3, hx2⟩ := (HRX.out.below HBq.out).cellAt hqt
                    cases e3
                    have i3 : (0 : Int) ≤ q ∧ (q : Int) < r.length := by omega
                    have HX2 := Lib.hid (GG.row_in HRO.out _ (GG.getD_mem (d := 0) hqt))
                    have HADJ := Lib.hid (HAJ.out q hqt)
                    obtain ⟨x, ex⟩ : ∃ x, x = r[q]?.getD 0 := ⟨_, rfl⟩
                    rw [← ex] at hx2 HX2 HADJ
                    clear ex
                    obtain ⟨y, rfl⟩ : ∃ y : Nat, x = (y : Int) := ⟨x.toNat, by have := HX2.out; omega⟩
                    rw [Int.toNat_natCast] at HADJ
                    have hyn : y < to.length := by have := HX2.out; omega
                    have i4 : (0 : Int) ≤ (y : Int) ∧ (y : Int) < to.length := by omega
                    have HIq := Lib.hid (HI4.out.far HBq.out hA4)
                    have hay := World.rowIs.cell HIq.out hyn
                    have hai := World.rowIs.cell HIq.out hlt3
                    have HCC := Lib.hid (HCI.out i y HRB.out HADJ.out)
                    obtain ⟨ay, eay⟩ : ∃ ay, ay = GG.atI L L.length y := ⟨_, rfl⟩
                    obtain ⟨ai, eai⟩ : ∃ ai, ai = GG.atI L L.length i := ⟨_, rfl⟩
                    rw [← eay] at hay HCC
                    rw [← eai] at hai HCC
                    clear eay eai
                    by_cases hle : ay ≤ ai
                    · have HRT := Lib.hid (HCC.out hle)
                      have HRL2 := Lib.hid (reachedL_in3 HR.out hyn)
                      have hd1 : decide (ay ≤ ai) = true := decide_eq_true hle
                      go_wp2_with fail
                      go_quiet (fail)
                      go_wp2_with fail
                      obtain ⟨w5, ew5⟩ : ∃ w5 : World, w5 = wr.drewN nq := ⟨_, rfl⟩
                      have HB5 := Lib.hid (show Below w4.heap.size w4 w5 by rw [ew5]; exact below_dN HBq.out _)
                      rw [← ew5]
                      clear ew5
                      have hx5 := (bcell HB5.out va (vo + i) hvb4).trans HX1.out
                      refine (reached_any (to := to) (y : Int) _ (HV4.out.on HB5.out HB5.out.size) HX.out).mono ?_
                      rintro e w6 ⟨rv, rfl, hrv, hb⟩
                      rw [HRL2.out] at hrv
                      obtain ⟨rb, ro, rc, hrf, _, hrc⟩ := hrv.at (by rw [flagsL_len]; omega)
                      rw [flagsL_len] at hrf
                      subst hrf
                      have hci := hrc i (by rw [flagsL_len]; exact hlt3)
                      rw [flagsL_at hlt3, Option.getD_some, HRT.out] at hci
                      have HB6 := Lib.hid (HB5.out.trans (hb.mono HB5.out.size))
                      have hn9 : ((to.length : Int) != (to.length : Int)) = false := bne_self_eq_false _
                      clear hrv hb hrc
                      go_wp2_with fail
                      go_roundw
                      case rel => exact ⟨q + 1, true, by omega, rfl, by go_num, HB6.out⟩
                      case measure => simp [intOf]; omega
                    · have hd1 : decide (ay ≤ ai) = false := decide_eq_false hle
                      go_wp2_with fail
                      go_quiet (fail)
                      go_wp2_with fail
                      go_roundw
                      case rel => exact ⟨q + 1, t2, by omega, rfl, by go_num, below_dN HBq.out _⟩
                      case measure => simp [intOf]; omega
                  · go_wp2_with fail
                    go_roundw
                    case rel => exact ⟨i + 1, t2, by omega, int_eq (by have := HBS.out; omega), rfl, by go_num, HBq.out⟩
                    case measure => simp [intOf]; omega
            · have hie : i = to.length := by omega
              have hbe : GG.beenN to i = L.length := by rw [hie]; exact HBN.out
              obtain ⟨lb', lo', e1, hc0⟩ := (HL4.out.below HBr.out).cellAt hL2
              cases e1
              rw [HHD.out, Nat.add_zero] at hc0
              have hn1 : ((L.length : Int) == (L.length : Int)) = true := beq_self_eq_true _
              have hn2 : decide ((0 : Int) < (L.length : Int)) = true := decide_eq_true (by omega)
              have hn3 : decide (0 < L.length) = true := decide_eq_true hL2
              have hn4 : decide ((L.length : Int) ≤ (to.length : Int)) = true := decide_eq_true (by omega)
              have hn5 : decide (L.length ≤ to.length) = true := decide_eq_true hL1
              rw [hbe]
              clear hbe hie hbn
              cases t
              all_goals
                go_wp2_with fail
                refine (awakeG_any _).mono ?_
                rintro e w9 ⟨rfl, hb⟩
                have HB9 := Lib.hid (bstep HB4.out (HBr.out.trans (hb.mono HBr.out.size)))
                clear hb
                go_wp2_with fail
                go_ret
                exact ⟨rfl, HB9.out⟩

set_option maxRecDepth 100000 in
set_option maxHeartbeats 3200000 in
theorem graphAhead_walk {v : Value} {to : List (List Int)} (W : World) (hv : GraphM W.heap.size W v to) (hx : Small to) :
    Calls Try.prog 8 #[v] W fun e W' => e = .returned (.bool true) ∧ Below W.heap.size W W' := by
  by_cases hl : to.length ≤ 64
  · cases hr : GG.rightG to
    · have HV := Lib.hid hv
      have HX := Lib.hid hx
      have HR := Lib.hid hr
      obtain ⟨va, vc, rfl⟩ := hv.form
      clear hv hx hr
      go_enter Try.func8, Try.ntmps8
      go_wp2_with (go_at_call 14; refine (rightG_any _ to _ HV.out HX.out).mono ?_; rintro e w' ⟨rfl, hB⟩; have HB := Lib.hid hB; clear hB; rw [HR.out])
      refine (awakeG_any _).mono ?_
      rintro e w2 ⟨rfl, hb⟩
      have HB2 := Lib.hid (bstep HB.out hb)
      clear hb
      go_wp2_with fail
      go_ret
      exact ⟨rfl, HB2.out⟩
    · have hlen := GG.right_len hr
      obtain ⟨va, vo, vc, rfl⟩ := hv.addr (by omega)
      exact graphAhead_in W (Lib.hid hv) (Lib.hid hx) hl (Lib.hid hr)
  · have hx0 := hx.1
    obtain ⟨va, vc, rfl⟩ := hv.form
    clear hv hx
    go_enter Try.func8, Try.ntmps8
    go_wp2_with fail
    refine (awakeG_any _).mono ?_
    rintro e w2 ⟨rfl, hb⟩
    have HB2 := Lib.hid hb
    clear hb
    go_wp2_with fail
    go_ret
    exact ⟨rfl, HB2.out⟩
end Go.Proofs.Ytkfojieiemgliaa
