import Derived.Test.YtkfojieiemgliaaGraZ
import Derived.Test.YtkfojieiemgliaaGraD
set_option linter.unusedSimpArgs false
set_option linter.unusedVariables false
/-! GraphWays: the walk -/
namespace Go.Proofs.Ytkfojieiemgliaa
open Go.RowKit
/-- what is reached by the first k ways of a node, and the node itself -/
def wantB (to : List (List Int)) (f k x : Nat) : Bool := decide (x = f) || ((GG.adjOf to f).take k).any fun j => GG.reachB to (-1) j x
def wantI (to : List (List Int)) (f k i x : Nat) : Bool := if x < i then wantB to f (k + 1) x else wantB to f k x
theorem want_zero (to : List (List Int)) (f x : Nat) : GG.setB (fun _ => false) f x = wantB to f 0 x := by
  unfold GG.setB wantB
  by_cases h : x = f <;> simp [h]
theorem want_start (to : List (List Int)) (f k x : Nat) : wantB to f k x = wantI to f k 0 x := by unfold wantI; rw [if_neg (Nat.not_lt_zero _)]
theorem want_end {to : List (List Int)} {f k n : Nat} {x : Nat} (hx : x < n) : wantI to f k n x = wantB to f (k + 1) x := by unfold wantI; rw [if_pos hx]
theorem want_succ {to : List (List Int)} {f k j : Nat} (h : (GG.adjOf to f)[k]? = some j) (x : Nat) : wantB to f (k + 1) x = (wantB to f k x || GG.reachB to (-1) j x) := by
  obtain ⟨hk, e⟩ := List.getElem?_eq_some_iff.1 h
  unfold wantB
  rw [List.take_succ_eq_append_getElem hk, List.any_append, e]
  simp [Bool.or_assoc]
theorem want_step {to : List (List Int)} {f k j i : Nat} (h : (GG.adjOf to f)[k]? = some j) (x : Nat) : (if x = i then (wantB to f k i || GG.reachB to (-1) j i) else wantI to f k i x) = wantI to f k (i + 1) x := by
  unfold wantI
  by_cases e : x = i
  · subst e
    rw [if_pos rfl, if_pos (Nat.lt_succ_self _), want_succ h]
  · rw [if_neg e]
    by_cases h2 : x < i
    · rw [if_pos h2, if_pos (by omega)]
    · rw [if_neg h2, if_neg (by omega)]
theorem want_all {to : List (List Int)} (hr : GG.rightG to = true) {f : Nat} (hf : f < to.length) {k : Nat} (hk : (GG.adjOf to f).length ≤ k) (x : Nat) : wantB to f k x = GG.reachB to (-1) f x := by
  rw [GG.reach_ways hr hf]
  unfold wantB
  rw [List.take_of_length_le hk]
theorem FlagsN.put {W : World} {g n : Nat} {B : Nat → Bool} (h : FlagsN W g n B) (i : Nat) (b : Bool) : FlagsN (W.setCell ⟨g, i, none⟩ (.bool b)) g n (fun x => if x = i then b else B x) := by
  refine World.rowIs.congr (World.rowIs.set h i (.bool b)) (fun j _ => ?_)
  by_cases e : j = i <;> simp [e]
theorem FlagsN.congr {W : World} {g n : Nat} {B C : Nat → Bool} (h : FlagsN W g n B) (e : ∀ i, i < n → B i = C i) : FlagsN W g n C := World.rowIs.congr h (fun i hi => by rw [e i hi])
theorem FlagsN.far {W W' : World} {g n m : Nat} {B : Nat → Bool} (h : FlagsN W g n B) (hb : Below m W W') (hg : g < m) : FlagsN W' g n B := World.rowIs.of_block h (hb.block g hg)

theorem reachedL_in' {to : List (List Int)} {k : Nat} (h : GG.rightG to = true) (hk : k < to.length) : reachedL to k = flagsL to.length (GG.reachB to (-1) k) := by
  unfold reachedL
  rw [if_pos ⟨h, decide_eq_true (by omega)⟩, Int.toNat_natCast]
theorem BRow.store {n g i lb lo len cap : Nat} {W : World} {l : List Bool} {v : Value} (h : BRow n W (.slice (some ⟨lb, lo, none⟩) len cap) l) (hne : lb ≠ g) : BRow n (W.setCell ⟨g, i, none⟩ v) (.slice (some ⟨lb, lo, none⟩) len cap) l := by
  rcases h with h | ⟨b1, o1, c1, e1, hb1, hl1, hc1⟩
  · exact .inl h
  · have hbb : lb = b1 := by simp only [Value.slice.injEq, Option.some.injEq, Addr.mk.injEq] at e1; exact e1.1.1
    refine .inr ⟨b1, o1, c1, e1, hb1, hl1, fun j u hj => ?_⟩
    rw [World.cell?_of_block (blk_set_other _ _ _ _ (by simp; omega))]
    exact hc1 j u hj
/-- Reached, where there is the node: in memory of its own -/
def NewFar (B : Nat) (l : List Bool) (e : Ending) (W W' : World) : Prop := ∃ v, e = .returned v ∧ BRow W'.heap.size W' v l ∧ Below B W W' ∧ ∀ b, v.ownBlock = some b → B ≤ b
set_option maxRecDepth 100000 in
set_option maxHeartbeats 3200000 in
theorem reached_own {v : Value} {to : List (List Int)} (k : Nat) (W : World) (hv : GraphM W.heap.size W v to) (hx : Small to) (hr : GG.rightG to = true) (hk : k < to.length) :
    Calls Try.prog 13 #[v, .int .i64 k] W fun e W' => NewFar W.heap.size (flagsL to.length (GG.reachB to (-1) k)) e W W' := by
  have hx0 := hx.1
  have HV := Lib.hid hv
  have HX := Lib.hid hx
  obtain ⟨va, vc, rfl⟩ := hv.form
  clear hv hx
  have hi : GG.inB to.length (k : Int) = true := decide_eq_true (by omega)
  have hin : 0 ≤ (k : Int) ∧ (k : Int) < to.length := by omega
  have HR := Lib.hid hr
  have HI := Lib.hid hi
  have hlen := GG.right_len hr
  have HE := Lib.hid (show flagsL to.length (GG.reachB to (-1) k) = flagsL to.length (GG.runG (GG.adjOf to) [k]).1 by
    unfold flagsL
    exact List.map_congr_left fun x _ => by unfold GG.reachB; rw [GG.adjN_none _ _ (by decide)])
  have hz := fun (w : World) => run_zero46 w
  have HIN := Lib.hid hin
  have hs46 := slice46 to.length hlen.2
  obtain ⟨b0, hb0, hy0, hy1, hy2⟩ := info_parts Try.infoGBool
  clear hr hi hin
  go_enter Try.func13, Try.ntmps13
  go_wp2_with (first
    | (go_at_call 14; refine (rightG_any _ to _ HV.out HX.out).mono ?_; rintro e w' ⟨rfl, hB⟩; have HB := Lib.hid hB; clear hB; rw [HR.out])
    | (go_at_call 30; refine (node_any _ to.length _ _ ⟨_, _, rfl⟩ hx0).mono ?_; rintro e w' ⟨rfl, rfl⟩; rw [HI.out])
    | (go_at_call 31
       refine (walk_any (to := to) _ [(k : Int)] _ HR.out (HV.out.on (HB.out.alloc HB.out.size _) (by have := HB.out.size; simp; omega)) (row_lit _ _ _) (by simp) (by intro x hx; rw [List.mem_singleton.1 hx]; exact HIN.out)).mono ?_
       rintro e w' ⟨cs, bv, rfl, hn, hc, ho, hs, hB2⟩
       have HCN := Lib.hid hn
       have HCI := Lib.hid hc
       have HB2 := Lib.hid (bstep (HB.out.alloc HB.out.size _) hB2)
       have HF := Lib.hid (flags_of w' cs _ hn hc)
       have HONE := Lib.hid (one_of hn hc)
       clear hn hc ho hs hB2)
    | (refine wpList_store_row rfl 46 (.tmp 5) (.tmp 21) rfl _ cs rfl rfl 46 falses (heap_alloc_new _ _) (by rw [HCN.out]; kernel_rfl) (by rw [HCN.out]; simp [falses]) HONE.out ?_
       rw [setRow_new])
    | (at_builtin
       refine GG.wpList_append_any rfl _ _ 25 rfl W.heap.size 4 b0 (.bool false) 1 1 Try.underlying25 hb0 hy0 hy1 hy2 rfl (by decide) (.slice none 0 0) 0 [] rfl (World.ownsRow_nil _ _ _ _) _ to.length (boolsV (flagsL to.length (GG.runG (GG.adjOf to) [k]).1)) rfl (by rw [boolsV_len, flagsL_len, Nat.mul_one]) (.inr ⟨_, _, rfl, fun j u hj => by obtain ⟨hj1, rfl⟩ := flagsL_cells hj; rw [Addr.add_lit, Nat.zero_add]; exact HF.out.cell (by omega)⟩) (oneCell_bools _) (by unfold maxLen; omega) (by omega) (by have := HB2.out.size; simp; omega) ?_
       intro v1 w1 ho hg
       rw [Nat.zero_add, List.nil_append] at ho
       have HO := Lib.hid (cells_of_row ho)
       have HOL := Lib.hid (fun b e => (ho.lt b e).1)
       have HG := Lib.hid ((HB2.out.alloc HB2.out.size _).grown hg (by have := HB2.out.size; simp; omega) (fun j e => by simp [Value.ownBlock] at e))
       clear ho hg))
  go_ret
  exact ⟨_, rfl, by rw [HE.out]; exact HO.out, HG.out, HOL.out⟩

set_option maxRecDepth 100000 in
set_option maxHeartbeats 6400000 in
theorem graphWays_in {to : List (List Int)} {va vo vc : Nat} (f : Nat) (W : World) (HV : RowKit.Hid (GraphM W.heap.size W (.slice (some ⟨va, vo, none⟩) to.length vc) to)) (HX : RowKit.Hid (Small to)) (hl : to.length ≤ 40) (HR : RowKit.Hid (GG.rightG to = true)) (hf : f < to.length) :
    Calls Try.prog 9 #[.slice (some ⟨va, vo, none⟩) to.length vc, .int .i64 f] W fun e W' => e = .returned (.bool true) ∧ Below W.heap.size W W' := by
  have hvb := HV.out.blk (by omega)
  have i1 : (0 : Int) ≤ f ∧ (f : Int) < to.length := by omega
  have hmk := run_make_row' (P := Try.prog) 25 4 (.bool false) 1 (by kernel_rfl) Try.infoGBool rfl .i64 .i64 to.length (by omega) (by omega)
  have hdf : decide (to.length ≤ f) = false := decide_eq_false (by omega)
  go_enter Try.func9, Try.ntmps9
  go_wp2_with (go_at_call 14; refine (rightG_any _ to _ HV.out HX.out).mono ?_; rintro e w' ⟨rfl, hB⟩; have HB := Lib.hid hB; clear hB; rw [HR.out]; (have HM : FlagsN (w'.alloc (.cells (madeCells #[.bool false] to.length) 4)) w'.heap.size to.length (fun _ => false) := World.rowIs_made w' (.bool false) to.length 4); have hcf := World.rowIs.cell HM hf; have hff := World.rowIs.frozen HM f)
  have H0 := Lib.hid (show FlagsN (w'.alloc (.cells ((madeCells #[.bool false] to.length).setIfInBounds f (.bool true)) 4)) w'.heap.size to.length (wantB to f 0) by
    have h := HM.put f true
    rw [World.setCell_alloc_at _ _ _ _ _ rfl] at h
    exact h.congr fun x _ => by rw [← want_zero]; rfl)
  clear hmk HM hcf hff
  have hB0 : Below w'.heap.size w' (w'.alloc (.cells ((madeCells #[.bool false] to.length).setIfInBounds f (.bool true)) 4)) := (Below.refl _ _).alloc (Nat.le_refl _) _
  have HB0 := Lib.hid hB0
  clear hB0
  obtain ⟨W1, eW1⟩ : ∃ W1 : World, W1 = w' := ⟨_, rfl⟩
  rw [← eW1]
  rw [← eW1] at HB H0 HB0
  clear eW1
  have HV1 := Lib.hid (HV.out.on HB.out HB.out.size)
  have hvb1 : va < W1.heap.size := Nat.lt_of_lt_of_le hvb HB.out.size
  obtain ⟨ra, rac, hx1, hrx⟩ := HV1.out.at hf
  have b1 : (to[f]?.getD []).length ≤ 17592186044416 := by have := GG.row_len (GG.right_at HR.out hf); omega
  have HRO := Lib.hid (GG.right_at HR.out hf)
  have HG := Lib.hid (fun (k : Nat) (hk : k < (to[f]?.getD []).length) => GG.adj_get hk)
  have HAL := Lib.hid (GG.adj_len to f)
  obtain ⟨r, er⟩ : ∃ r, r = to[f]?.getD [] := ⟨_, rfl⟩
  rw [← er] at hx1 hrx b1 HRO HG HAL
  have HX1 := Lib.hid hx1
  have HRX := Lib.hid hrx
  clear er hrx hx1
  go_loopw [6] (fun k wr => ∃ q : Nat, q ≤ r.length ∧ k = .int .i64 (q : Int) ∧ FlagsN wr W1.heap.size to.length (wantB to f q) ∧ Below W1.heap.size W1 wr) (fun k _ => r.length - (intOf k).toNat)
  case atStart => exact ⟨0, Nat.zero_le _, rfl, H0.out, HB0.out⟩
  case round =>
    obtain ⟨q, hq, rfl, hF, hB⟩ := hrel
    obtain ⟨wo, rfl⟩ : ∃ wo : World, wo = wr := ⟨_, rfl⟩
    have HF := Lib.hid hF
    have HBr := Lib.hid hB
    have hx1 := (bcell HBr.out va (vo + f) hvb1).trans HX1.out
    clear H0 HB0 hF hB
    by_cases hqt : q < r.length
    · obtain ⟨xb2, xo2, e2, hx2⟩ := (HRX.out.below HBr.out).cellAt hqt
      subst e2
      have i3 : (0 : Int) ≤ q ∧ (q : Int) < r.length := by omega
      have HX2 := Lib.hid (GG.row_in HRO.out _ (GG.getD_mem (d := 0) hqt))
      have HST := Lib.hid (HG.out q hqt)
      obtain ⟨x, ex⟩ : ∃ x, x = r[q]?.getD 0 := ⟨_, rfl⟩
      rw [← ex] at hx2 HX2 HST
      clear ex
      obtain ⟨y, rfl⟩ : ∃ y : Nat, x = (y : Int) := ⟨x.toNat, by have := HX2.out; omega⟩
      have hyn : y < to.length := by have := HX2.out; omega
      rw [Int.toNat_natCast] at HST
      have HRL := Lib.hid (reachedL_in' HR.out hyn)
      go_wp2_with (go_at_call 13
                   refine (reached_own (to := to) y _ (HV1.out.on HBr.out HBr.out.size) HX.out HR.out hyn).mono ?_
                   rintro e w3 ⟨lv, rfl, hl3, hb, hfar⟩
                   obtain ⟨la, lc, hlv⟩ := hl3.form
                   rw [flagsL_len] at hlv
                   subst hlv
                   have HL3 := Lib.hid hl3
                   have HB3 := Lib.hid (HBr.out.trans (hb.mono HBr.out.size))
                   have HF3 := Lib.hid (HF.out.far hb (World.rowIs.lt HF.out))
                   have HFA := Lib.hid hfar
                   have HS3 := Lib.hid hb.size
                   have HLW := Lib.hid (World.rowIs.lt HF.out)
                   clear hl3 hb hfar)
      go_loopw [8] (fun k wr' => ∃ i : Nat, i ≤ to.length ∧ k = .int .i64 (i : Int) ∧ FlagsN wr' W1.heap.size to.length (wantI to f q i) ∧ Below W1.heap.size W1 wr' ∧ BRow w3.heap.size wr' (.slice la to.length lc) (flagsL to.length (GG.reachB to (-1) y)) ∧ w3.heap.size ≤ wr'.heap.size) (fun k _ => to.length - (intOf k).toNat)
      case atStart => exact ⟨0, Nat.zero_le _, rfl, HF3.out.congr fun x _ => want_start to f q x, HB3.out, HL3.out, Nat.le_refl _⟩
      case round =>
        obtain ⟨i, hi, rfl, hF4, hB4, hL4, hs4⟩ := hrel
        clear HF3 HB3 HL3
        have HF4 := Lib.hid hF4
        have HB4 := Lib.hid hB4
        have HL4 := Lib.hid hL4
        have hx4 := (bcell HB4.out va (vo + f) hvb1).trans HX1.out
        clear hF4 hB4 hL4
        by_cases hin : i < to.length
        · obtain ⟨lb, lo, e3, hcl⟩ := HL4.out.cellAt (show i < (flagsL to.length (GG.reachB to (-1) y)).length by rw [flagsL_len]; exact hin)
          subst e3
          rw [flagsL_at hin, Option.getD_some] at hcl
          have i4 : (0 : Int) ≤ i ∧ (i : Int) < to.length := by omega
          have hcw := World.rowIs.cell HF4.out hin
          have hfw := World.rowIs.frozen HF4.out i
          have hwi : wantI to f q i i = wantB to f q i := by unfold wantI; rw [if_neg (Nat.lt_irrefl _)]
          rw [hwi] at hcw
          have HNX := Lib.hid (fun x => want_step (to := to) (f := f) (k := q) (i := i) HST.out x)
          have HNE := Lib.hid (show lb ≠ W1.heap.size by
            have := HFA.out lb rfl
            have := HLW.out
            omega)
          have HLK := Lib.hid (fun (b : Bool) => HL4.out.store (g := W1.heap.size) (i := i) (v := .bool b) HNE.out)
          have hs5 : ∀ b : Bool, w3.heap.size ≤ (wr.setCell ⟨W1.heap.size, i, none⟩ (.bool b)).heap.size := fun b => by simpa using hs4
          have HS5 := Lib.hid hs5
          clear hs5 hwi
          cases hb1 : wantB to f q i
          · cases hb2 : GG.reachB to (-1) y i
            · rw [hb1] at hcw
              rw [hb2] at hcl
              have HNF := Lib.hid (show FlagsN (wr.setCell ⟨W1.heap.size, i, none⟩ (.bool false)) W1.heap.size to.length (wantI to f q (i + 1)) from (HF4.out.put i false).congr fun x _ => by rw [← HNX.out x, hb1, hb2]; rfl)
              clear hb1 hb2
              go_wp2_with fail
              go_roundw
              case rel => exact ⟨i + 1, by omega, by go_num, HNF.out, HB4.out.setCell (p := ⟨W1.heap.size, i, none⟩) (Nat.le_refl _) _, HLK.out false, HS5.out false⟩
              case measure => simp [intOf]; omega
            · rw [hb1] at hcw
              rw [hb2] at hcl
              have HNF := Lib.hid (show FlagsN (wr.setCell ⟨W1.heap.size, i, none⟩ (.bool true)) W1.heap.size to.length (wantI to f q (i + 1)) from (HF4.out.put i true).congr fun x _ => by rw [← HNX.out x, hb1, hb2]; rfl)
              clear hb1 hb2
              go_wp2_with fail
              go_roundw
              case rel => exact ⟨i + 1, by omega, by go_num, HNF.out, HB4.out.setCell (p := ⟨W1.heap.size, i, none⟩) (Nat.le_refl _) _, HLK.out true, HS5.out true⟩
              case measure => simp [intOf]; omega
          · rw [hb1] at hcw
            have HNF := Lib.hid (show FlagsN (wr.setCell ⟨W1.heap.size, i, none⟩ (.bool true)) W1.heap.size to.length (wantI to f q (i + 1)) from (HF4.out.put i true).congr fun x _ => by rw [← HNX.out x, hb1]; rfl)
            clear hb1
            go_wp2_with fail
            go_roundw
            case rel => exact ⟨i + 1, by omega, by go_num, HNF.out, HB4.out.setCell (p := ⟨W1.heap.size, i, none⟩) (Nat.le_refl _) _, HLK.out true, HS5.out true⟩
            case measure => simp [intOf]; omega
        · have HNF := Lib.hid (show FlagsN wr W1.heap.size to.length (wantB to f (q + 1)) from HF4.out.congr fun x hx => by rw [show i = to.length by omega]; exact want_end hx)
          clear hs4
          go_wp2_with fail
          go_roundw
          case rel => exact ⟨q + 1, by omega, by go_num, HNF.out, HB4.out⟩
          case measure => simp [intOf]; omega
    · have HWT := Lib.hid (show BRow wo.heap.size wo (.slice (some ⟨W1.heap.size, 0, none⟩) to.length to.length) (flagsL to.length (GG.reachB to (-1) f)) by
        have h := HF.out.congr (C := GG.reachB to (-1) f) fun x _ => want_all HR.out hf (by have := HAL.out; omega) x
        exact h.row)
      have HRF := Lib.hid (reachedL_in' HR.out hf)
      have HBB := Lib.hid (bstep HB.out HBr.out)
      go_wp2_with fail
      refine (reached_any (to := to) (f : Int) _ (HV1.out.on HBr.out HBr.out.size) HX.out).mono ?_
      rintro e w5 ⟨lv, rfl, hl5, hb⟩
      rw [HRF.out] at hl5
      have HL5 := Lib.hid hl5
      have HW5 := Lib.hid (HWT.out.on hb hb.size)
      have HB5 := Lib.hid (bstep HBB.out hb)
      clear hl5 hb
      go_wp2_with fail
      refine (bools_any _ _ (flagsL to.length (GG.reachB to (-1) f)) (flagsL to.length (GG.reachB to (-1) f)) _ _ HL5.out HW5.out (by rw [flagsL_len]; omega) (by rw [flagsL_len]; omega)).mono ?_
      rintro e w6 ⟨rfl, d, rfl⟩
      rw [decide_eq_true (rfl : flagsL to.length (GG.reachB to (-1) f) = flagsL to.length (GG.reachB to (-1) f))]
      go_wp2_with fail
      refine (awakeG_any _).mono ?_
      rintro e w7 ⟨rfl, hb⟩
      have HB7 := Lib.hid (bstep (below_dN HB5.out d) hb)
      clear hb
      go_wp2_with fail
      go_ret
      exact ⟨rfl, HB7.out⟩
set_option maxRecDepth 100000 in
set_option maxHeartbeats 3200000 in
theorem graphWays_walk {v : Value} {to : List (List Int)} (i : Int) (W : World) (hv : GraphM W.heap.size W v to) (hx : Small to) :
    Calls Try.prog 9 #[v, .int .i64 i] W fun e W' => e = .returned (.bool true) ∧ Below W.heap.size W W' := by
  have hx0 := hx.1
  by_cases hl : to.length ≤ 40
  · cases hr : GG.rightG to
    · have HV := Lib.hid hv
      have HX := Lib.hid hx
      have HR := Lib.hid hr
      obtain ⟨va, vc, rfl⟩ := hv.form
      clear hv hx hr
      go_enter Try.func9, Try.ntmps9
      go_wp2_with (go_at_call 14; refine (rightG_any _ to _ HV.out HX.out).mono ?_; rintro e w' ⟨rfl, hB⟩; have HB := Lib.hid hB; clear hB; rw [HR.out])
      refine (awakeG_any _).mono ?_
      rintro e w2 ⟨rfl, hb⟩
      have HB2 := Lib.hid (bstep HB.out hb)
      clear hb
      go_wp2_with fail
      go_ret
      exact ⟨rfl, HB2.out⟩
    · by_cases hin : 0 ≤ i ∧ i < to.length
      · obtain ⟨k, rfl⟩ : ∃ k : Nat, i = (k : Int) := ⟨i.toNat, by omega⟩
        obtain ⟨va, vo, vc, rfl⟩ := hv.addr (by omega)
        exact graphWays_in k W (Lib.hid hv) (Lib.hid hx) hl (Lib.hid hr) (by omega)
      · have HV := Lib.hid hv
        have HX := Lib.hid hx
        have HR := Lib.hid hr
        obtain ⟨va, vc, rfl⟩ := hv.form
        clear hv hx hr
        by_cases h0 : 0 ≤ i
        · have h1 : ¬ i < to.length := fun h1 => hin ⟨h0, h1⟩
          clear hin
          go_enter Try.func9, Try.ntmps9
          go_wp2_with (go_at_call 14; refine (rightG_any _ to _ HV.out HX.out).mono ?_; rintro e w' ⟨rfl, hB⟩; have HB := Lib.hid hB; clear hB; rw [HR.out])
          refine (awakeG_any _).mono ?_
          rintro e w2 ⟨rfl, hb⟩
          have HB2 := Lib.hid (bstep HB.out hb)
          clear hb
          go_wp2_with fail
          go_ret
          exact ⟨rfl, HB2.out⟩
        · clear hin
          go_enter Try.func9, Try.ntmps9
          go_wp2_with (go_at_call 14; refine (rightG_any _ to _ HV.out HX.out).mono ?_; rintro e w' ⟨rfl, hB⟩; have HB := Lib.hid hB; clear hB; rw [HR.out])
          refine (awakeG_any _).mono ?_
          rintro e w2 ⟨rfl, hb⟩
          have HB2 := Lib.hid (bstep HB.out hb)
          clear hb
          go_wp2_with fail
          go_ret
          exact ⟨rfl, HB2.out⟩
  · have HV := Lib.hid hv
    obtain ⟨va, vc, rfl⟩ := hv.form
    clear hv hx
    go_enter Try.func9, Try.ntmps9
    go_wp2_with fail
    refine (awakeG_any _).mono ?_
    rintro e w2 ⟨rfl, hb⟩
    have HB2 := Lib.hid hb
    clear hb
    go_wp2_with fail
    go_ret
    exact ⟨rfl, HB2.out⟩
end Go.Proofs.Ytkfojieiemgliaa
