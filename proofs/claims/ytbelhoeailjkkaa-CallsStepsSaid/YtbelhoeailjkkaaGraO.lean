import Derived.Test.YtbelhoeailjkkaaGraN
set_option linter.unusedSimpArgs false
set_option linter.unusedVariables false
/-! graphs: what is reached without a node (the reference) -/
namespace Go.Proofs.Ytbelhoeailjkkaa.GG
/-- how many steps are left: by the flags that are not set -/
theorem closed_row {to : List (List Int)} {no : Int} {i : Nat} {B : Nat → Bool} (hr : rightG to = true) (hi : i < to.length) (h : ∀ k, k < (to[i]?.getD []).length → (to[i]?.getD [])[k]?.getD 0 ≠ no → B ((to[i]?.getD [])[k]?.getD 0).toNat = true) : ∀ j ∈ adjN to no i, B j = true := by
  intro j hj
  unfold adjN adjOf at hj
  rw [List.mem_filter, List.mem_map] at hj
  obtain ⟨⟨x, hx, rfl⟩, h2⟩ := hj
  obtain ⟨k, hk, e⟩ := List.getElem_of_mem hx
  have e2 : (to[i]?.getD [])[k]?.getD 0 = x := by rw [List.getElem?_eq_getElem hk, Option.getD_some, e]
  have := h k hk (by rw [e2]; have h3 := of_decide_eq_true h2; have := row_in (right_at hr hi) x hx; omega)
  rwa [e2] at this
theorem step_row {to : List (List Int)} {no : Int} {i k : Nat} (hr : rightG to = true) (hi : i < to.length) (hk : k < (to[i]?.getD []).length) (hn : (to[i]?.getD [])[k]?.getD 0 ≠ no) {f : Nat} (h : Reach (adjN to no) f i) : Reach (adjN to no) f ((to[i]?.getD [])[k]?.getD 0).toNat := by
  refine .step h ?_
  unfold adjN adjOf
  have hm := getD_mem (d := (0 : Int)) hk
  have := row_in (right_at hr hi) _ hm
  rw [List.mem_filter, List.mem_map]
  exact ⟨⟨_, hm, rfl⟩, decide_eq_true (by rw [Int.toNat_of_nonneg this.1]; exact hn)⟩
end Go.Proofs.Ytbelhoeailjkkaa.GG
namespace Go.Proofs.Ytbelhoeailjkkaa
open Go.RowKit
theorem GraphM.blk {n₀ : Nat} {W : World} {b off n cap : Nat} {to : List (List Int)} (h : GraphM n₀ W (.slice (some ⟨b, off, none⟩) n cap) to) (h0 : 0 < to.length) : b < n₀ := by
  obtain ⟨vs, h1, h2, _⟩ := h
  obtain ⟨b', off', cap', e, hb, _⟩ := h1.at (by omega)
  cases e; exact hb
/-- n flags in a block -/
def FlagsN (W : World) (g n : Nat) (B : Nat → Bool) : Prop := W.rowIs g 4 n (fun i => .bool (B i))
theorem FlagsN.set {W : World} {g n : Nat} {B : Nat → Bool} (h : FlagsN W g n B) (i : Nat) : FlagsN (W.setCell ⟨g, i, none⟩ (.bool true)) g n (GG.setB B i) := by
  refine World.rowIs.congr (World.rowIs.set h i (.bool true)) (fun j _ => ?_)
  unfold GG.setB
  by_cases e : j = i <;> simp [e]
theorem FlagsN.row {W : World} {g n : Nat} {B : Nat → Bool} (h : FlagsN W g n B) : BRow W.heap.size W (.slice (some ⟨g, 0, none⟩) n n) (flagsL n B) := by
  refine .inr ⟨g, 0, n, by rw [boolsV_len, flagsL_len], World.rowIs.lt h, by rw [boolsV_len, flagsL_len]; exact Nat.le_refl _, fun j u hj => ?_⟩
  obtain ⟨hj1, rfl⟩ := flagsL_cells hj
  rw [Nat.zero_add]
  exact World.rowIs.cell h hj1
/-- what 'Without' keeps: it has been only where ways lead -/
def WoInv (to : List (List Int)) (no : Int) (f : Nat) (B : Nat → Bool) : Prop := B f = true ∧ ∀ x, B x = true → GG.Reach (GG.adjN to no) f x
def ClosedTo (to : List (List Int)) (no : Int) (m : Nat) (B : Nat → Bool) : Prop := ∀ i, i < m → B i = true → ∀ j ∈ GG.adjN to no i, B j = true
def ClosedRow (row : List Int) (no : Int) (m : Nat) (B : Nat → Bool) : Prop := ∀ k, k < m → row[k]?.getD 0 ≠ no → B (row[k]?.getD 0).toNat = true
/-- a round of the reference: nothing has turned, or there are fewer left -/
def WoMid (n : Nat) (B0 B : Nat → Bool) (t : Bool) (P : Prop) : Prop := (t = false ∧ B = B0 ∧ P) ∨ (t = true ∧ GG.unv n B < GG.unv n B0)
theorem WoMid.set {n : Nat} {B0 B : Nat → Bool} {t : Bool} {P : Prop} (h : WoMid n B0 B t P) {x : Nat} (hx : x < n) (hb : B x = false) {Q : Prop} : WoMid n B0 (GG.setB B x) true Q := by
  have := GG.unv_set n hx hb
  rcases h with ⟨_, rfl, _⟩ | ⟨_, h⟩
  · exact .inr ⟨rfl, this⟩
  · exact .inr ⟨rfl, by omega⟩
theorem WoMid.imp {n : Nat} {B0 B : Nat → Bool} {t : Bool} {P Q : Prop} (h : WoMid n B0 B t P) (f : B = B0 → P → Q) : WoMid n B0 B t Q :=
  h.elim (fun ⟨a, b, c⟩ => .inl ⟨a, b, f b c⟩) .inr
theorem WoInv.set {to : List (List Int)} {no : Int} {f x : Nat} {B : Nat → Bool} (h : WoInv to no f B) (hr : GG.Reach (GG.adjN to no) f x) : WoInv to no f (GG.setB B x) :=
  ⟨(GG.setB_of _ _ _).2 (.inr h.1), fun y hy => ((GG.setB_of _ _ _).1 hy).elim (fun e => by rw [e]; exact hr) (h.2 y)⟩
theorem wo_at {to : List (List Int)} {no : Int} {f : Nat} {B : Nat → Bool} (hr : GG.rightG to = true) (hf : f < to.length) (h : WoInv to no f B) (g : ClosedTo to no to.length B) (x : Nat) : B x = GG.reachB to no f x :=
  GG.reachB_of hr hf h.1 h.2 (fun y hy j hj => g y ((h.2 y hy).lt (GG.adjN_lt hr) hf) hy j hj) x
/-- n flags in memory of the call's own -/
def NewFlags (W : World) (n : Nat) (B : Nat → Bool) (e : Ending) (W' : World) : Prop := e = .returned (.slice (some ⟨W.heap.size, 0, none⟩) n n) ∧ FlagsN W' W.heap.size n B ∧ Below W.heap.size W W'
theorem wo_done {to : List (List Int)} {no : Int} {f : Nat} {B : Nat → Bool} (hr : GG.rightG to = true) (hf : f < to.length) (h : WoInv to no f B) (g : ClosedTo to no to.length B) : flagsL to.length B = flagsL to.length (GG.reachB to no f) := by
  unfold flagsL
  refine List.map_congr_left fun x _ => GG.reachB_of hr hf h.1 h.2 (fun y hy j hj => ?_) x
  have hyn : y < to.length := (h.2 y hy).lt (GG.adjN_lt hr) hf
  exact g y hyn hy j hj

set_option maxRecDepth 100000 in
set_option maxHeartbeats 6400000 in
theorem without_new {v : Value} {to : List (List Int)} (f : Nat) (no : Int) (W : World) (hv : GraphM W.heap.size W v to) (hr : GG.rightG to = true) (hf : f < to.length) (hno : (f : Int) ≠ no) :
    Calls Try.prog 36 #[v, .int .i64 f, .int .i64 no] W fun e W' => NewFlags W to.length (GG.reachB to no f) e W' := by
  have hlen := GG.right_len hr
  have HV := Lib.hid hv
  have HR := Lib.hid hr
  obtain ⟨va, vo, vc, rfl⟩ := hv.addr (by omega)
  have hmk := run_make_row' (P := Try.prog) 31 4 (.bool false) 1 (by kernel_rfl) Try.infoGBool rfl .i64 .i64 to.length (by omega) (by omega)
  have HM : FlagsN (W.alloc (.cells (madeCells #[.bool false] to.length) 4)) W.heap.size to.length (fun _ => false) := World.rowIs_made W (.bool false) to.length 4
  have hcf := World.rowIs.cell HM hf
  have hff := World.rowIs.frozen HM f
  have H0 := Lib.hid (show FlagsN (W.alloc (.cells ((madeCells #[.bool false] to.length).setIfInBounds f (.bool true)) 4)) W.heap.size to.length (GG.setB (fun _ => false) f) by
    have h := HM.set f
    rwa [World.setCell_alloc_at _ _ _ _ _ rfl] at h)
  have hvb := HV.out.blk (by omega)
  have HI0 := Lib.hid (show WoInv to no f (GG.setB (fun _ => false) f) from ⟨GG.setB_same _ _, fun x hx => ((GG.setB_of _ _ _).1 hx).elim (fun e => by rw [e]; exact .refl _) (fun h => by cases h)⟩)
  have HB0 := Lib.hid ((Below.refl W.heap.size W).alloc (Nat.le_refl _) (.cells ((madeCells #[.bool false] to.length).setIfInBounds f (.bool true)) 4))
  clear hv hr HM
  have i1 : (0 : Int) ≤ f ∧ (f : Int) < to.length := by omega
  have hne : ((f : Int) == no) = false := beq_eq_false_iff_ne.2 hno
  clear hno
  go_enter Try.func36, Try.ntmps36
  go_wp2_with fail
  clear hmk hcf hff hne
  go_loopg [8] (GG.unv to.length (GG.setB (fun _ => false) f) + 1) (fun gn a wr => ∃ (B : Nat → Bool) (t : Bool), a = .bool t ∧ FlagsN wr W.heap.size to.length B ∧ Below W.heap.size W wr ∧
    RowKit.Hid (WoInv to no f B ∧ ((t = true ∧ gn = GG.unv to.length B + 1) ∨ (t = false ∧ gn = 0 ∧ ClosedTo to no to.length B))))
  case atStart => exact ⟨_, true, rfl, H0.out, HB0.out, Lib.hid ⟨HI0.out, .inl ⟨rfl, rfl⟩⟩⟩
  case round =>
    obtain ⟨B0, t, rfl, hF, hB, HH⟩ := hrel
    clear H0 HB0 HI0
    cases t
    · have HZ := Lib.hid (show ∀ x, B0 x = GG.reachB to no f x by
        obtain ⟨h1, h | h⟩ := HH.out
        · cases h.1
        · exact wo_at HR.out hf h1 h.2.2)
      have HO := Lib.hid (World.rowIs.congr hF (g := fun i => .bool (GG.reachB to no f i)) (fun i _ => by rw [HZ.out i]))
      have HB := Lib.hid hB
      clear hF hB
      go_wp2_with fail
      go_ret
      exact ⟨rfl, HO.out, HB.out⟩
    · have HG := Lib.hid (show gk = GG.unv to.length B0 + 1 by
        obtain ⟨_, h | h⟩ := HH.out
        · exact h.2
        · cases h.1)
      have HI := Lib.hid HH.out.1
      clear HH
      go_wp2_with fail
      go_loopw [8, 9] (fun a i wr => ∃ (k : Nat) (B : Nat → Bool) (t : Bool), k ≤ to.length ∧ i = .int .i64 (k : Int) ∧ a = .bool t ∧ FlagsN wr W.heap.size to.length B ∧ Below W.heap.size W wr ∧
        RowKit.Hid (WoInv to no f B ∧ WoMid to.length B0 B t (ClosedTo to no k B))) (fun _ i _ => to.length - (intOf i).toNat)
      case atStart => exact ⟨0, B0, false, Nat.zero_le _, rfl, rfl, hF, hB, Lib.hid ⟨HI.out, .inl ⟨rfl, rfl, fun i hi => absurd hi (Nat.not_lt_zero _)⟩⟩⟩
      case round =>
        obtain ⟨k, B, t, hk, rfl, rfl, hF2, hB2, HH⟩ := hrel
        clear hF hB HI
        by_cases hkn : k < to.length
        · have hck := World.rowIs.cell hF2 hkn
          have i2 : (0 : Int) ≤ k ∧ (k : Int) < to.length := by omega
          have HF2 := Lib.hid hF2
          have HB2 := Lib.hid hB2
          clear hF2 hB2
          cases hb : B k
          · rw [hb] at hck
            have HW := Lib.hid (show WoInv to no f B ∧ WoMid to.length B0 B t (ClosedTo to no (k + 1) B) from ⟨HH.out.1, HH.out.2.imp fun _ h i hi hbi => (Nat.lt_succ_iff_lt_or_eq.1 hi).elim (fun h' => h i h' hbi) (fun e => by rw [e, hb] at hbi; cases hbi)⟩)
            clear hb
            go_wp2_with fail
            go_roundw
            case rel => exact ⟨k + 1, B, t, by omega, by go_num, rfl, HF2.out, HB2.out, HW⟩
            case measure => simp [intOf]; omega
          · rw [hb] at hck
            obtain ⟨ra, rac, hx1, hrx⟩ := (HV.out.below HB2.out).at hkn
            have b1 : (to[k]?.getD []).length ≤ 17592186044416 := by have := GG.row_len (GG.right_at HR.out hkn); omega
            have HSTEP := Lib.hid (fun q hq hn => GG.step_row (no := no) (k := q) (f := f) HR.out hkn hq hn)
            have HCL := Lib.hid (fun (B : Nat → Bool) (h : ClosedRow (to[k]?.getD []) no (to[k]?.getD []).length B) => GG.closed_row (no := no) HR.out hkn h)
            have HIN := Lib.hid (GG.row_in (GG.right_at HR.out hkn))
            obtain ⟨r, er⟩ : ∃ r, r = to[k]?.getD [] := ⟨_, rfl⟩
            rw [← er] at hx1 hrx b1 HSTEP HCL HIN
            have HRX := Lib.hid hrx
            have HBK := Lib.hid hb
            clear er hrx hb
            go_wp2_with fail
            obtain ⟨wo, ewo⟩ : ∃ wo : World, wo = wr := ⟨_, rfl⟩
            rw [← ewo]
            rw [← ewo] at HF2 HB2 hck hx1 HRX
            clear ewo
            go_loopw [8, 10] (fun a i wr => ∃ (q : Nat) (B : Nat → Bool) (t : Bool), q ≤ r.length ∧ i = .int .i64 (q : Int) ∧ a = .bool t ∧ FlagsN wr W.heap.size to.length B ∧ Below W.heap.size W wr ∧
              RowKit.Hid (B k = true ∧ WoInv to no f B ∧ WoMid to.length B0 B t (ClosedTo to no k B ∧ ClosedRow r no q B))) (fun _ i _ => r.length - (intOf i).toNat)
            case atStart => exact ⟨0, B, t, Nat.zero_le _, rfl, rfl, HF2.out, HB2.out, Lib.hid ⟨HBK.out, HH.out.1, HH.out.2.imp fun _ h => ⟨h, fun q hq => absurd hq (Nat.not_lt_zero _)⟩⟩⟩
            case round =>
              obtain ⟨q, B, t, hq, rfl, rfl, hF3, hB3, HH3⟩ := hrel
              clear HH HBK HF2 hck
              have HF3 := Lib.hid hF3
              have HB3 := Lib.hid hB3
              clear hF3 hB3
              by_cases hqr : q < r.length
              · obtain ⟨xb, xo, rfl, hx2⟩ := (HRX.out.of_both HB2.out HB3.out).cellAt hqr
                have hx3 := (bcell0 HB2.out HB3.out va (vo + k) hvb).trans hx1
                have i3 : (0 : Int) ≤ q ∧ (q : Int) < r.length := by omega
                have HX := Lib.hid (HIN.out _ (GG.getD_mem (d := 0) hqr))
                have HST := Lib.hid (fun hn => HSTEP.out q hqr hn (HH3.out.2.1.2 k HH3.out.1))
                have HCR := Lib.hid (fun (hh : r[q]?.getD 0 ≠ no → B (r[q]?.getD 0).toNat = true) (h : ClosedTo to no k B ∧ ClosedRow r no q B) => (show ClosedTo to no k B ∧ ClosedRow r no (q + 1) B from ⟨h.1, fun q' hq' => (Nat.lt_succ_iff_lt_or_eq.1 hq').elim (h.2 q') (fun e => by rw [e]; exact hh)⟩))
                have hx1' := hx1
                clear hx1
                obtain ⟨x, ex⟩ : ∃ x, x = r[q]?.getD 0 := ⟨_, rfl⟩
                rw [← ex] at hx2 HX HST HCR
                clear ex
                obtain ⟨y, rfl⟩ : ∃ y : Nat, x = (y : Int) := ⟨x.toNat, by have := HX.out; omega⟩
                have hyn : y < to.length := by have := HX.out; omega
                have i4 : (0 : Int) ≤ (y : Int) ∧ (y : Int) < to.length := by omega
                rw [Int.toNat_natCast] at HST HCR
                clear hx1'
                by_cases hn : (y : Int) = no
                · have HW := Lib.hid (show B k = true ∧ WoInv to no f B ∧ WoMid to.length B0 B t (ClosedTo to no k B ∧ ClosedRow r no (q + 1) B) from ⟨HH3.out.1, HH3.out.2.1, HH3.out.2.2.imp fun _ => HCR.out (fun h => absurd hn h)⟩)
                  have hn1 : ((y : Int) != no) = false := bne_eq_false_iff_eq.2 hn
                  clear hn
                  go_wp2_with fail
                  go_roundw
                  case rel => exact ⟨q + 1, B, t, by omega, by go_num, rfl, HF3.out, HB3.out, HW⟩
                  case measure => simp [intOf]; omega
                · have hn1 : ((y : Int) != no) = true := bne_iff_ne.2 hn
                  have HST2 := Lib.hid (HST.out hn)
                  have hcy := World.rowIs.cell HF3.out hyn
                  have hfy := World.rowIs.frozen HF3.out y
                  clear hn
                  cases hb : B y
                  · rw [hb] at hcy
                    have HW := Lib.hid (show GG.setB B y k = true ∧ WoInv to no f (GG.setB B y) ∧ WoMid to.length B0 (GG.setB B y) true (ClosedTo to no k (GG.setB B y) ∧ ClosedRow r no (q + 1) (GG.setB B y)) from ⟨(GG.setB_of _ _ _).2 (.inr HH3.out.1), HH3.out.2.1.set HST2.out, HH3.out.2.2.set hyn hb⟩)
                    clear hb
                    go_wp2_with fail
                    go_roundw
                    case rel => exact ⟨q + 1, GG.setB B y, true, by omega, by go_num, rfl, HF3.out.set y, HB3.out.setCell (p := ⟨W.heap.size, y, none⟩) (Nat.le_refl _) _, HW⟩
                    case measure => simp [intOf]; omega
                  · rw [hb] at hcy
                    have HW := Lib.hid (show B k = true ∧ WoInv to no f B ∧ WoMid to.length B0 B t (ClosedTo to no k B ∧ ClosedRow r no (q + 1) B) from ⟨HH3.out.1, HH3.out.2.1, HH3.out.2.2.imp fun _ => HCR.out (fun _ => hb)⟩)
                    clear hb
                    go_wp2_with fail
                    go_roundw
                    case rel => exact ⟨q + 1, B, t, by omega, by go_num, rfl, HF3.out, HB3.out, HW⟩
                    case measure => simp [intOf]; omega
              · have HW := Lib.hid (show WoInv to no f B ∧ WoMid to.length B0 B t (ClosedTo to no (k + 1) B) from ⟨HH3.out.2.1, HH3.out.2.2.imp fun _ h i hi hbi => (Nat.lt_succ_iff_lt_or_eq.1 hi).elim (fun h' => h.1 i h' hbi) (fun e => by rw [e]; exact HCL.out B (fun q' hq' => h.2 q' (by omega)))⟩)
                have hx3 := (bcell0 HB2.out HB3.out va (vo + k) hvb).trans hx1
                clear hx1
                go_wp2_with fail
                go_roundw
                case rel => exact ⟨k + 1, B, t, by omega, by go_num, rfl, HF3.out, HB3.out, HW⟩
                case measure => simp [intOf]; omega
        · have HW := Lib.hid (show WoInv to no f B ∧ WoMid to.length B0 B t (ClosedTo to no to.length B) from ⟨HH.out.1, HH.out.2.imp fun _ h => by rwa [show k = to.length by omega] at h⟩)
          clear HH
          go_wp2_with fail
          cases t
          · go_roundg 0
            case measure => have := HG.out; omega
            case rel => exact ⟨B, false, rfl, hF2, hB2, Lib.hid ⟨HW.out.1, .inr ⟨rfl, rfl, HW.out.2.elim (fun h => h.2.2) (fun h => by cases h.1)⟩⟩⟩
          · go_roundg (GG.unv to.length B + 1)
            case measure => have := HG.out; have := HW.out.2.elim (fun h => by cases h.1) (fun h => h.2); omega
            case rel => exact ⟨B, true, rfl, hF2, hB2, Lib.hid ⟨HW.out.1, .inl ⟨rfl, rfl⟩⟩⟩
theorem without_any {v : Value} {to : List (List Int)} (f : Nat) (no : Int) (W : World) (hv : GraphM W.heap.size W v to) (hr : GG.rightG to = true) (hf : f < to.length) (hno : (f : Int) ≠ no) :
    Calls Try.prog 36 #[v, .int .i64 f, .int .i64 no] W fun e W' => NewBools W.heap.size (flagsL to.length (GG.reachB to no f)) e W W' :=
  (without_new f no W hv hr hf hno).mono fun e W' h => ⟨_, h.1, FlagsN.row h.2.1, h.2.2⟩
set_option maxHeartbeats 800000 in
theorem without_same {v : Value} {to : List (List Int)} (f : Nat) (W : World) (hv : GraphM W.heap.size W v to) (hl : to.length ≤ 256) :
    Calls Try.prog 36 #[v, .int .i64 f, .int .i64 f] W fun e W' => NewFlags W to.length (fun _ => false) e W' := by
  obtain ⟨va, vc, rfl⟩ := hv.form
  have hmk := run_make_row' (P := Try.prog) 31 4 (.bool false) 1 (by kernel_rfl) Try.infoGBool rfl .i64 .i64 to.length (by omega) (by omega)
  have HM := Lib.hid (show FlagsN (W.alloc (.cells (madeCells #[.bool false] to.length) 4)) W.heap.size to.length (fun _ => false) from World.rowIs_made W (.bool false) to.length 4)
  have HB := Lib.hid ((Below.refl W.heap.size W).alloc (Nat.le_refl _) (.cells (madeCells #[.bool false] to.length) 4))
  have he : ((f : Int) == (f : Int)) = true := beq_self_eq_true _
  go_enter Try.func36, Try.ntmps36
  go_wp2_with fail
  go_ret
  exact ⟨rfl, HM.out, HB.out⟩
end Go.Proofs.Ytbelhoeailjkkaa
