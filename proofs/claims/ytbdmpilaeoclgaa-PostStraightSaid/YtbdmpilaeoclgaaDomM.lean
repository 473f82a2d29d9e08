import Derived.Test.YtbdmpilaeoclgaaDomV
set_option linter.unusedSimpArgs false
set_option linter.unusedVariables false
/-! a table of flags -/
namespace Go.Proofs.Ytbdmpilaeoclgaa
open Go.RowKit
/-- m rows of n flags each, in a table of n -/
structure OvT (g n m : Nat) (F : Nat → Nat → Bool) (gs : Nat → Nat) (W : World) : Prop where
  tab : W.rowIs g 45 n (fun j => if j < m then .slice (some ⟨gs j, 0, none⟩) n n else .slice none 0 0)
  rows : ∀ j, j < m → g < gs j ∧ FlagsN W (gs j) n (F j)
  apart : ∀ i j, i < m → j < m → i ≠ j → gs i ≠ gs j
theorem FlagsN.lt {W : World} {g n : Nat} {B : Nat → Bool} (h : FlagsN W g n B) : g < W.heap.size := World.rowIs.lt h
theorem FlagsN.of_block {W W' : World} {g n : Nat} {B : Nat → Bool} (h : FlagsN W g n B) (e : W'.heap[g]? = W.heap[g]?) : FlagsN W' g n B := World.rowIs.of_block h e
theorem FlagsN.put {W : World} {g n : Nat} {B : Nat → Bool} (h : FlagsN W g n B) (b : Nat) (x : Bool) : FlagsN (W.setCell ⟨g, b, none⟩ (.bool x)) g n (fun i => if i = b then x else B i) := by
  refine World.rowIs.congr (World.rowIs.set h b (.bool x)) (fun j _ => ?_)
  by_cases e : j = b <;> simp [e]
theorem FlagsN.other {W : World} {g n h b : Nat} {B : Nat → Bool} {v : Value} (f : FlagsN W g n B) (hne : g ≠ h) : FlagsN (W.setCell ⟨h, b, none⟩ v) g n B := f.of_block (blk_set_other _ _ _ _ (by simpa using hne))
theorem FlagsN.on {W W' : World} {g n : Nat} {B : Nat → Bool} (f : FlagsN W g n B) (hb : Below W.heap.size W W') : FlagsN W' g n B := f.of_block (hb.block g f.lt)
section
variable {g n m : Nat} {F : Nat → Nat → Bool} {gs : Nat → Nat} {W W' : World}
theorem OvT.on (h : OvT g n m F gs W) (hb : Below W.heap.size W W') : OvT g n m F gs W' :=
  ⟨World.rowIs.of_block h.tab (hb.block g (World.rowIs.lt h.tab)), fun j hj => ⟨(h.rows j hj).1, (h.rows j hj).2.on hb⟩, h.apart⟩
theorem OvT.onB {B : Nat} (h : OvT g n m F gs W) (hs : W.heap.size ≤ B) (hb : Below B W W') : OvT g n m F gs W' :=
  ⟨World.rowIs.of_block h.tab (hb.block g (by have := World.rowIs.lt h.tab; omega)), fun j hj => ⟨(h.rows j hj).1, (h.rows j hj).2.of_block (hb.block _ (by have := (h.rows j hj).2.lt; omega))⟩, h.apart⟩
theorem ovT_new (W : World) (n : Nat) (F : Nat → Nat → Bool) (gs : Nat → Nat) : OvT W.heap.size n 0 F gs (W.alloc (.cells (madeCells #[.slice none 0 0] n) 45)) :=
  ⟨World.rowIs_made W (.slice none 0 0) n 45, fun j hj => absurd hj (Nat.not_lt_zero _), fun i j hi => absurd hi (Nat.not_lt_zero _)⟩
theorem OvT.add (h : OvT g n m F gs W) (hm : m < n) :
    OvT g n (m + 1) (fun j => if j = m then (fun _ => false) else F j) (fun j => if j = m then W.heap.size else gs j) ((W.alloc (.cells (madeCells #[.bool false] n) 4)).setCell ⟨g, m, none⟩ (.slice (some ⟨W.heap.size, 0, none⟩) n n)) := by
  have hg := World.rowIs.lt h.tab
  have hba : Below W.heap.size W (W.alloc (.cells (madeCells #[.bool false] n) 4)) := (Below.refl _ _).alloc (Nat.le_refl _) _
  have h1 := h.on hba
  refine ⟨World.rowIs.congr (World.rowIs.set h1.tab m (.slice (some ⟨W.heap.size, 0, none⟩) n n)) (fun j _ => ?_), fun j hj => ?_, fun i j hi hj hij => ?_⟩
  · by_cases e : j = m
    · subst e; simp
    · by_cases e2 : j < m
      · simp [e, e2, show j < m + 1 by omega]
      · simp [e, e2, show ¬ j < m + 1 by omega]
  · by_cases e : j = m
    · subst e
      simp only [if_true]
      exact ⟨hg, FlagsN.other (World.rowIs_made W (.bool false) n 4) (by omega)⟩
    · simp only [if_neg e]
      have hj' : j < m := by omega
      exact ⟨(h.rows j hj').1, (h1.rows j hj').2.other (by have := (h.rows j hj').1; omega)⟩
  · show (if i = m then W.heap.size else gs i) ≠ (if j = m then W.heap.size else gs j)
    by_cases e : i = m
    · subst e
      rw [if_pos rfl, if_neg (fun e => hij e.symm)]
      have := (h.rows j (by omega)).2.lt; omega
    · rw [if_neg e]
      by_cases e2 : j = m
      · rw [if_pos e2]
        have := (h.rows i (by omega)).2.lt; omega
      · rw [if_neg e2]
        exact h.apart i j (by omega) (by omega) hij
theorem OvT.put (h : OvT g n m F gs W) {j : Nat} (hj : j < m) (b : Nat) (x : Bool) :
    OvT g n m (fun i => if i = j then (fun k => if k = b then x else F j k) else F i) gs (W.setCell ⟨gs j, b, none⟩ (.bool x)) := by
  refine ⟨World.rowIs.of_block h.tab (blk_set_other _ _ _ _ (by have := (h.rows j hj).1; simp; omega)), fun i hi => ⟨(h.rows i hi).1, ?_⟩, h.apart⟩
  by_cases e : i = j
  · subst e
    simp only [if_true]
    exact (h.rows i hi).2.put b x
  · simp only [if_neg e]
    exact (h.rows i hi).2.other (h.apart i j hi hj e)
theorem OvT.at_ (h : OvT g n m F gs W) {j : Nat} (hj : j < m) (hn : j < n) : W.cell? ⟨g, j, none⟩ = some (.slice (some ⟨gs j, 0, none⟩) n n) := by
  have := World.rowIs.cell h.tab hn
  rwa [if_pos hj] at this
theorem OvT.nil_at (h : OvT g n m F gs W) {j : Nat} (hj : ¬ j < m) (hn : j < n) : W.cell? ⟨g, j, none⟩ = some (.slice none 0 0) := by
  have := World.rowIs.cell h.tab hn
  rwa [if_neg hj] at this
theorem OvT.cell (h : OvT g n m F gs W) {j b : Nat} (hj : j < m) (hb : b < n) : W.cell? ⟨gs j, b, none⟩ = some (.bool (F j b)) := World.rowIs.cell (h.rows j hj).2 hb
theorem OvT.congr {F' : Nat → Nat → Bool} (h : OvT g n m F gs W) (e : ∀ j, j < m → ∀ b, b < n → F j b = F' j b) : OvT g n m F' gs W :=
  ⟨h.tab, fun j hj => ⟨(h.rows j hj).1, World.rowIs.congr (h.rows j hj).2 (fun i hi => by rw [e j hj i hi])⟩, h.apart⟩
end
theorem Try.infoGBRow : (Try.prog.info? 45).map (fun i => (i.zero, i.size, i.bytes)) = some (some (.slice none 0 0), 1, 24) := by kernel_rfl
/-- what is asked of each other node: it does not dominate b, or it dominates a -/
def isP (to : List (List Int)) (b a k : Nat) : Bool := decide (k = b) || !DD.ovB to k b || DD.ovB to k a
def isT (to : List (List Int)) (b a : Nat) : Bool := decide (a ≠ b) && DD.ovB to a b
theorem isT_succ {to : List (List Int)} {b a q : Nat} {t : Bool} (h : t = (isT to b a && (List.range q).all (isP to b a))) : (t && isP to b a q) = (isT to b a && (List.range (q + 1)).all (isP to b a)) := by
  rw [h, List.range_succ, List.all_append, Bool.and_assoc]; simp
theorem isB_no {to : List (List Int)} {b a q : Nat} (hq : q ≤ to.length) (h : false = (isT to b a && (List.range q).all (isP to b a))) : DD.isB to b a = false := by
  show (isT to b a && (List.range to.length).all (isP to b a)) = false
  rcases Bool.and_eq_false_iff.1 h.symm with e | e
  · rw [e, Bool.false_and]
  · obtain ⟨k, hk, hkp⟩ := List.all_eq_false.1 e
    have : (List.range to.length).all (isP to b a) = false := List.all_eq_false.2 ⟨k, List.mem_range.2 (by have := List.mem_range.1 hk; omega), hkp⟩
    rw [this, Bool.and_false]
set_option maxRecDepth 100000 in
set_option maxHeartbeats 3200000 in
theorem rtree11_any {v : Value} {to : List (List Int)} (W : World) (hv : GraphM W.heap.size W v to) (hx : Small to) :
    Calls Try.prog 17 #[v] W fun e W' => NewInts W.heap.size (DD.treeL to) e W W' := by
  have hx0 := hx.1
  have HV := Lib.hid hv
  have HX := Lib.hid hx
  obtain ⟨va, vc, rfl⟩ := hv.form
  clear hv hx
  cases hr : GG.rightG to
  · have HR := Lib.hid hr
    have HE := Lib.hid (show DD.treeL to = [] by unfold DD.treeL; rw [if_neg (by rw [hr]; simp)])
    clear hr
    go_enter Try.func17, Try.ntmps17
    go_wp2_with (go_at_call 46; refine (rrightG_any _ to _ _ HV.out HX.out).mono ?_; rintro e w' ⟨rfl, d, rfl⟩; rw [HR.out])
    go_ret
    exact ⟨_, rfl, by rw [HE.out]; exact cells_empty _ _ _ _ (fun _ => rfl), below_dN (Below.refl _ _) _⟩
  · have HR := Lib.hid hr
    have hlen := GG.right_len hr
    cases ha : DD.allB to
    · obtain ⟨k, hk⟩ := lostI_no hr ha
      have HK := Lib.hid hk
      have HE := Lib.hid (show DD.treeL to = [] by unfold DD.treeL; rw [if_neg (by rw [ha]; simp)])
      have hk0 : (0 : Int) ≤ (k : Int) := by omega
      clear hr ha hk
      go_enter Try.func17, Try.ntmps17
      go_wp2_with (first
        | (go_at_call 46; refine (rrightG_any _ to _ _ HV.out HX.out).mono ?_; rintro e w' ⟨rfl, d, rfl⟩; rw [HR.out])
        | (go_at_call 47; refine (rlost_any (to := to) (W.drewN d) (HV.out.drewN d) HR.out).mono ?_; rintro e w2 ⟨rfl, hB⟩; have HB := Lib.hid (show Below W.heap.size W w2 from (below_dN (Below.refl W.heap.size W) d).trans hB); clear hB; rw [HK.out]))
      go_ret
      exact ⟨_, rfl, by rw [HE.out]; exact cells_empty _ _ _ _ (fun _ => rfl), HB.out⟩
    · have HK := Lib.hid (lostI_all hr ha)
      have HE := Lib.hid (show DD.treeL to = DD.domsL to by unfold DD.treeL; rw [if_pos ⟨hr, ha⟩])
      obtain ⟨va', vo, vc', e1⟩ := HV.out.addr (by omega)
      cases e1
      clear hr ha
      go_enter Try.func17, Try.ntmps17
      go_wp2_with (first
        | (go_at_call 46; refine (rrightG_any _ to _ _ HV.out HX.out).mono ?_; rintro e w' ⟨rfl, d, rfl⟩; rw [HR.out])
        | (go_at_call 47; refine (rlost_any (to := to) (W.drewN d) (HV.out.drewN d) HR.out).mono ?_; rintro e w2 ⟨rfl, hB⟩; have HB := Lib.hid (show Below W.heap.size W w2 from (below_dN (Below.refl W.heap.size W) d).trans hB); have hmk := run_make_row' (P := Try.prog) 50 45 (.slice none 0 0) 24 (by kernel_rfl) Try.infoGBRow rfl .i64 .i64 to.length (by omega) (by omega); clear hB; rw [HK.out]))
      have H0 := Lib.hid (ovT_new w2 to.length (fun _ _ => false) (fun _ => 0))
      have HB0 := Lib.hid (HB.out.alloc HB.out.size (.cells (madeCells #[.slice none 0 0] to.length) 45))
      have hmk2 := run_make_row' (P := Try.prog) 45 4 (.bool false) 1 (by kernel_rfl) Try.infoGBool rfl .i64 .i64 to.length (by omega) (by omega)
      clear hmk
      go_loopw [5] (fun k wr => ∃ (a : Nat) (F : Nat → Nat → Bool) (gs : Nat → Nat), a ≤ to.length ∧ k = .int .i64 (a : Int) ∧ OvT w2.heap.size to.length a F gs wr ∧ Below W.heap.size W wr ∧ RowKit.Hid (∀ j, j < a → ∀ b, b < to.length → F j b = DD.ovB to j b)) (fun k _ => to.length - (intOf k).toNat)
      case atStart => exact ⟨0, _, _, Nat.zero_le _, rfl, H0.out, HB0.out, Lib.hid (fun j hj => absurd hj (Nat.not_lt_zero _))⟩
      case round =>
        obtain ⟨a, F, gs, hak, rfl, hO, hB, HF⟩ := hrel
        have HO := Lib.hid hO
        have HBW := Lib.hid hB
        clear hO hB H0 HB0
        by_cases hlt : a < to.length
        · go_wp2_with fail
          refine (av_any (to := to) a _ (HV.out.on HBW.out HBW.out.size) HR.out).mono ?_
          rintro e w4 ⟨rfl, hf4, hb4⟩
          have HO4 := Lib.hid (HO.out.on hb4)
          have HB4 := Lib.hid (bstep HBW.out hb4)
          have HF4 := Lib.hid hf4
          have HGL := Lib.hid (World.rowIs.lt HO.out.tab)
          have i1 : (0 : Int) ≤ a ∧ (a : Int) < to.length := by omega
          have hba : Below w4.heap.size w4 (w4.alloc (.cells (madeCells #[.bool false] to.length) 4)) := (Below.refl _ _).alloc (Nat.le_refl _) _
          have hct := (HO4.out.on hba).nil_at (Nat.lt_irrefl a) hlt
          have hft := World.rowIs.frozen (HO4.out.on hba).tab a
          have HO5 := Lib.hid (HO4.out.add hlt)
          have HF5 := Lib.hid ((hf4.on hba).other (h := w2.heap.size) (b := a) (v := .slice (some ⟨w4.heap.size, 0, none⟩) to.length to.length) (by have := HGL.out; omega))
          have HB5 := Lib.hid ((HB4.out.alloc HB4.out.size (.cells (madeCells #[.bool false] to.length) 4)).setCell (p := ⟨w2.heap.size, a, none⟩) (by have := HB.out.size; simp; omega) (.slice (some ⟨w4.heap.size, 0, none⟩) to.length to.length))
          have HLT4 := Lib.hid (show wr.heap.size < w4.heap.size from hf4.lt)
          clear hf4 hb4
          go_wp2_with fail
          go_loopw [7] (fun k wq => ∃ (b : Nat) (F : Nat → Nat → Bool) (gs : Nat → Nat), b ≤ to.length ∧ k = .int .i64 (b : Int) ∧ OvT w2.heap.size to.length (a + 1) F gs wq ∧ Below W.heap.size W wq ∧ FlagsN wq wr.heap.size to.length (avB to a) ∧ gs a ≠ wr.heap.size ∧ RowKit.Hid ((∀ j, j < a → ∀ b, b < to.length → F j b = DD.ovB to j b) ∧ ∀ x, x < b → F a x = DD.ovB to a x)) (fun k _ => to.length - (intOf k).toNat)
          case atStart => exact ⟨0, _, _, Nat.zero_le _, rfl, HO5.out, HB5.out, HF5.out, by simp only [if_true]; have := HLT4.out; omega, Lib.hid ⟨fun j hj x hx => by simp only [if_neg (show j ≠ a by omega)]; exact HF.out j hj x hx, fun x hx => absurd hx (Nat.not_lt_zero _)⟩⟩
          case round =>
            obtain ⟨b, F2, gs2, hbk, rfl, hO2, hB2, hL2, hne, HF2⟩ := hrel
            have HO2 := Lib.hid hO2
            have HBQ := Lib.hid hB2
            have HL2 := Lib.hid hL2
            clear HF HO HO4 HO5 HF4 HF5 hct hft hba HB4 HB5 HBW
            clear hO2 hB2 hL2
            by_cases hbt : b < to.length
            · have hc1 := HO2.out.at_ (Nat.lt_succ_self a) hlt
              have hc2 := World.rowIs.cell HL2.out hbt
              have i2 : (0 : Int) ≤ b ∧ (b : Int) < to.length := by omega
              have HPUT := Lib.hid (fun x => (HO2.out.on (Below.refl _ _).drew).put (Nat.lt_succ_self a) b x)
              have HC3 := Lib.hid (HO2.out.cell (Nat.lt_succ_self a) hbt)
              have HFZ := Lib.hid (World.rowIs.frozen (HO2.out.rows a (Nat.lt_succ_self a)).2 b)
              have HLP := Lib.hid (fun x => (HL2.out.on (Below.refl _ _).drew).other (h := gs2 a) (b := b) (v := .bool x) (fun e => hne e.symm))
              have HBP := Lib.hid (fun x => HBQ.out.drew.setCell (p := ⟨gs2 a, b, none⟩) (by have := (HO2.out.rows a (Nat.lt_succ_self a)).1; have := HB.out.size; simp; omega) (.bool x))
              have HFN := Lib.hid (fun (x : Bool) (hx : x = DD.ovB to a b) => (show (∀ j, j < a → ∀ k, k < to.length → (if j = a then (fun k => if k = b then x else F2 a k) else F2 j) k = DD.ovB to j k) ∧ ∀ y, y < b + 1 → (if a = a then (fun k => if k = b then x else F2 a k) else F2 a) y = DD.ovB to a y from
                ⟨fun j hj k hk => by rw [if_neg (show j ≠ a by omega)]; exact HF2.out.1 j hj k hk, fun y hy => by
                  rw [if_pos rfl]
                  by_cases e : y = b
                  · subst e; simp only [if_true]; exact hx
                  · simp only [if_neg e]; exact HF2.out.2 y (by omega)⟩))
              generalize hgs : gs2 a = ga at *
              by_cases hab : a = b
              · subst hab
                have hq : ((a : Int) == (a : Int)) = true := beq_self_eq_true _
                have HOV := Lib.hid (show true = DD.ovB to a a by rw [ovB_eq, decide_eq_true rfl, Bool.true_or])
                go_wp2_with fail
                go_still_tail 15, (by kernel_rfl)
                change wpList _ _ _ _ _ wr.drew
                have hc3 : wr.drew.cell? ⟨ga, a, none⟩ = some (.bool (F2 a a)) := HC3.out
                have hfz : wr.drew.frozen? ⟨ga, a, none⟩ = false := HFZ.out
                go_wp2_with fail
                go_roundw
                case rel => exact ⟨a + 1, (fun i => if i = a then (fun k => if k = a then (true) else F2 a k) else F2 i), gs2, by omega, by go_num, HPUT.out _, HBP.out _, HLP.out _, by rw [hgs]; exact hne, Lib.hid (by have h := HFN.out _ HOV.out; simpa using h)⟩
                case measure => simp [intOf]; omega
              · have hq : ((a : Int) == (b : Int)) = false := beq_eq_false_iff_ne.2 (by omega)
                have HOV := Lib.hid (show (!avB to a b) = DD.ovB to a b by rw [ovB_eq, decide_eq_false hab, Bool.false_or])
                go_wp2_with fail
                go_still_tail 15, (by kernel_rfl)
                change wpList _ _ _ _ _ wr.drew
                have hc3 : wr.drew.cell? ⟨ga, b, none⟩ = some (.bool (F2 a b)) := HC3.out
                have hfz : wr.drew.frozen? ⟨ga, b, none⟩ = false := HFZ.out
                go_wp2_with fail
                go_roundw
                case rel => exact ⟨b + 1, (fun i => if i = a then (fun k => if k = b then (!avB to a b) else F2 a k) else F2 i), gs2, by omega, by go_num, HPUT.out _, HBP.out _, HLP.out _, by rw [hgs]; exact hne, Lib.hid (by have h := HFN.out _ HOV.out; simpa using h)⟩
                case measure => simp [intOf]; omega
            · have HFA := Lib.hid (show ∀ j, j < a + 1 → ∀ x, x < to.length → F2 j x = DD.ovB to j x from fun j hj x hx => (Nat.lt_succ_iff_lt_or_eq.1 hj).elim (fun h => HF2.out.1 j h x hx) (fun e => by rw [e]; exact HF2.out.2 x (by omega)))
              go_wp2_with fail
              go_roundw
              case rel => exact ⟨a + 1, F2, gs2, by omega, by go_num, HO2.out, HBQ.out, HFA⟩
              case measure => simp [intOf]; omega
        · have HOD := Lib.hid (show OvT w2.heap.size to.length to.length (fun j x => DD.ovB to j x) gs wr by
            have h := HO.out
            rw [show a = to.length by omega] at h
            exact h.congr (fun j hj x hx => HF.out j (by omega) x hx))
          clear HO HF
          obtain ⟨wo, ewo⟩ : ∃ wo : World, wo = wr := ⟨_, rfl⟩
          rw [← ewo]
          rw [← ewo] at HOD HBW
          clear ewo
          have hmk3 := run_make_row' (P := Try.prog) 24 3 (.int .i64 0) 8 (by kernel_rfl) Try.infoGInt rfl .i64 .i64 to.length (by omega) (by omega)
          go_wp2_with fail
          clear hmk3
          have HI0 := Lib.hid (show IntsN (wo.alloc (.cells (madeCells #[.int .i64 0] to.length) 3)) wo.heap.size to.length (fun _ => 0) from World.rowIs_made wo (.int .i64 0) to.length 3)
          have HBZ := Lib.hid ((Below.refl wo.heap.size wo).alloc (Nat.le_refl _) (.cells (madeCells #[.int .i64 0] to.length) 3))
          go_loopw [9] (fun k wr => ∃ (b : Nat) (f : Nat → Int), b ≤ to.length ∧ k = .int .i64 (b : Int) ∧ IntsN wr wo.heap.size to.length f ∧ Below wo.heap.size wo wr ∧ RowKit.Hid (∀ j, j < b → f j = DD.domI to j)) (fun k _ => to.length - (intOf k).toNat)
          case atStart => exact ⟨0, _, Nat.zero_le _, rfl, HI0.out, HBZ.out, Lib.hid (fun j hj => absurd hj (Nat.not_lt_zero _))⟩
          case round =>
            obtain ⟨b, f, hbk, rfl, hI, hB3, HF⟩ := hrel
            have HI := Lib.hid hI
            have HB3 := Lib.hid hB3
            clear hI hB3 HI0 HBZ
            by_cases hbt : b < to.length
            · have hcb := World.rowIs.cell HI.out hbt
              have hfb := World.rowIs.frozen HI.out b
              have i1 : (0 : Int) ≤ b ∧ (b : Int) < to.length := by omega
              have HI2 := Lib.hid (HI.out.set b (-1))
              have HB4 := Lib.hid (HB3.out.setCell (p := ⟨wo.heap.size, b, none⟩) (Nat.le_refl _) (.int .i64 (-1)))
              go_wp2_with fail
              clear hcb hfb
              go_loopw [10] (fun k wq => ∃ (a : Nat) (c : Int), a ≤ to.length ∧ k = .int .i64 (a : Int) ∧ IntsN wq wo.heap.size to.length (DD.setI f b c) ∧ Below wo.heap.size wo wq ∧ RowKit.Hid (c = DD.lastN (DD.isB to b) a)) (fun k _ => to.length - (intOf k).toNat)
              case atStart => exact ⟨0, -1, Nat.zero_le _, rfl, HI2.out, HB4.out, Lib.hid rfl⟩
              case round =>
                obtain ⟨a, c, hak, rfl, hI3, hB5, HC⟩ := hrel
                have HI3 := Lib.hid hI3
                have HB5 := Lib.hid hB5
                clear hI3 hB5 HI2 HB4 HI HB3
                by_cases hat : a < to.length
                · have HO5 := Lib.hid (HOD.out.on HB5.out)
                  have i2 : (0 : Int) ≤ a ∧ (a : Int) < to.length := by omega
                  have hca := HO5.out.at_ hat hat
                  have hcab := HO5.out.cell hat hbt
                  have HPS := Lib.hid (fun (q : Nat) (t : Bool) (h : t = (isT to b a && (List.range q).all (isP to b a))) => isT_succ (to := to) (b := b) (a := a) h)
                  have HIS := Lib.hid (fun (q : Nat) (hq : q ≤ to.length) (h : false = (isT to b a && (List.range q).all (isP to b a))) => isB_no (to := to) (b := b) (a := a) hq h)
                  have HIY := Lib.hid (fun (t : Bool) (h : t = (isT to b a && (List.range to.length).all (isP to b a))) => (show t = DD.isB to b a from h))
                  have HTB := Lib.hid (show isT to b a = (decide (a ≠ b) && DD.ovB to a b) from rfl)
                  have hcI := World.rowIs.cell HI3.out hbt
                  have hfI := World.rowIs.frozen HI3.out b
                  have HSET := Lib.hid (show IntsN (wr.setCell ⟨wo.heap.size, b, none⟩ (.int .i64 (a : Int))) wo.heap.size to.length (DD.setI f b (a : Int)) from (HI3.out.set b (a : Int)).congr (fun i _ => by unfold DD.setI; split <;> rfl))
                  have HB6 := Lib.hid (HB5.out.setCell (p := ⟨wo.heap.size, b, none⟩) (Nat.le_refl _) (.int .i64 (a : Int)))
                  have HLY := Lib.hid (fun (h : DD.isB to b a = true) => (show (a : Int) = DD.lastN (DD.isB to b) (a + 1) by rw [DD.lastN, if_pos h]))
                  have HLN := Lib.hid (fun (h : DD.isB to b a = false) => (show c = DD.lastN (DD.isB to b) (a + 1) by rw [DD.lastN, if_neg (by rw [h]; simp)]; exact HC.out))
                  have HT0 : ∃ t0 : Bool, t0 = isT to b a := ⟨_, rfl⟩
                  obtain ⟨t0, ht0⟩ := HT0
                  have HZ := Lib.hid (show t0 = (isT to b a && (List.range 0).all (isP to b a)) by rw [ht0]; simp)
                  have key : ((a : Int) != (b : Int)) = decide (a ≠ b) ∧ (decide (a ≠ b) = true → DD.ovB to a b = t0) ∧ (decide (a ≠ b) = false → t0 = false) := by
                    rw [ht0, HTB.out]
                    by_cases e : a = b
                    · subst e; exact ⟨by simp, fun h => by simp at h, fun _ => by simp⟩
                    · exact ⟨by rw [decide_eq_true e]; exact bne_iff_ne.2 (by omega), fun _ => by rw [decide_eq_true e, Bool.true_and], fun h => by rw [decide_eq_true e] at h; cases h⟩
                  obtain ⟨hq1, hq2, hq3⟩ := key
                  have K2 := Lib.hid hq2
                  have K3 := Lib.hid hq3
                  clear hq2 hq3 ht0
                  cases hd : decide (a ≠ b)
                  all_goals
                    rw [hd] at hq1 K2 K3
                  · have HT := Lib.hid (K3.out rfl)
                    clear K2 K3 hd hca hcab
                    rw [HT.out] at HZ
                    clear HT
                    go_wp2_with fail
                    go_loop [11, 12] (fun u k => ∃ (q : Nat) (t : Bool), q ≤ to.length ∧ u = .bool t ∧ k = .int .i64 (q : Int) ∧ RowKit.Hid (t = (isT to b a && (List.range q).all (isP to b a)))) (fun _ k => to.length - (intOf k).toNat)
                    case atStart => exact ⟨0, _, Nat.zero_le _, rfl, rfl, HZ⟩
                    case round =>
                      obtain ⟨q, t, hq, rfl, rfl, HQ⟩ := hrel
                      cases t
                      · have HNO := Lib.hid (HLN.out (HIS.out q hq HQ.out))
                        by_cases hqt : q < to.length
                        · go_wp2_with fail
                          go_roundw
                          case rel => exact ⟨a + 1, c, by omega, by go_num, HI3.out, HB5.out, HNO⟩
                          case measure => simp [intOf]; omega
                        · go_wp2_with fail
                          go_roundw
                          case rel => exact ⟨a + 1, c, by omega, by go_num, HI3.out, HB5.out, HNO⟩
                          case measure => simp [intOf]; omega
                      · by_cases hqt : q < to.length
                        · have hk1 := HO5.out.at_ hqt hqt
                          have hk2 := HO5.out.cell hqt hbt
                          have hk3 := HO5.out.cell hqt hat
                          have i4 : (0 : Int) ≤ q ∧ (q : Int) < to.length := by omega
                          have HQ2 := Lib.hid (HPS.out q true HQ.out)
                          by_cases hqb : q = b
                          · subst hqb
                            have hbb : ((q : Int) == (q : Int)) = true := beq_self_eq_true _
                            have HN := Lib.hid (show true = (isT to q a && (List.range (q + 1)).all (isP to q a)) by rw [← HQ2.out]; unfold isP; simp)
                            go_wp2_with fail
                            go_round
                            case rel => exact ⟨q + 1, true, by omega, rfl, by go_num, HN⟩
                            case measure => simp [intOf]; omega
                          · have hbb : ((q : Int) == (b : Int)) = false := beq_eq_false_iff_ne.2 (by omega)
                            cases hv : DD.ovB to q b
                            · have HN := Lib.hid (show true = (isT to b a && (List.range (q + 1)).all (isP to b a)) by rw [← HQ2.out]; unfold isP; rw [hv]; simp)
                              rw [hv] at hk2
                              clear hv
                              go_wp2_with fail
                              go_round
                              case rel => exact ⟨q + 1, true, by omega, rfl, by go_num, HN⟩
                              case measure => simp [intOf]; omega
                            · have HN := Lib.hid (show DD.ovB to q a = (isT to b a && (List.range (q + 1)).all (isP to b a)) by rw [← HQ2.out]; unfold isP; rw [hv, decide_eq_false hqb]; simp)
                              rw [hv] at hk2
                              clear hv
                              go_wp2_with fail
                              go_round
                              case rel => exact ⟨q + 1, _, by omega, rfl, by go_num, HN⟩
                              case measure => simp [intOf]; omega
                        · have HYS := Lib.hid (HLY.out (HIY.out true (by have h := HQ.out; rwa [show q = to.length by omega] at h)).symm)
                          go_wp2_with fail
                          go_roundw
                          case rel => exact ⟨a + 1, (a : Int), by omega, by go_num, HSET.out, HB6.out, HYS⟩
                          case measure => simp [intOf]; omega
                  · have HT := Lib.hid (K2.out rfl)
                    clear K2 K3 hd
                    rw [HT.out] at hcab
                    clear HT
                    go_wp2_with fail
                    clear hca hcab
                    go_loop [11, 12] (fun u k => ∃ (q : Nat) (t : Bool), q ≤ to.length ∧ u = .bool t ∧ k = .int .i64 (q : Int) ∧ RowKit.Hid (t = (isT to b a && (List.range q).all (isP to b a)))) (fun _ k => to.length - (intOf k).toNat)
                    case atStart => exact ⟨0, _, Nat.zero_le _, rfl, rfl, HZ⟩
                    case round =>
                      obtain ⟨q, t, hq, rfl, rfl, HQ⟩ := hrel
                      cases t
                      · have HNO := Lib.hid (HLN.out (HIS.out q hq HQ.out))
                        by_cases hqt : q < to.length
                        · go_wp2_with fail
                          go_roundw
                          case rel => exact ⟨a + 1, c, by omega, by go_num, HI3.out, HB5.out, HNO⟩
                          case measure => simp [intOf]; omega
                        · go_wp2_with fail
                          go_roundw
                          case rel => exact ⟨a + 1, c, by omega, by go_num, HI3.out, HB5.out, HNO⟩
                          case measure => simp [intOf]; omega
                      · by_cases hqt : q < to.length
                        · have hk1 := HO5.out.at_ hqt hqt
                          have hk2 := HO5.out.cell hqt hbt
                          have hk3 := HO5.out.cell hqt hat
                          have i4 : (0 : Int) ≤ q ∧ (q : Int) < to.length := by omega
                          have HQ2 := Lib.hid (HPS.out q true HQ.out)
                          by_cases hqb : q = b
                          · subst hqb
                            have hbb : ((q : Int) == (q : Int)) = true := beq_self_eq_true _
                            have HN := Lib.hid (show true = (isT to q a && (List.range (q + 1)).all (isP to q a)) by rw [← HQ2.out]; unfold isP; simp)
                            go_wp2_with fail
                            go_round
                            case rel => exact ⟨q + 1, true, by omega, rfl, by go_num, HN⟩
                            case measure => simp [intOf]; omega
                          · have hbb : ((q : Int) == (b : Int)) = false := beq_eq_false_iff_ne.2 (by omega)
                            cases hv : DD.ovB to q b
                            · have HN := Lib.hid (show true = (isT to b a && (List.range (q + 1)).all (isP to b a)) by rw [← HQ2.out]; unfold isP; rw [hv]; simp)
                              rw [hv] at hk2
                              clear hv
                              go_wp2_with fail
                              go_round
                              case rel => exact ⟨q + 1, true, by omega, rfl, by go_num, HN⟩
                              case measure => simp [intOf]; omega
                            · have HN := Lib.hid (show DD.ovB to q a = (isT to b a && (List.range (q + 1)).all (isP to b a)) by rw [← HQ2.out]; unfold isP; rw [hv, decide_eq_false hqb]; simp)
                              rw [hv] at hk2
                              clear hv
                              go_wp2_with fail
                              go_round
                              case rel => exact ⟨q + 1, _, by omega, rfl, by go_num, HN⟩
                              case measure => simp [intOf]; omega
                        · have HYS := Lib.hid (HLY.out (HIY.out true (by have h := HQ.out; rwa [show q = to.length by omega] at h)).symm)
                          go_wp2_with fail
                          go_roundw
                          case rel => exact ⟨a + 1, (a : Int), by omega, by go_num, HSET.out, HB6.out, HYS⟩
                          case measure => simp [intOf]; omega
                · have HDN := Lib.hid (show ∀ j, j < b + 1 → DD.setI f b c j = DD.domI to j from fun j hj => by
                    unfold DD.setI
                    by_cases e : j = b
                    · subst e
                      rw [if_pos rfl, HC.out, show a = to.length by omega]; rfl
                    · rw [if_neg e]; exact HF.out j (by omega))
                  go_wp2_with fail
                  go_roundw
                  case rel => exact ⟨b + 1, _, by omega, by go_num, HI3.out, HB5.out, HDN⟩
                  case measure => simp [intOf]; omega
            · have HRW := Lib.hid (show Row wr.heap.size wr (.slice (some ⟨wo.heap.size, 0, none⟩) to.length to.length) (DD.treeL to) by
                rw [HE.out]
                exact (HI.out.congr (fun j hj => HF.out j (by omega))).row)
              go_wp2_with fail
              go_ret
              exact ⟨_, rfl, HRW.out, HBW.out.trans (HB3.out.mono HBW.out.size)⟩
end Go.Proofs.Ytbdmpilaeoclgaa
