import Derived.Test.YtbelhoeailjkkaaCalA
set_option linter.unusedSimpArgs false
set_option linter.unusedVariables false
/-! calls: the reference's Reaches, group, Groups -/
namespace Go.Proofs.Ytbelhoeailjkkaa
open Go.RowKit CC
set_option maxHeartbeats 1600000 in
theorem crin_any {n₀ : Nat} {v : Value} {l : List Int} (x : Int) (W : World) (hv : Row n₀ W v l) (hl : l.length ≤ 17592186044416) :
    Calls Try.prog 18 #[v, .int .i64 x] W fun e W' => e = .returned (.bool (decide (x ∈ l))) ∧ W' = W := by
  have HV := Lib.hid hv
  obtain ⟨va, vc, rfl⟩ := hv.form
  clear hv
  go_enter Try.func18, Try.ntmps18
  go_wp2_with fail
  go_loop [5] (fun k => ∃ q : Nat, q ≤ l.length ∧ k = .int .i64 (q : Int) ∧ RowKit.Hid (∀ i, i < q → l[i]?.getD 0 ≠ x)) (fun k => l.length - (intOf k).toNat)
  case atStart => exact ⟨0, Nat.zero_le _, rfl, Lib.hid (fun i hi => absurd hi (Nat.not_lt_zero _))⟩
  case round =>
    obtain ⟨q, hq, rfl, HN⟩ := hrel
    by_cases hqt : q < l.length
    · obtain ⟨lb, lo, rfl, hc⟩ := HV.out.cellAt hqt
      have i1 : (0 : Int) ≤ q ∧ (q : Int) < l.length := by omega
      obtain ⟨y, ey⟩ : ∃ y, y = l[q]?.getD 0 := ⟨_, rfl⟩
      by_cases he : y = x
      · have HS := Lib.hid (show decide (x ∈ l) = true from decide_eq_true (by rw [← he, ey]; exact GG.getD_mem hqt))
        have hb : (y == x) = true := by rw [he]; exact beq_self_eq_true _
        rw [← ey] at hc
        clear ey he
        go_wp2_with fail
        go_ret
        exact ⟨ret_bool HS.out.symm, rfl⟩
      · have HNX := Lib.hid (show ∀ i, i < q + 1 → l[i]?.getD 0 ≠ x from fun i hi => (Nat.lt_succ_iff_lt_or_eq.1 hi).elim (fun h => HN.out i h) (fun e => by rw [e, ← ey]; exact he))
        have hb : (y == x) = false := beq_eq_false_iff_ne.2 he
        rw [← ey] at hc
        clear ey he
        go_wp2_with fail
        go_round
        case rel => exact ⟨q + 1, by omega, by go_num, HNX⟩
        case measure => simp [intOf]; omega
    · have HS := Lib.hid (show decide (x ∈ l) = false from decide_eq_false (fun h => by
        obtain ⟨i, hi, e⟩ := List.mem_iff_getElem.1 h
        exact HN.out i (by omega) (by rw [List.getElem?_eq_getElem hi, Option.getD_some, e])))
      go_wp2_with fail
      go_ret
      exact ⟨ret_bool HS.out.symm, rfl⟩

/-- the reference's table, as far as row i -/
structure ReachT (W : World) (n i : Nat) (L : Nat → Nat → Bool) (V : World) (f : Nat → Value) : Prop where
  below : Below W.heap.size W V
  tab : V.rowIs W.heap.size 31 n f
  rows : ∀ j, j < i → ∃ rb, f j = .slice (some ⟨rb, 0, none⟩) n n ∧ W.heap.size < rb ∧ FlagsN V rb n (L j)
theorem ReachT.next {W V w1 : World} {n i rb : Nat} {L : Nat → Nat → Bool} {f : Nat → Value} (h : ReachT W n i L V f) (hb : Below V.heap.size V w1) (hr : FlagsN w1 rb n (L i)) (hrb : V.heap.size ≤ rb) :
    ReachT W n (i + 1) L (w1.setCell ⟨W.heap.size, i, none⟩ (.slice (some ⟨rb, 0, none⟩) n n)) (fun j => if j = i then .slice (some ⟨rb, 0, none⟩) n n else f j) := by
  have hlt := World.rowIs.lt h.tab
  have h1 : w1.rowIs W.heap.size 31 n f := World.rowIs.of_block h.tab (hb.block _ hlt)
  refine ⟨(h.below.trans (hb.mono h.below.size)).setCell (p := ⟨W.heap.size, i, none⟩) (Nat.le_refl _) _, World.rowIs.congr (World.rowIs.set h1 i _) (fun j _ => by by_cases e : j = i <;> simp [e]), fun j hj => ?_⟩
  by_cases e : j = i
  · subst e
    exact ⟨rb, by rw [if_pos rfl], by omega, World.rowIs.of_block hr (Below.heap_setCell _ _ _ _ (by show rb ≠ W.heap.size; omega))⟩
  · obtain ⟨r, q1, q2, q3⟩ := h.rows j (by omega)
    exact ⟨r, by rw [if_neg e]; exact q1, q2, World.rowIs.of_block q3 ((Below.heap_setCell _ _ _ _ (by show r ≠ W.heap.size; omega)).trans (hb.block _ (World.rowIs.lt q3)))⟩
theorem ReachT.tabB {W V : World} {n : Nat} {L : Nat → Nat → Bool} {f : Nat → Value} (h : ReachT W n n L V f) : BTab V.heap.size V (.slice (some ⟨W.heap.size, 0, none⟩) n n) n n L := by
  refine ⟨(List.range n).map f, .inr ⟨W.heap.size, 0, n, by simp, World.rowIs.lt h.tab, by simp, fun j u hj => ?_⟩, by simp, fun j hj => ?_⟩
  · have hjn : j < n := by have := (List.getElem?_eq_some_iff.1 hj).1; simpa using this
    have : u = f j := by simpa [hjn] using hj.symm
    rw [this, Nat.zero_add]
    exact World.rowIs.cell h.tab hjn
  · obtain ⟨r, q1, q2, q3⟩ := h.rows j hj
    exact ⟨_, by simp [hj, q1], FlagsN.row q3⟩
theorem infoCRow : (Try.prog.info? 31).map (fun i => (i.zero, i.size, i.bytes)) = some (some (.slice none 0 0), 1, 24) := by kernel_rfl

set_option maxRecDepth 100000 in
set_option maxHeartbeats 3200000 in
theorem rreaches_any {v : Value} {to : List (List Int)} (W : World) (hv : GraphM W.heap.size W v to) (hr : GG.rightG to = true) :
    Calls Try.prog 25 #[v] W fun e W' => ∃ u, e = .returned u ∧ BTab W'.heap.size W' u to.length to.length (leadL to) ∧ Below W.heap.size W W' := by
  have hlen := GG.right_len hr
  have HV := Lib.hid hv
  have HR := Lib.hid hr
  obtain ⟨va, vc, rfl⟩ := hv.form
  have hmk := run_make_row' (P := Try.prog) 40 31 (.slice none 0 0) 24 (by kernel_rfl) infoCRow rfl .i64 .i64 to.length (by omega) (by omega)
  have H0 := Lib.hid (show ReachT W to.length 0 (leadL to) (W.alloc (.cells (madeCells #[.slice none 0 0] to.length) 31)) (fun _ => .slice none 0 0) from ⟨(Below.refl _ _).alloc (Nat.le_refl _) _, World.rowIs_made W (.slice none 0 0) to.length 31, fun j hj => absurd hj (Nat.not_lt_zero _)⟩)
  clear hv hr
  go_enter Try.func25, Try.ntmps25
  go_wp2_with fail
  clear hmk
  go_loopw [4] (fun k wr => ∃ i : Nat, i ≤ to.length ∧ k = .int .i64 (i : Int) ∧ RowKit.Hid (∃ f, ReachT W to.length i (leadL to) wr f)) (fun k _ => to.length - (intOf k).toNat)
  case atStart => exact ⟨0, by omega, rfl, Lib.hid ⟨_, H0.out⟩⟩
  case round =>
    obtain ⟨w2, rfl⟩ : ∃ w2, w2 = wr := ⟨_, rfl⟩
    obtain ⟨i, hi, rfl, HH⟩ := hrel
    obtain ⟨f, hf⟩ := HH.out
    have HF := Lib.hid hf
    clear HH hf
    by_cases hlt : i < to.length
    · have i1 : (0 : Int) ≤ i ∧ (i : Int) < to.length := by omega
      go_wp2_with fail
      refine (without_new (to := to) i (-1) w2 (HV.out.on HF.out.below HF.out.below.size) HR.out hlt (by omega)).mono ?_
      rintro e w3 ⟨rfl, hfl, hb⟩
      have HB := Lib.hid hb
      have hc := World.rowIs.cell (World.rowIs.of_block HF.out.tab (hb.block _ (World.rowIs.lt HF.out.tab))) hlt
      have hfz := World.rowIs.frozen (World.rowIs.of_block HF.out.tab (hb.block _ (World.rowIs.lt HF.out.tab))) i
      have HN := Lib.hid (HF.out.next hb hfl (Nat.le_refl _))
      clear hfl hb
      obtain ⟨y, hy⟩ : ∃ y, y = f i := ⟨_, rfl⟩
      rw [← hy] at hc
      clear hy
      go_wp2_with fail
      go_roundw
      case rel => exact ⟨i + 1, by omega, by go_num, Lib.hid ⟨_, HN.out⟩⟩
      case measure => simp [intOf]; omega
    · have HE := Lib.hid (show ReachT W to.length to.length (leadL to) w2 f by have h := HF.out; rwa [show i = to.length by omega] at h)
      go_wp2_with fail
      go_ret
      exact ⟨_, rfl, HE.out.tabB, HE.out.below⟩

set_option maxRecDepth 100000 in
set_option maxHeartbeats 3200000 in
theorem rgroup_any {n₀ : Nat} {bv : Value} {n : Nat} {L : Nat → Nat → Bool} (a : Nat) (W : World) (hb : BTab n₀ W bv n n L) (hn₀ : n₀ ≤ W.heap.size) (ha : a < n) (hn : n ≤ 256) :
    Calls Try.prog 26 #[bv, .int .i64 a] W fun e W' => ∃ u, e = .returned u ∧ W'.ownsRow W.heap.size 3 1 u (grpI L a n).length (intsV (grpI L a n)) ∧ Below W.heap.size W W' := by
  obtain ⟨tb0, tf0, tc0, _, _, _, e0, _⟩ := hb.at ha ha
  subst e0
  have HB := Lib.hid hb
  obtain ⟨i0, hi0, hy0, hy1, hy2⟩ := info_parts Try.infoGInt
  clear hb
  go_enter Try.func26, Try.ntmps26
  go_wp2_with fail
  go_loopw [5, 6] (fun g k wr => ∃ b : Nat, b ≤ n ∧ k = .int .i64 (b : Int) ∧ RowKit.Hid (wr.ownsRow W.heap.size 3 1 g (grpI L a b).length (intsV (grpI L a b)) ∧ Below W.heap.size W wr)) (fun _ k _ => n - (intOf k).toNat)
  case atStart => exact ⟨0, by omega, rfl, Lib.hid ⟨World.ownsRow_nil _ _ _ _, Below.refl _ _⟩⟩
  case round =>
    obtain ⟨w2, rfl⟩ : ∃ w2, w2 = wr := ⟨_, rfl⟩
    obtain ⟨b, hb, rfl, HH⟩ := hrel
    obtain ⟨ga, gc, rfl⟩ := CC.ownOf HH.out.1
    by_cases hlt : b < n
    · have HT := Lib.hid (HB.out.below (HH.out.2.mono hn₀))
      obtain ⟨tb1, tf1, tc1, rb1, rf1, rc1, e1, hr1, hc1⟩ := HT.out.at ha hlt
      cases e1
      obtain ⟨tb2, tf2, tc2, rb2, rf2, rc2, e2, hr2, hc2⟩ := HT.out.at hlt ha
      cases e2
      have i1 : (0 : Int) ≤ a ∧ (a : Int) < n := by omega
      have i2 : (0 : Int) ≤ b ∧ (b : Int) < n := by omega
      have hgl := grpI_len L a b
      cases ht : CC.tog L a b
      · have HS := Lib.hid (show w2.ownsRow W.heap.size 3 1 (.slice ga (grpI L a b).length gc) (grpI L a (b + 1)).length (intsV (grpI L a (b + 1))) ∧ Below W.heap.size W w2 by rw [grpI_no ht]; exact HH.out)
        cases h1 : L a b
        · rw [h1] at hc1
          clear ht h1 hgl
          go_wp2_with fail
          go_roundw
          case rel => exact ⟨b + 1, by omega, by go_num, HS⟩
          case measure => simp [intOf]; omega
        · have h2 : L b a = false := by unfold CC.tog at ht; rw [h1, Bool.true_and] at ht; exact ht
          rw [h1] at hc1
          rw [h2] at hc2
          clear ht h1 h2 hgl
          go_wp2_with fail
          go_roundw
          case rel => exact ⟨b + 1, by omega, by go_num, HS⟩
          case measure => simp [intOf]; omega
      · have h1 := (CC.tog_iff.1 ht).1
        have h2 := (CC.tog_iff.1 ht).2
        rw [h1] at hc1
        rw [h2] at hc2
        have HY := Lib.hid (grpI_yes ht)
        clear ht h1 h2
        have HO := Lib.hid HH.out.1
        have HBL := Lib.hid HH.out.2
        clear HH
        obtain ⟨L1, hL1⟩ : ∃ L1, L1 = grpI L a b := ⟨_, rfl⟩
        rw [← hL1] at hgl HO HY
        rw [← hL1]
        clear hL1
        go_wp2_with (at_builtin
                     refine GG.wpList_append_any rfl _ _ 28 rfl W.heap.size 3 i0 (.int .i64 0) 1 8 Try.underlying28 hi0 hy0 hy1 hy2 rfl (by decide) (.slice ga L1.length gc) L1.length (intsV L1) rfl (HO.out.alloc _) (.slice (some ⟨w2.heap.size, 0, none⟩) 1 1) 1 [.int .i64 (b : Int)] rfl rfl (.inr ⟨_, _, rfl, GG.cell_one _ _ _⟩) (by intro u hu; rw [List.mem_singleton.1 hu]; rfl) (by unfold maxLen; omega) (by omega) (by have := HBL.out.size; simp; omega) ?_
                     intro v1 w3 ho hg
                     have HS := Lib.hid (show w3.ownsRow W.heap.size 3 1 v1 (grpI L a (b + 1)).length (intsV (grpI L a (b + 1))) ∧ Below W.heap.size W w3 from ⟨by rw [HY.out, List.length_append]; simpa [intsV] using ho, (HBL.out.alloc HBL.out.size _).grown hg (by have := HBL.out.size; simp; omega) (fun k e => (HO.out.lt k e).1)⟩)
                     clear ho hg)
        go_roundw
        case rel => exact ⟨b + 1, by omega, by go_num, HS⟩
        case measure => simp [intOf]; omega
    · have HE := Lib.hid (show w2.ownsRow W.heap.size 3 1 (.slice ga (grpI L a b).length gc) (grpI L a n).length (intsV (grpI L a n)) ∧ Below W.heap.size W w2 by
        have h := HH.out
        rwa [show b = n by omega] at h ⊢)
      go_wp2_with fail
      go_ret
      exact ⟨_, rfl, HE.out.1, HE.out.2⟩
end Go.Proofs.Ytbelhoeailjkkaa
