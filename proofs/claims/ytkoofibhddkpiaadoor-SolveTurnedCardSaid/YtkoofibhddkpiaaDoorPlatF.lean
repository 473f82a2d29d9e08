import Derived.Test.YtkoofibhddkpiaaDoorPlatE
import Derived.Test.YtkoofibhddkpiaaDoorMarks
import Derived.Test.YtkoofibhddkpiaaDoorRound
import Derived.Deep.QuietTactic
import Derived.BigQuiet
import Derived.Sort.QuietIn
import Derived.Deep.RegionWith
set_option linter.unusedSimpArgs false
set_option linter.unusedVariables false
/-! the walk of layer 5's nearest -/
namespace Go.Proofs.YtkoofibhddkpiaaDoor
open Go.RowKit Go.Shelf
attribute [local go_sem] Oper.semAt_some

theorem way1_q {Bt Bu i n₀ : Nat} {xs : List Int} {t : Bool} {y : Int} {W : World} (HW : RowKit.Hid (Way n₀ W Bt Bu xs t)) (HX : RowKit.Hid (Wide xs)) (hl : xs.length ≤ 64) (hi : i < xs.length) (hy : RowKit.Hid ((beyL xs t)[i]?.getD 0 = y)) (n : Nat) :
    Calls Tryd.prog 35 #[.int .i64 i, .pointer (some ⟨Bt, 0, none⟩), .pointer (some ⟨Bu, 0, none⟩)] (W.drewN n) fun e w' => e = .returned (.int .u64 y) ∧ ∃ k, w' = W.drewN k :=
  (way1_any Bt Bu i n₀ xs t (W.drewN n) (HW.out.below ⟨rfl, rfl, rfl, Nat.le_refl _, fun _ _ => rfl⟩) HX.out hl hi).mono fun e w' h' => ⟨by rw [h'.1, hy.out], n, h'.2⟩
attribute [local simp] wide_fn_round

set_option maxRecDepth 100000 in
set_option maxHeartbeats 8000000 in
theorem nearest_any (Bt Bu a b n₀ : Nat) (xs : List Int) (t : Bool) (w : World) (h : Way n₀ w Bt Bu xs t) (hn : n₀ ≤ w.heap.size) (hx : Wide xs) (ho : LL.ordB xs = true) (ha : a < xs.length) (hb : b < xs.length) (hT : Tz w) :
    Calls Tryd.prog 27 #[.int .i64 a, .int .i64 b, wayF Bt Bu] w fun e w' => e = nearE (LL.joinI (beyL xs t) a b) ∧ Below w.heap.size w w' := by
  have HW := Lib.hid h
  have HX := Lib.hid hx
  have HO := Lib.hid (bey_ord ho hx t)
  have HBx := Lib.hid (bey_wide hx t)
  have hl := (LL.ord_len ho).2
  have HL := Lib.hid (bey_len xs t)
  have hG := hT.lt
  clear h hx ho
  unfold wayF
  refine (callsIn_wide (n := 5)).1 ?_
  refine callsIn_of_wp_marks Tryd.func27 rfl trivial ?_ rfl
  simp only [Tryd.ntmps27, List.size_toArray, List.length_cons, List.length_nil, Nat.reduceAdd, Nat.reduceSub, Array.replicate_succ, Array.replicate_zero, List.push_toArray, List.append_toArray, List.nil_append, List.cons_append]
  refine wpIn_mono (Q := noPanic _) ?_ noPanic_of
  gi_wp2
  rename_i Q' K hK
  have hB3 := (((Below.refl w.heap.size w).alloc (Nat.le_refl _) (.cells #[.func (.func 35) #[] #[.pointer (some ⟨Bt, 0, none⟩), .pointer (some ⟨Bu, 0, none⟩)]] 60)).alloc (by simp) (.cells #[.int .i64 0] 3)).alloc (by simp; omega) (.cells #[.bool false] 4)
  have hcl : (((w.alloc (.cells #[.func (.func 35) #[] #[.pointer (some ⟨Bt, 0, none⟩), .pointer (some ⟨Bu, 0, none⟩)]] 60)).alloc (.cells #[.int .i64 0] 3)).alloc (.cells #[.bool false] 4)).cell? ⟨w.heap.size, 0, none⟩ = some (.func (.func 35) #[] #[.pointer (some ⟨Bt, 0, none⟩), .pointer (some ⟨Bu, 0, none⟩)]) :=
    cell_alloc_l _ (cell_alloc_l _ (cell_new_l w _ _).1)
  have hr1 : (((w.alloc (.cells #[.func (.func 35) #[] #[.pointer (some ⟨Bt, 0, none⟩), .pointer (some ⟨Bu, 0, none⟩)]] 60)).alloc (.cells #[.int .i64 0] 3)).alloc (.cells #[.bool false] 4)).cell? ⟨w.heap.size + 1, 0, none⟩ = some (.int .i64 0) ∧ (((w.alloc (.cells #[.func (.func 35) #[] #[.pointer (some ⟨Bt, 0, none⟩), .pointer (some ⟨Bu, 0, none⟩)]] 60)).alloc (.cells #[.int .i64 0] 3)).alloc (.cells #[.bool false] 4)).frozen? ⟨w.heap.size + 1, 0, none⟩ = false := by
    have h := cell_new_l (w.alloc (.cells #[.func (.func 35) #[] #[.pointer (some ⟨Bt, 0, none⟩), .pointer (some ⟨Bu, 0, none⟩)]] 60)) (.int .i64 0) 3
    rw [World.size_alloc] at h
    exact ⟨cell_alloc_l _ h.1, frozen_alloc_l _ h.1 h.2⟩
  have hr2 : (((w.alloc (.cells #[.func (.func 35) #[] #[.pointer (some ⟨Bt, 0, none⟩), .pointer (some ⟨Bu, 0, none⟩)]] 60)).alloc (.cells #[.int .i64 0] 3)).alloc (.cells #[.bool false] 4)).cell? ⟨w.heap.size + 1 + 1, 0, none⟩ = some (.bool false) ∧ (((w.alloc (.cells #[.func (.func 35) #[] #[.pointer (some ⟨Bt, 0, none⟩), .pointer (some ⟨Bu, 0, none⟩)]] 60)).alloc (.cells #[.int .i64 0] 3)).alloc (.cells #[.bool false] 4)).frozen? ⟨w.heap.size + 1 + 1, 0, none⟩ = false := by
    have h := cell_new_l ((w.alloc (.cells #[.func (.func 35) #[] #[.pointer (some ⟨Bt, 0, none⟩), .pointer (some ⟨Bu, 0, none⟩)]] 60)).alloc (.cells #[.int .i64 0] 3)) (.bool false) 4
    rw [World.size_alloc, World.size_alloc] at h
    exact h
  obtain ⟨W3, hW3⟩ : ∃ W3, ((w.alloc (.cells #[.func (.func 35) #[] #[.pointer (some ⟨Bt, 0, none⟩), .pointer (some ⟨Bu, 0, none⟩)]] 60)).alloc (.cells #[.int .i64 0] 3)).alloc (.cells #[.bool false] 4) = W3 := ⟨_, rfl⟩
  rw [hW3] at hB3 hcl hr1 hr2 ⊢
  have HW3 := Lib.hid (HW.out.below (hB3.mono hn))
  have HSz := Lib.hid (show W3.heap.size = w.heap.size + 3 by rw [← hW3]; simp)
  have hsz3 : W3.heap.size = w.heap.size + 3 := HSz.out
  have hbI := LL.both_bd HBx.out a b
  have HBI := Lib.hid (show bits .and .u64 ((beyL xs t)[a]?.getD 0) ((beyL xs t)[b]?.getD 0) = LL.bothI (beyL xs t) a b from rfl)
  obtain ⟨ya, hya⟩ : ∃ y, (beyL xs t)[a]?.getD 0 = y := ⟨_, rfl⟩
  obtain ⟨yb, hyb⟩ : ∃ y, (beyL xs t)[b]?.getD 0 = y := ⟨_, rfl⟩
  rw [hya, hyb] at HBI
  have HYA := Lib.hid hya
  have HYB := Lib.hid hyb
  clear hya hyb
  have HK : Exit.then K Q' Exit.normal { tmps := #[.int .i64 a, .int .i64 b, .func (.func 35) #[] #[.pointer (some ⟨Bt, 0, none⟩), .pointer (some ⟨Bu, 0, none⟩)], undef, undef, .pointer (some ⟨w.heap.size, 0, none⟩), .pointer (some ⟨w.heap.size + 1, 0, none⟩), .pointer (some ⟨w.heap.size + 1 + 1, 0, none⟩), .pointer (some ⟨w.heap.size + 3, 0, none⟩), undef,
      .func (.func 35) #[] #[.pointer (some ⟨Bt, 0, none⟩), .pointer (some ⟨Bu, 0, none⟩)], .int .i64 a, .int .u64 ya, .func (.func 35) #[] #[.pointer (some ⟨Bt, 0, none⟩), .pointer (some ⟨Bu, 0, none⟩)], .int .i64 b, .int .u64 yb, .int .u64 (bits .and .u64 ya yb), undef, undef, undef, undef, undef, undef, undef, undef, undef], defers := [] }
      (W3.alloc (.cells #[.int .u64 (bits .and .u64 ya yb)] 47)).drew := by
    show K _ _
    apply hK
    clear hK
    have hbB : (W3.alloc (.cells #[.int .u64 (bits .and .u64 ya yb)] 47)).drew.cell? ⟨w.heap.size + 3, 0, none⟩ = some (.int .u64 (bits .and .u64 ya yb)) := by
      have h := (cell_new_l W3 (.int .u64 (bits .and .u64 ya yb)) 47).1
      rw [hsz3] at h; exact h
    have hcl4 : (W3.alloc (.cells #[.int .u64 (bits .and .u64 ya yb)] 47)).drew.cell? ⟨w.heap.size, 0, none⟩ = some (.func (.func 35) #[] #[.pointer (some ⟨Bt, 0, none⟩), .pointer (some ⟨Bu, 0, none⟩)]) := cell_alloc_l (W := W3) _ hcl
    have hr14 : (W3.alloc (.cells #[.int .u64 (bits .and .u64 ya yb)] 47)).drew.cell? ⟨w.heap.size + 1, 0, none⟩ = some (.int .i64 0) ∧ (W3.alloc (.cells #[.int .u64 (bits .and .u64 ya yb)] 47)).drew.frozen? ⟨w.heap.size + 1, 0, none⟩ = false := ⟨cell_alloc_l (W := W3) _ hr1.1, frozen_alloc_l (W := W3) _ hr1.1 hr1.2⟩
    have hr24 : (W3.alloc (.cells #[.int .u64 (bits .and .u64 ya yb)] 47)).drew.cell? ⟨w.heap.size + 1 + 1, 0, none⟩ = some (.bool false) ∧ (W3.alloc (.cells #[.int .u64 (bits .and .u64 ya yb)] 47)).drew.frozen? ⟨w.heap.size + 1 + 1, 0, none⟩ = false := ⟨cell_alloc_l (W := W3) _ hr2.1, frozen_alloc_l (W := W3) _ hr2.1 hr2.2⟩
    have hB4 : Below w.heap.size w (W3.alloc (.cells #[.int .u64 (bits .and .u64 ya yb)] 47)).drew := (hB3.alloc (by omega) _).drew
    have hsz4 : (W3.alloc (.cells #[.int .u64 (bits .and .u64 ya yb)] 47)).drew.heap.size = w.heap.size + 4 := by show (W3.alloc _).heap.size = _; rw [World.size_alloc, hsz3]
    rw [HBI.out] at hbB hcl4 hr14 hr24 hB4 hsz4 ⊢
    generalize (W3.alloc (.cells #[.int .u64 (LL.bothI (beyL xs t) a b)] 47)).drew = W4 at hbB hcl4 hr14 hr24 hB4 hsz4 ⊢
    clear hB3 hcl hr1 hr2 hW3
    gi_wp2_with (refine ⟨trivial, ?_⟩; gi_at_call 33; refine (callsIn_wide.2 (all_any _ _)).mono ?_; rintro e w' ⟨rfl, rfl⟩)
    have hb5 := cell_new_l W4 (.int .u64 (LL.bothI (beyL xs t) a b)) 47
    rw [hsz4] at hb5
    have hXl : ∀ x : Nat, MM.hasB (LL.bothI (beyL xs t) a b) (x : Int) = true → x < xs.length := by
      intro x hx
      rw [LL.both_has HBx.out, Bool.and_eq_true] at hx
      have := (LL.ord_at HO.out (by rw [HL.out]; exact ha) hx.1).1
      rw [HL.out] at this; exact this
    refine wpIn_rangeFunc_ownF rfl (by omega) (gf := 39) (lb := #[.pointer (some ⟨w.heap.size + 4, 0, none⟩)]) rfl trivial (enters_of Tryd.func39 (by kernel_rfl) rfl)
      (all_stopsS _ (by omega) (w.heap.size + 4) (LL.bothI (beyL xs t) a b) hbI.1 hbI.2 _ (by rw [World.size_alloc]; omega) hb5.1 ((hT.on hB4).alloc _)) (fun h k => h.trans k) (keptAt_b (by rw [World.size_alloc]; omega)) (Below.refl _ _) (fun _ => rfl)
      (fun pre W => ((W.cell? ⟨w.heap.size, 0, none⟩ = some (.func (.func 35) #[] #[.pointer (some ⟨Bt, 0, none⟩), .pointer (some ⟨Bu, 0, none⟩)]) ∧ W.cell? ⟨w.heap.size + 3, 0, none⟩ = some (.int .u64 (LL.bothI (beyL xs t) a b)) ∧ (W.cell? ⟨w.heap.size + 1, 0, none⟩ = some (.int .i64 0) ∧ W.frozen? ⟨w.heap.size + 1, 0, none⟩ = false) ∧ (W.cell? ⟨w.heap.size + 1 + 1, 0, none⟩ = some (.bool false) ∧ W.frozen? ⟨w.heap.size + 1 + 1, 0, none⟩ = false)) ∧ RowKit.Hid (∀ x ∈ pre, (beyL xs t)[x.1]?.getD 0 ≠ LL.bothI (beyL xs t) a b)) ∧ Below w.heap.size w W)
      (fun c pre W => ((c = .ret ∧ ∃ x : Nat, RowKit.Hid (MM.hasB (LL.bothI (beyL xs t) a b) (x : Int) = true ∧ (beyL xs t)[x]?.getD 0 = LL.bothI (beyL xs t) a b) ∧ W.cell? ⟨w.heap.size + 1, 0, none⟩ = some (.int .i64 (x : Int)) ∧ W.cell? ⟨w.heap.size + 1 + 1, 0, none⟩ = some (.bool true))) ∧ Below w.heap.size w W)
      (OwnFrom.and (Own.from (fun s A B row hs hg hr => ⟨⟨cell_kept hs.1.1 hg hr, cell_kept hs.1.2.1 hg hr, ⟨cell_kept hs.1.2.2.1.1 hg hr, (frozen_kept hs.1.2.2.1.1 hg hr).trans hs.1.2.2.1.2⟩, ⟨cell_kept hs.1.2.2.2.1 hg hr, (frozen_kept hs.1.2.2.2.1 hg hr).trans hs.1.2.2.2.2⟩⟩, hs.2⟩) _) (ownFrom_below (Nat.le_refl _) (by rw [World.size_alloc]; omega)))
      (fun c => OwnFrom.and (Own.from (fun s A B row hs hg hr => ⟨hs.1, by obtain ⟨x, e, h1, h2⟩ := hs.2; exact ⟨x, e, cell_kept h1 hg hr, cell_kept h2 hg hr⟩⟩) _) (ownFrom_below (Nat.le_refl _) (by rw [World.size_alloc]; omega)))
      ⟨⟨⟨cell_alloc_l _ hcl4, cell_alloc_l _ hbB, ⟨cell_alloc_l _ hr14.1, frozen_alloc_l _ hr14.1 hr14.2⟩, ⟨cell_alloc_l _ hr24.1, frozen_alloc_l _ hr24.1 hr24.2⟩⟩, Lib.hid (fun x hx => by cases hx)⟩, hB4.alloc (by omega) _⟩
      (fun x => { tmps := #[.int .i64 a, .int .i64 b, .func (.func 35) #[] #[.pointer (some ⟨Bt, 0, none⟩), .pointer (some ⟨Bu, 0, none⟩)], undef, undef, .pointer (some ⟨w.heap.size, 0, none⟩), .pointer (some ⟨w.heap.size + 1, 0, none⟩), .pointer (some ⟨w.heap.size + 1 + 1, 0, none⟩), .pointer (some ⟨w.heap.size + 3, 0, none⟩), .int .i64 ((x.1 : Nat) : Int), .func (.func 35) #[] #[.pointer (some ⟨Bt, 0, none⟩), .pointer (some ⟨Bu, 0, none⟩)], .int .i64 a, .int .u64 ya, .func (.func 35) #[] #[.pointer (some ⟨Bt, 0, none⟩), .pointer (some ⟨Bu, 0, none⟩)], .int .i64 b, .int .u64 yb, .int .u64 (LL.bothI (beyL xs t) a b), .int .u64 (LL.bothI (beyL xs t) a b), .func (.func 39) #[] #[.pointer (some ⟨w.heap.size + 4, 0, none⟩)], .int .i64 ((x.1 : Nat) : Int), undef, undef, undef, undef, undef, undef], defers := [] }) ?assign ?body ?done ?stop
    case assign =>
      intro l x W K hK
      gi_wp2
      exact hK
    case body =>
      rintro l pre x W ⟨⟨⟨hc0, hcb, ⟨hc1, hf1⟩, hc2, hf2⟩, HP⟩, hB⟩ hlt
      obtain ⟨x, hxm⟩ := x
      have hxl := hXl x hxm
      have HWr := Lib.hid (HW.out.below (hB.mono hn))
      obtain ⟨yx, hyx⟩ : ∃ y, (beyL xs t)[x]?.getD 0 = y := ⟨_, rfl⟩
      have HYX := Lib.hid hyx
      have HXM := Lib.hid hxm
      obtain ⟨bo, hbo⟩ : ∃ y, LL.bothI (beyL xs t) a b = y := ⟨_, rfl⟩
      have HBo := Lib.hid hbo
      rw [hbo] at hcb
      clear hyx
      cases he : (yx == bo)
      · have HN := Lib.hid (show ∀ z ∈ pre ++ [(⟨x, hxm⟩ : InS (LL.bothI (beyL xs t) a b))], (beyL xs t)[z.1]?.getD 0 ≠ LL.bothI (beyL xs t) a b from fun z hz => by
          rcases List.mem_append.1 hz with h | h
          · exact HP.out z h
          · obtain rfl := List.mem_singleton.1 h
            show (beyL xs t)[x]?.getD 0 ≠ _
            rw [HYX.out, HBo.out]
            exact beq_eq_false_iff_ne.1 he)
        clear hbo
        gi_wp2
        refine region_round (by kernel_rfl) (by kernel_rfl) (by kernel_rfl) ?_
        repeat (gi_big_quiet_step ((gi_at_call 35; exact CallsIn.inRound l (callsIn_wide.2 (way1_q HWr HX hl hxl HYX _)))))
        refine wpQuietIn_nil ?_
        intro _ hw'
        obtain ⟨nq, hw''⟩ := hw'
        subst hw''
        gi_wp2
        exact ⟨⟨Nat.le_refl _, fun _ _ h _ => h⟩, rfl, ⟨⟨hc0, by rw [HBo.out]; exact hcb, ⟨hc1, hf1⟩, hc2, hf2⟩, HN⟩, below_drewN hB nq⟩
      · have HE := Lib.hid (show MM.hasB (LL.bothI (beyL xs t) a b) (x : Int) = true ∧ (beyL xs t)[x]?.getD 0 = LL.bothI (beyL xs t) a b from ⟨hxm, by rw [HYX.out, HBo.out]; exact beq_iff_eq.1 he⟩)
        clear hbo
        gi_wp2
        refine region_round (by kernel_rfl) (by kernel_rfl) (by kernel_rfl) ?_
        repeat (gi_big_quiet_step ((gi_at_call 35; exact CallsIn.inRound l (callsIn_wide.2 (way1_q HWr HX hl hxl HYX _)))))
        refine wpQuietIn_nil ?_
        intro _ hw'
        obtain ⟨nq, hw''⟩ := hw'
        subst hw''
        have hc14 : (W.drewN nq).cell? ⟨w.heap.size + 1, 0, none⟩ = some (.int .i64 0) := hc1
        have hf14 : (W.drewN nq).frozen? ⟨w.heap.size + 1, 0, none⟩ = false := hf1
        have hc24 : (W.drewN nq).cell? ⟨w.heap.size + 1 + 1, 0, none⟩ = some (.bool false) := hc2
        have hf24 : (W.drewN nq).frozen? ⟨w.heap.size + 1 + 1, 0, none⟩ = false := hf2
        have hB4' := below_drewN hB nq
        have hK4 : KeepsOthers W (W.drewN nq) := ⟨Nat.le_refl _, fun _ _ h _ => h⟩
        generalize W.drewN nq = W6 at hc14 hf14 hc24 hf24 hB4' hK4 ⊢
        gi_wp2
        exact ⟨hK4.trans ((KeepsOthers.setCell _ _ _).trans (KeepsOthers.setCell _ _ _)), ⟨rfl, x, HE, (World.cell?_setCell_other _ _ _ _ (by simp)).trans (World.cell?_setCell_same' _ _ _ (by rw [hc14]; rfl)), World.cell?_setCell_same' _ _ _ (by rw [World.cell?_setCell_other _ _ _ _ (by simp), hc24]; rfl)⟩, (hB4'.setCell (p := ⟨w.heap.size + 1, 0, none⟩) (by simp) _).setCell (p := ⟨w.heap.size + 1 + 1, 0, none⟩) (by simp; omega) _⟩
    case done =>
      rintro D ys W hD hys ⟨⟨⟨hc0, hcb, ⟨hc1, hf1⟩, hc2, hf2⟩, HP⟩, hB⟩ hK
      have HR := Lib.hid (show LL.joinI (beyL xs t) a b = -1 from LL.near_none HO.out HBx.out (by rw [HL.out]; exact ha) (by rw [HL.out]; exact hb) fun k hk => by
        rw [← hys] at hk
        obtain ⟨z, hz, rfl⟩ := List.mem_map.1 hk
        exact HP.out z hz)
      clear hys
      gi_wp2
      have hK' := ((KeepsOthers.setCell W ⟨w.heap.size + 1, 0, none⟩ (.int .i64 0)).trans (KeepsOthers.setCell _ ⟨w.heap.size + 1 + 1, 0, none⟩ (.bool false))).same D _ hK rfl
      refine ⟨by simp, .inl ⟨_, _, rfl, run_takeDeferred hK', ?_⟩⟩
      have h1 : ((W.setCell ⟨w.heap.size + 1, 0, none⟩ (.int .i64 0)).setCell ⟨w.heap.size + 1 + 1, 0, none⟩ (.bool false)).cell? ⟨w.heap.size + 1, 0, none⟩ = some (.int .i64 0) :=
        (World.cell?_setCell_other _ _ _ _ (by simp)).trans (World.cell?_setCell_same' _ _ _ (by rw [hc1]; rfl))
      have h2 : ((W.setCell ⟨w.heap.size + 1, 0, none⟩ (.int .i64 0)).setCell ⟨w.heap.size + 1 + 1, 0, none⟩ (.bool false)).cell? ⟨w.heap.size + 1 + 1, 0, none⟩ = some (.bool false) :=
        World.cell?_setCell_same' _ _ _ (by rw [World.cell?_setCell_other _ _ _ _ (by simp), hc2]; rfl)
      have h1' := cell_kept h1 (grownBy_putObj' _ D (.deferred none)) (fun r e => (by cases e; exact ⟨_, hK', rfl⟩))
      have h2' := cell_kept h2 (grownBy_putObj' _ D (.deferred none)) (fun r e => (by cases e; exact ⟨_, hK', rfl⟩))
      refine ⟨.tuple #[.int .i64 0, .bool false], ?_, by rw [HR.out]; exact nearE_no, ((hB.setCell (p := ⟨w.heap.size + 1, 0, none⟩) (by simp) _).setCell (p := ⟨w.heap.size + 1 + 1, 0, none⟩) (by simp; omega) _).trans (belowK_b (w := w) (Nat.le_refl _) _ D _ _ (by rw [World.size_alloc] at hD; omega) hK' rfl rfl)⟩
      simp [results, Tryd.f27, go_sem, h1', h2']
    case stop =>
      rintro D c pre W hD hpre ⟨⟨rfl, x, HE, hc1, hc2⟩, hB⟩ hK
      have HR := Lib.hid (LL.near_hit HO.out HBx.out (by rw [HL.out]; exact ha) (by rw [HL.out]; exact hb) HE.out.1 HE.out.2)
      clear hpre
      gi_wp2
      refine ⟨by simp, .inl ⟨_, _, rfl, run_takeDeferred hK, ?_⟩⟩
      have h1' := cell_kept hc1 (grownBy_putObj' _ D (.deferred none)) (fun r e => (by cases e; exact ⟨_, hK, rfl⟩))
      have h2' := cell_kept hc2 (grownBy_putObj' _ D (.deferred none)) (fun r e => (by cases e; exact ⟨_, hK, rfl⟩))
      refine ⟨.tuple #[.int .i64 (x : Int), .bool true], ?_, by rw [HR.out]; exact nearE_yes x, hB.trans (belowK_b (w := w) (Nat.le_refl _) W D _ _ (by rw [World.size_alloc] at hD; omega) hK rfl rfl)⟩
      simp [results, Tryd.f27, go_sem, h1', h2']
  --DEV
  clear hr1 hr2 hbI HBI HSz hB3 hT hG HO HBx HL HW hW3
  gi_region_with (refine ⟨trivial, ?_⟩; gi_at_call 35; refine (callsIn_wide.2 (way1_any Bt Bu _ n₀ xs t _ (by first | exact HW3.out | exact HW3.out.drew | exact HW3.out.below ((Below.refl _ _).alloc (by omega) _) | exact (HW3.out.below ((Below.refl _ _).alloc (by omega) _)).drew | exact (HW3.out.drew.below ((Below.refl _ _).alloc (by show n₀ ≤ W3.heap.size; omega) _)) | exact (HW3.out.drew.below ((Below.refl _ _).alloc (by show n₀ ≤ W3.heap.size; omega) _)).drew) HX.out hl (by first | exact ha | exact hb))).mono ?_; rintro e w' ⟨rfl, rfl⟩; first | rw [HYA.out] | rw [HYB.out])
  all_goals exact HK
end Go.Proofs.YtkoofibhddkpiaaDoor
