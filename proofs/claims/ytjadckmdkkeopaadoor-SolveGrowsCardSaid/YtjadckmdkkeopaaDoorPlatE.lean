import Derived.Test.YtjadckmdkkeopaaDoorPlatP
import Derived.Test.YtjadckmdkkeopaaDoorMaskG
import Derived.Maps.AppendAt
set_option linter.unusedSimpArgs false
set_option linter.unusedVariables false
/-! the walks of layer 5's above, nearest -/
namespace Go.Proofs.YtjadckmdkkeopaaDoor
open Go.RowKit Go.Shelf
attribute [local go_sem] Oper.semAt_some

set_option maxRecDepth 100000 in
set_option maxHeartbeats 2000000 in
theorem aboveS_any (v : Value) (xs : List Int) (n₀ : Nat) (m : Int) (w : World) (hv : Nums .u64 n₀ w v xs) (hn : n₀ ≤ w.heap.size) (hx : Wide xs) (hl : xs.length ≤ 64) (m0 : 0 ≤ m) (m1 : m ≤ 18446744073709551615)
    (hm : ∀ i : Nat, MM.hasB m (i : Int) = true → i < xs.length) (hT : Tz w) :
    Calls Tryd.prog 79 #[v, .int .u64 m] w fun e w' => e = .returned (.int .u64 (LL.aboveF xs (MM.bitsOf m))) ∧ Below w.heap.size w w' := by
  have HV := Lib.hid hv
  have HX := Lib.hid hx
  obtain ⟨a, cap, rfl⟩ := hv.form
  have hG := hT.lt
  clear hv hx
  refine (callsIn_wide (n := 5)).1 ?_
  refine callsIn_of_wp_marks Tryd.func79 rfl trivial ?_ rfl
  simp only [Tryd.ntmps79, List.size_toArray, List.length_cons, List.length_nil, Nat.reduceAdd, Nat.reduceSub, Array.replicate_succ, Array.replicate_zero, List.push_toArray, List.append_toArray, List.nil_append, List.cons_append]
  gi_wp2_with (refine ⟨trivial, ?_⟩; gi_at_call 66; refine (callsIn_wide.2 (all_any _ _)).mono ?_; rintro e w' ⟨rfl, rfl⟩)
  have hs : ((w.alloc (.cells #[.slice a xs.length cap] 22)).alloc (.cells #[.int .u64 0] 41)).cell? ⟨w.heap.size + 1, 0, none⟩ = some (.int .u64 0) ∧ ((w.alloc (.cells #[.slice a xs.length cap] 22)).alloc (.cells #[.int .u64 0] 41)).frozen? ⟨w.heap.size + 1, 0, none⟩ = false := by
    have := cell_new_l (w.alloc (.cells #[.slice a xs.length cap] 22)) (.int .u64 0) 41
    rw [World.size_alloc] at this; exact this
  have hu := cell_new_l w (.slice a xs.length cap) 22
  have hb := cell_new_l ((w.alloc (.cells #[.slice a xs.length cap] 22)).alloc (.cells #[.int .u64 0] 41)) (.int .u64 m) 41
  rw [World.size_alloc, World.size_alloc] at hb
  refine wpIn_rangeFunc_ownF rfl (by omega) (gf := 86) (lb := #[.pointer (some ⟨w.heap.size + 1 + 1, 0, none⟩)]) rfl trivial (enters_of Tryd.func86 (by kernel_rfl) rfl)
    (all_stopsS _ (by omega) (w.heap.size + 1 + 1) m m0 m1 _ (by simp) hb.1 (((hT.alloc _).alloc _).alloc _)) (fun h k => h.trans k) (keptAt_b (by first | (simp; done) | (simp; omega))) (Below.refl _ _) (fun _ => rfl)
    (fun pre W => ((W.cell? ⟨w.heap.size + 1, 0, none⟩ = some (.int .u64 (LL.aboveF xs (pre.map (·.1)))) ∧ W.frozen? ⟨w.heap.size + 1, 0, none⟩ = false) ∧ W.cell? ⟨w.heap.size, 0, none⟩ = some (.slice a xs.length cap)) ∧ Below w.heap.size w W)
    (fun _ _ _ => False)
    (OwnFrom.and (Own.from (fun s A B row hs hg hr => ⟨⟨cell_kept hs.1.1 hg hr, (frozen_kept hs.1.1 hg hr).trans hs.1.2⟩, cell_kept hs.2 hg hr⟩) _) (ownFrom_below (Nat.le_refl _) (by simp; omega)))
    (fun _ _ _ _ _ hs _ _ => hs)
    ⟨⟨⟨cell_alloc_l _ hs.1, frozen_alloc_l _ hs.1 hs.2⟩, cell_alloc_l _ (cell_alloc_l _ hu.1)⟩, (((Below.refl _ w).alloc (Nat.le_refl _) _).alloc (by simp) _).alloc (by simp; omega) _⟩
    (fun x => { tmps := #[.slice a xs.length cap, .int .u64 m, .pointer (some ⟨w.heap.size, 0, none⟩), undef, .int .u64 0, .pointer (some ⟨w.heap.size + 1, 0, none⟩), .int .i64 ((x.1 : Nat) : Int), .int .u64 m, .func (.func 86) #[] #[.pointer (some ⟨w.heap.size + 1 + 1, 0, none⟩)], .int .i64 ((x.1 : Nat) : Int), undef, undef, undef, undef, undef, undef, undef, undef, undef], defers := [] }) ?assign ?body ?done ?stop
  case assign =>
    intro l x W K hK
    gi_wp2
    exact hK
  case body =>
    rintro l pre x W ⟨⟨⟨hc, hf⟩, hu⟩, hB⟩ hlt
    obtain ⟨x, hxm⟩ := x
    have hxl := hm x hxm
    have HVr := HV.out.below (hB.mono hn)
    obtain ⟨bk, off, cap', e, hbk, hcell⟩ := HVr.at (by omega)
    simp only [Value.slice.injEq] at e
    obtain ⟨rfl, _, rfl⟩ := e
    have hcx := hcell x hxl
    have hXx := HX.out.at x
    have hwb := MM.withoutI_bd (xs[x]?.getD 0) (x : Int) hXx.1 hXx.2
    have hab := LL.aboveF_all HX.out (pre.map (·.1)) (fun i hi => by obtain ⟨y, _, rfl⟩ := List.mem_map.1 hi; exact LL.has_lt y.2)
    have HN := Lib.hid (show LL.aboveF xs ((pre ++ [(⟨x, hxm⟩ : InS m)]).map (·.1)) = bits .or .u64 (LL.aboveF xs (pre.map (·.1))) (MM.withoutI (xs[x]?.getD 0) (x : Int)) by
      rw [List.map_append]; exact LL.aboveF_snoc xs _ x)
    have i1 : (0 : Int) ≤ x ∧ (x : Int) < xs.length := by omega
    have HXx := Lib.hid hXx
    have hab1 := hab.1
    clear hcell hXx hab HVr
    generalize xs[x]?.getD 0 = xx at hcx HN HXx hwb
    generalize LL.aboveF xs (pre.map (·.1)) = mm at hc HN hab1
    gi_wp2
    gi_region_with (refine ⟨trivial, ?_⟩; gi_at_call 93; refine (CallsIn.inRound l (callsIn_wide.2 (without_any _ _ _ HXx.out.1 HXx.out.2))).mono ?_; rintro e w' ⟨rfl, rfl⟩)
    all_goals gi_wp2
    all_goals exact ⟨(KeepsOthers.setCell _ _ _).trans (KeepsOthers.drew _), KeptAt.setCell W _ _ (by show w.heap.size + 1 ≠ tzG; omega),
      ⟨⟨by rw [HN.out]; exact World.cell?_setCell_same' _ _ _ (by rw [hc]; rfl), (World.frozen?_setCell ..).trans hf⟩, (World.cell?_setCell_other W _ _ _ (by simp)).trans hu⟩,
      (hB.setCell (p := ⟨w.heap.size + 1, 0, none⟩) (by simp) _).drew⟩
  case done =>
    rintro D ys W hD hys ⟨⟨⟨hc, _⟩, _⟩, hB⟩ hK
    have HY := Lib.hid hys
    rw [hys] at hc
    clear hys
    gi_wp2
    refine ⟨by simp, .inl ⟨_, _, rfl, run_takeDeferred hK, ?_⟩⟩
    exact ⟨_, results_tmp rfl _ _ _, rfl, hB.trans (belowK_b (w := w) (Nat.le_refl _) W D _ _ (by simp at hD; omega) hK rfl rfl)⟩
  case stop =>
    rintro D c pre W _ _ h _
    exact h.elim
end Go.Proofs.YtjadckmdkkeopaaDoor
