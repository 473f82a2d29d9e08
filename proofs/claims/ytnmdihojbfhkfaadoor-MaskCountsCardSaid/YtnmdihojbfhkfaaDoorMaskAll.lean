import Derived.Test.YtnmdihojbfhkfaaDoorMaskI
import Derived.Test.YtnmdihojbfhkfaaDoorMaskList
import Derived.Maps.AppendAt
/-! the statements' own walk through a set: as many as are wanted -/
namespace Go.Proofs.YtnmdihojbfhkfaaDoor
set_option linter.unusedVariables false
open Go.RowKit Go.Shelf

attribute [local go_sem] Oper.semAt_some

theorem row_mono {W : World} {b b' : Nat} {e : TypeId} {size : Nat} {v : Value} {k : Nat} {xs : List Value} (h : W.ownsRow b e size v k xs) (hb : b' ≤ b) : W.ownsRow b' e size v k xs := by
  obtain ⟨h1, h2 | ⟨g, cap, cur, rfl, hg, r⟩⟩ := h
  · exact ⟨h1, .inl h2⟩
  · exact ⟨h1, .inr ⟨g, cap, cur, rfl, Nat.le_trans hb hg, r⟩⟩
theorem row_grown {W w1 : World} {R : Nat} {e : TypeId} {size : Nat} {v : Value} {k : Nat} {xs : List Value} {tmp : Obj}
    (hrow : W.ownsRow R e size v k xs) (hR : R ≤ W.heap.size) (hgrow : (W.alloc tmp).grownBy w1 v.ownBlock) : Below R W w1 ∧ KeepsOthers W w1 := by
  refine ⟨((Below.refl R W).alloc hR tmp).grown hgrow (by first | (simp; done) | (simp; omega)) (fun j ej => (hrow.lt j ej).1), (KeepsOthers.alloc W tmp).trans (KeepsOthers.of_grownBy hgrow fun j o ej hj => ?_)⟩
  rcases (hrow.alloc tmp).2 with ⟨rfl, _⟩ | ⟨g, cap, cur, rfl, _, hgb, _⟩
  · simp [Value.ownBlock] at ej
  · obtain rfl : g = j := by simpa [Value.ownBlock] using ej
    rw [hgb] at hj; cases hj; rfl
theorem Boxed.below {W w1 : World} {R b : Nat} {t : TypeId} {u : Value} (h : Boxed W b t u) (hb : Below R W w1) (hlt : b < R) : Boxed w1 b t u := (hb.block b hlt).trans h
theorem row_setCell {W : World} {R B : Nat} {e : TypeId} {size : Nat} {v : Value} {k : Nat} {xs : List Value} (h : W.ownsRow R e size v k xs) (hB : B < R) (u : Value) : (W.setCell ⟨B, 0, none⟩ u).ownsRow R e size v k xs :=
  h.kept (grownBy_setCell' W B u) (by
    rcases h.2 with ⟨rfl, _⟩ | ⟨g, cap, cur, rfl, hg, _⟩
    · exact .inl rfl
    · refine .inr fun e' => ?_
      have : g = B := by simpa [Value.ownBlock] using e'
      omega)

/-- between two rounds: the box of what is collected, of the bound, of the set -/
def CollI (b Bs : Nat) (m most : Int) (pre : List Nat) (W : World) : Prop :=
  (∃ v, Boxed W (b + 1) 23 v ∧ W.ownsRow (Bs + 1) 3 1 v (MM.toI pre).length ((MM.toI pre).map (Value.int .i64)) ∧ True) ∧ Boxed W b 3 (.int .i64 most) ∧ Boxed W Bs 22 (.int .u64 m) ∧ (pre.length : Int) ≤ most
/-- where no more is wanted -/
def CollX (b Bs : Nat) (most : Int) (c : Code) (pre : List Nat) (W : World) : Prop :=
  c = .exit 0 ∧ ∃ (q : List Nat) (x : Nat), pre = q ++ [x] ∧ q.length = most.toNat ∧ ∃ v, Boxed W (b + 1) 23 v ∧ W.ownsRow (Bs + 1) 3 1 v (MM.toI q).length ((MM.toI q).map (Value.int .i64)) ∧ True
theorem CollI.own (b Bs : Nat) (m most : Int) : Own (CollI b Bs m most) := fun s A B row hs hg hr =>
  ⟨holdsRow_own (Bs + 1) (b + 1) 23 3 1 (fun pre : List Nat => (MM.toI pre).length) (fun pre => (MM.toI pre).map (Value.int .i64)) (fun _ _ => True) s A B row hs.1 hg hr,
    boxed_own b 3 (fun _ => .int .i64 most) s A B row hs.2.1 hg hr, boxed_own Bs 22 (fun _ => .int .u64 m) s A B row hs.2.2.1 hg hr, hs.2.2.2⟩
theorem CollX.own (b Bs : Nat) (most : Int) (c : Code) : Own (CollX b Bs most c) := fun s A B row hs hg hr =>
  ⟨hs.1, by obtain ⟨q, x, e, hq, hv⟩ := hs.2; exact ⟨q, x, e, hq, holdsRow_own (Bs + 1) (b + 1) 23 3 1 (fun pre : List Nat => (MM.toI pre).length) (fun pre => (MM.toI pre).map (Value.int .i64)) (fun _ _ => True) q A B row hv hg hr⟩⟩

theorem bits_five : ((MM.bitsOf 5).length : Int) = 2 := by decide

set_option maxRecDepth 100000 in
set_option maxHeartbeats 2000000 in
theorem lall_any (m most : Int) (w : World) (m0 : 0 ≤ m) (m1 : m ≤ 18446744073709551615) (k0 : 0 ≤ most) (k1 : most ≤ 1000) (hT : Tz w) :
    Calls Tryd.prog 11 #[.int .u64 m, .int .i64 most] w fun e w' => ∃ v, e = .returned v ∧
      w'.ownsRow w.heap.size 3 1 v ((MM.bitsI m).take most.toNat).length (((MM.bitsI m).take most.toNat).map (Value.int .i64)) ∧ Below w.heap.size w w' := by
  have H5 := bits_five
  obtain ⟨i0, hi, hz0, hz1, hz2⟩ := info_parts Tryd.infoInt
  refine (callsIn_wide (n := 5)).1 ?_
  refine callsIn_of_wp_marks Tryd.func11 rfl trivial ?_ rfl
  simp only [Tryd.ntmps11, List.size_toArray, List.length_cons, List.length_nil, Nat.reduceAdd, Nat.reduceSub, Array.replicate_succ, Array.replicate_zero, List.push_toArray, List.append_toArray, List.nil_append, List.cons_append]
  gi_wp2_with (refine ⟨trivial, ?_⟩; gi_at_call 8; refine (callsIn_wide.2 (count_any _ _ (by omega) (by omega) ((hT.alloc _).alloc _))).mono ?_; rintro e w1 ⟨rfl, hb1⟩)
  clear H5
  have hG := hT.lt
  have sz := hb1.size
  simp only [World.size_alloc] at sz
  have bM : Boxed w1 w.heap.size 3 (.int .i64 most) := (hb1.block _ (by first | (simp; done) | (simp; omega))).trans ((Boxed.new w 3 (.int .i64 most)).alloc _)
  have bO : Boxed w1 (w.heap.size + 1) 23 (.slice none 0 0) := by
    have h := Boxed.new (w.alloc (.cells #[.int .i64 most] 3)) 23 (.slice none 0 0)
    rw [World.size_alloc] at h
    exact (hb1.block _ (by simp)).trans h
  have hB1 : Below w.heap.size w w1 := (((Below.refl _ w).alloc (Nat.le_refl _) _).alloc (by simp) _).trans (hb1.mono (by first | (simp; done) | (simp; omega)))
  clear hb1
  refine ⟨trivial, (callsIn_wide.2 (all_any _ _)).mono ?_⟩
  rintro e w2 ⟨rfl, rfl⟩
  gi_wp2
  have bN := Boxed.new w1 22 (.int .u64 m)
  refine wpIn_rangeFunc_ownF rfl (by omega) (gf := 21) (lb := #[.pointer (some ⟨w1.heap.size, 0, none⟩)]) rfl trivial (enters_of Tryd.func21 (by kernel_rfl) rfl)
    (all_stops _ (by omega) w1.heap.size m m0 m1 _ (by simp) bN.cell ((hT.on hB1).alloc _)) (fun h k => h.trans k) (keptAt_b (by first | (simp; done) | (simp; omega))) (Below.refl _ _) (fun _ => rfl)
    (fun pre W => CollI w.heap.size w1.heap.size m most pre W ∧ Below w.heap.size w W)
    (fun c pre W => CollX w.heap.size w1.heap.size most c pre W ∧ Below w.heap.size w W)
    (OwnFrom.and ((CollI.own _ _ _ _).from _) (ownFrom_below (Nat.le_refl _) (by first | (simp; done) | (simp; omega))))
    (fun c => OwnFrom.and ((CollX.own _ _ _ c).from _) (ownFrom_below (Nat.le_refl _) (by first | (simp; done) | (simp; omega))))
    ⟨⟨⟨_, bO.alloc _, World.ownsRow_nil _ _ _ _, trivial⟩, bM.alloc _, bN, k0⟩, hB1.alloc hB1.size _⟩
    (fun x => { tmps := #[.int .u64 m, .int .i64 most, undef, .pointer (some ⟨w.heap.size, 0, none⟩), .slice none 0 0, .pointer (some ⟨w.heap.size + 1, 0, none⟩), .int .i64 (x : Int), .int .i64 2, .bool false, .int .u64 m, .func (.func 21) #[] #[.pointer (some ⟨w1.heap.size, 0, none⟩)], .int .i64 (x : Int), undef, undef, undef, undef, undef, undef, undef, undef, undef], defers := [] }) ?assign ?body ?done ?stop
  case assign =>
    intro l x W K hK
    gi_wp2
    exact hK
  case body =>
    rintro l pre x W ⟨⟨⟨v, hv, hrow, _⟩, hM, hN, hle⟩, hB⟩ hlt
    have hMc := hM.cell
    have hlen : (MM.toI pre).length = pre.length := MM.toI_len pre
    rw [hlen] at hrow
    obtain ⟨a, cap, hva⟩ : ∃ a cap, v = .slice a pre.length cap := by
      rcases hrow.2 with ⟨rfl, h0⟩ | ⟨g, cap, _, rfl, _⟩
      · exact ⟨none, 0, by rw [h0]⟩
      · exact ⟨_, _, rfl⟩
    subst hva
    have hvc := hv.cell
    have Hlen := Lib.hid hlen
    clear hlen
    by_cases hm : (pre.length : Int) < most
    · have hR : w1.heap.size + 1 ≤ W.heap.size := hN.lt
      gi_wp2_with (gi_at_builtin; refine wpListIn_append_own _ rfl _ _ 23 rfl (w1.heap.size + 1) 3 i0 (.int .i64 0) 1 8 Tryd.underlying23 hi hz0 hz1 hz2 rfl (by decide) _ _ _ rfl (hrow.alloc _) ⟨W.heap.size, 0, none⟩ 1 1 [.int .i64 (x : Int)] rfl rfl (cell_one_new _ _ _) (by simp [Value.oneCell']) (by unfold maxLen; omega) (by omega) (by first | (simp; done) | (simp; omega)) ?_; intro v' w3 hown' hgrow _; obtain ⟨g', cap', rfl⟩ := ownsRow_succ hown'; obtain ⟨hb3, hk3⟩ := row_grown hrow hR hgrow; have hv3 := Boxed.below hv hb3 (by omega); have hc1 := hv3.cell; have hf1 := hv3.frozen; have hM3 := Lib.hid (Boxed.below hM hb3 (by omega)); have hN3 := Lib.hid (Boxed.below hN hb3 (by omega)); clear hvc hMc hgrow)
      have hlen' : (MM.toI (pre ++ [x])).length = pre.length + 1 := by rw [MM.toI_len]; simp
      have hrow3 : w3.ownsRow (w1.heap.size + 1) 3 1 (.slice (some ⟨g', 0, none⟩) (pre.length + 1) cap') (MM.toI (pre ++ [x])).length ((MM.toI (pre ++ [x])).map (Value.int .i64)) := by
        rw [hlen', MM.toI_snoc, List.map_append]; exact hown'
      exact ⟨hk3.trans (KeepsOthers.setCell _ _ _), ((KeptAt.of_below hb3 (by omega)).trans (KeptAt.setCell _ _ _ (by show w.heap.size + 1 ≠ tzG; omega))), ⟨⟨_, hv3.set _, row_setCell hrow3 (by omega) _, trivial⟩, hM3.out.other (by omega) _, hN3.out.other (by omega) _, by simp; omega⟩,
        hB.trans ((hb3.mono (by omega)).setCell (p := ⟨w.heap.size + 1, 0, none⟩) (by simp) _)⟩
    · gi_wp2
      exact ⟨KeepsOthers.refl _, ⟨rfl, pre, x, rfl, by omega, _, hv, by rw [Hlen.out]; exact hrow, trivial⟩, hB⟩
  case done =>
    rintro D ys W hD rfl ⟨⟨⟨v, hv, hrow, _⟩, hM, hN, hle⟩, hB⟩ hK
    have hz := Lib.hid (MM.toI_all m most.toNat (by omega))
    obtain ⟨a, len, cap, rfl⟩ : ∃ a len cap, v = .slice a len cap := by
      rcases hrow.2 with ⟨rfl, h0⟩ | ⟨g, cap, _, rfl, _⟩
      · exact ⟨_, _, _, rfl⟩
      · exact ⟨_, _, _, rfl⟩
    have hvc := hv.cell
    gi_wp2
    refine ⟨by simp, .inl ⟨_, _, rfl, run_takeDeferred hK, ?_⟩⟩
    exact ⟨_, results_tmp rfl _ _ _, _, rfl, by rw [← hz.out]; exact row_mono (ownsRow_putObj hrow _ hK rfl) (by omega), hB.trans (belowK_b (w := w) (Nat.le_refl _) W D _ _ (by simp at hD; omega) hK rfl rfl)⟩
  case stop =>
    rintro D c pre W hD hpre ⟨⟨rfl, q, x, rfl, hq, v, hv, hrow, _⟩, hB⟩ hK
    have hz := Lib.hid (MM.toI_part m most.toNat q x hpre hq)
    obtain ⟨a, len, cap, rfl⟩ : ∃ a len cap, v = .slice a len cap := by
      rcases hrow.2 with ⟨rfl, h0⟩ | ⟨g, cap, _, rfl, _⟩
      · exact ⟨_, _, _, rfl⟩
      · exact ⟨_, _, _, rfl⟩
    have hvc := hv.cell
    clear hq
    gi_wp2
    refine ⟨by simp, .inl ⟨_, _, rfl, run_takeDeferred hK, ?_⟩⟩
    exact ⟨_, results_tmp rfl _ _ _, _, rfl, by rw [← hz.out]; exact row_mono (ownsRow_putObj hrow _ hK rfl) (by omega), hB.trans (belowK_b (w := w) (Nat.le_refl _) W D _ _ (by simp at hD; omega) hK rfl rfl)⟩
end Go.Proofs.YtnmdihojbfhkfaaDoor
