import Derived.Test.YthjfgfgkbfhdfaaGreatDoorPlatY
import Derived.Test.YthjfgfgkbfhdfaaGreatDoorPrs
import Derived.Test.YthjfgfgkbfhdfaaGreatDoorRound
import Derived.Deep.QuietTactic
import Derived.BigQuiet
import Derived.Sort.QuietIn
import Derived.Deep.RegionWith
import Derived.Maps.AppendAt
set_option linter.unusedSimpArgs false
set_option linter.unusedVariables false
/-! the walk of layer 5's Covers -/
namespace Go.Proofs.YthjfgfgkbfhdfaaGreatDoor
open Go.RowKit Go.Shelf
attribute [local go_sem] Oper.semAt_some
attribute [local simp] wide_fn wide_fn_round

theorem cells5_is (l : List (Nat × Nat)) : cellsOf5 l = cellsI (l.map fun p => ((p.1 : Int), (p.2 : Int))) := by
  unfold cellsOf5 cellsI; rw [List.flatMap_map]
theorem prs5_of_row {W : World} {base : Nat} {e : TypeId} {v : Value} {l : List (Nat × Nat)} (h : W.ownsRow base e 2 v l.length (cellsOf5 l)) : Prs W.heap.size W v l := by
  have hp : PrsI W.heap.size W v (l.map fun p => ((p.1 : Int), (p.2 : Int))) := prs_of_row (base := base) (e := e) (by rw [List.length_map, ← cells5_is]; exact h)
  rcases hp with ⟨e1, e2⟩ | ⟨b, off, cap, e1, h1, h2, h3⟩
  · exact .inl ⟨e1, by simpa using e2⟩
  · rw [List.length_map] at e1 h2 h3
    refine .inr ⟨b, off, cap, e1, h1, h2, fun j hj => ?_⟩
    have := h3 j hj
    rw [List.getElem?_map, List.getElem?_eq_getElem hj] at this
    rw [List.getElem?_eq_getElem hj]
    exact this
theorem Prs.cells {n n' : Nat} {W W' : World} {v : Value} {l : List (Nat × Nat)} (h : Prs n W v l) (hc : ∀ p v, W.cell? p = some v → W'.cell? p = some v) (hn : n ≤ n') : Prs n' W' v l := by
  rcases h with e | ⟨b, off, cap, e1, h1, h2, h3⟩
  · exact .inl e
  · exact .inr ⟨b, off, cap, e1, by omega, h2, fun j hj => ⟨hc _ _ (h3 j hj).1, hc _ _ (h3 j hj).2⟩⟩
theorem row_mono5 {W : World} {b b' : Nat} {e : TypeId} {size : Nat} {v : Value} {k : Nat} {xs : List Value} (h : W.ownsRow b e size v k xs) (hb : b' ≤ b) : W.ownsRow b' e size v k xs := by
  obtain ⟨h1, h2 | ⟨g, cap, cur, rfl, hg, r⟩⟩ := h
  · exact ⟨h1, .inl h2⟩
  · exact ⟨h1, .inr ⟨g, cap, cur, rfl, Nat.le_trans hb hg, r⟩⟩
theorem row_grown5 {W w1 : World} {R : Nat} {e : TypeId} {size : Nat} {v : Value} {k : Nat} {xs : List Value} {tmp : Obj}
    (hrow : W.ownsRow R e size v k xs) (hR : R ≤ W.heap.size) (hgrow : (W.alloc tmp).grownBy w1 v.ownBlock) : Below R W w1 ∧ KeepsOthers W w1 := by
  refine ⟨((Below.refl R W).alloc hR tmp).grown hgrow (by simp; omega) (fun j ej => (hrow.lt j ej).1), (KeepsOthers.alloc W tmp).trans (KeepsOthers.of_grownBy hgrow fun j o ej hj => ?_)⟩
  rcases (hrow.alloc tmp).2 with ⟨rfl, _⟩ | ⟨g, cap, cur, rfl, _, hgb, _⟩
  · simp [Value.ownBlock] at ej
  · obtain rfl : g = j := by simpa [Value.ownBlock] using ej
    rw [hgb] at hj; cases hj; rfl
theorem Boxed.below5 {W w1 : World} {R b : Nat} {t : TypeId} {u : Value} (h : Boxed W b t u) (hb : Below R W w1) (hlt : b < R) : Boxed w1 b t u := (hb.block b hlt).trans h
theorem row_setCell5 {W : World} {R B : Nat} {e : TypeId} {size : Nat} {v : Value} {k : Nat} {xs : List Value} (h : W.ownsRow R e size v k xs) (hB : B < R) (u : Value) : (W.setCell ⟨B, 0, none⟩ u).ownsRow R e size v k xs :=
  h.kept (grownBy_setCell' W B u) (by
    rcases h.2 with ⟨rfl, _⟩ | ⟨g, cap, cur, rfl, hg, _⟩
    · exact .inl rfl
    · refine .inr fun e' => ?_
      have : g = B := by simpa [Value.ownBlock] using e'
      omega)
/-- a box of another type is no row -/
theorem box_apart {W : World} {R b : Nat} {t e : TypeId} {size : Nat} {u v : Value} {k : Nat} {xs : List Value} (h : Boxed W b t u) (hrow : W.ownsRow R e size v k xs) (hne : t ≠ e) : v.ownBlock ≠ some b := by
  intro e'
  rcases hrow.2 with ⟨rfl, _⟩ | ⟨g, cap, cur, rfl, _, hgb, _⟩
  · simp [Value.ownBlock] at e'
  · obtain rfl : g = b := by simpa [Value.ownBlock] using e'
    rw [show W.heap[g]? = _ from h] at hgb
    cases hgb
    exact hne rfl
theorem row_below5 {W W' : World} {R : Nat} {e : TypeId} {size : Nat} {v : Value} {k : Nat} {xs : List Value} (h : W.ownsRow R e size v k xs) (hb : Below W.heap.size W W') : W'.ownsRow R e size v k xs := by
  obtain ⟨h1, h2 | ⟨g, cap, cur, rfl, hg, hgb, r⟩⟩ := h
  · exact ⟨h1, .inl h2⟩
  · exact ⟨h1, .inr ⟨g, cap, cur, rfl, hg, (hb.block g (Array.getElem?_eq_some_iff.1 hgb).1).trans hgb, r⟩⟩
theorem Marks.on {n : Nat} {W W' : World} {Ds : List Nat} (h : Marks n W Ds) (hb : Below W.heap.size W W') : Marks n W' Ds := ⟨h.1, fun D hD => ⟨(h.2 D hD).1, (hb.block D (h.lt hD)).trans (h.2 D hD).2⟩⟩
theorem without_q {m i x : Int} {W : World} (HX : RowKit.Hid (0 ≤ m ∧ m ≤ 18446744073709551615)) (h : RowKit.Hid (MM.withoutI m i = x)) (n : Nat) :
    Calls Tryz.prog 35 #[.int .u64 m, .int .i64 i] (W.drewN n) fun e w' => e = .returned (.int .u64 x) ∧ ∃ k, w' = W.drewN k :=
  (without_any m i _ HX.out.1 HX.out.2).mono fun e w' h' => ⟨by rw [h'.1, h.out], n, h'.2.symm⟩

/-- what a slice leads to is a row of pairs -/
def Typed5 (W : World) (u : Value) : Prop := ∀ b off n c, u = .slice (some ⟨b, off, none⟩) n c → ∃ cs fz, W.heap[b]? = some (.cells cs 54 fz)
theorem Typed5.row {W : World} {base n : Nat} {u : Value} {xs : List Value} (h : W.ownsRow base 54 2 u n xs) : Typed5 W u := by
  rcases h.2 with ⟨rfl, _⟩ | ⟨g, cap, cur, rfl, _, hg, _⟩
  · intro b off n c e; cases e
  · intro b off n c e; cases e; exact ⟨_, _, hg⟩
theorem Typed5.kept {W W' : World} {u : Value} (h : Typed5 W u) (hk : ∀ (k : Nat) c e fz, W.heap[k]? = some (Obj.cells c e fz) → W'.heap[k]? = some (Obj.cells c e fz)) : Typed5 W' u := by
  intro b off n c e
  obtain ⟨cs, fz, h1⟩ := h b off n c e
  exact ⟨cs, fz, hk _ _ _ _ h1⟩
theorem leaves_marks2 {F : Fence} {m : Nat} {P : Program} {fn : Func} {tmps : Array Value} {R : Ending → World → Prop} {b : Nat} : ∀ (Ds : List Nat) (W : World), b ≤ W.heap.size → Marks b W Ds →
    (∀ W', (∀ p v, W.cell? p = some v → W'.cell? p = some v) → (∀ (k : Nat) c e fz, W.heap[k]? = some (Obj.cells c e fz) → W'.heap[k]? = some (Obj.cells c e fz)) → Below b W W' → LeavesIn F m P fn tmps R [] .returning W') → LeavesInM F m P fn tmps R (marks Ds) .returning W := by
  intro Ds
  induction Ds with
  | nil => intro W _ _ h; exact h W (fun _ _ h => h) (fun _ _ _ _ h => h) (Below.refl b W)
  | cons D Ds ih =>
    intro W hb hm h
    have hK := (hm.2 D (by simp)).2
    have hbD := (hm.2 D (by simp)).1
    have hB : Below b W (W.putObj D (.deferred none)) := (Below.refl b W).grown (grownBy_putObj' W D _) hb (fun k e => by cases e; exact hbD)
    refine ⟨by simp, .inl ⟨D, W.putObj D (.deferred none), rfl, run_takeDeferred hK, ih _ (Nat.le_trans hb hB.size) ⟨(List.nodup_cons.1 hm.1).2, fun E hE => ⟨(hm.2 E (by simp [hE])).1, ?_⟩⟩ fun W' hc hc2 hB' => h W' (fun p v hp => ?_) (fun k c e fz hk => hc2 k c e fz ?_) (hB.trans hB')⟩⟩
    · have hne : E ≠ D := fun e => (List.nodup_cons.1 hm.1).1 (e ▸ hE)
      exact (World.putObj_heap_other (fun e => hne e)).trans (hm.2 E (by simp [hE])).2
    · exact hc p v (cell_kept hp (grownBy_putObj' W D (.deferred none)) (fun r e => (by cases e; exact ⟨_, hK, rfl⟩)))
    · exact (World.putObj_heap_other (fun e' => by subst e'; rw [hK] at hk; cases hk)).trans hk

set_option maxRecDepth 100000 in
set_option maxHeartbeats 8000000 in
theorem covers_in (v : Value) (xs : List Int) (n₀ : Nat) (w : World) (hv : Nums .u64 n₀ w v xs) (hn : n₀ ≤ w.heap.size) (hx : Wide xs) (hr : LL.rightB xs = true) (hT : Tz w) :
    Calls Tryz.prog 17 #[v] w fun e w' => ∃ u, e = .returned u ∧ Prs w'.heap.size w' u (LL.coversL xs) ∧ Below w.heap.size w w' ∧ Typed5 w' u := by
  obtain ⟨i0, hi, hz0, hz1, hz2⟩ := info_parts Tryz.infoPair
  have HO := Lib.hid (LL.right_ord hr)
  have h0 := LL.ord_len HO.out
  have HX := Lib.hid hx
  obtain ⟨bk, off, cap, rfl, hbk, hc⟩ := hv.at (by omega)
  have HV := Lib.hid hv
  have HC := Lib.hid hc
  have HR := Lib.hid hr
  have hG := hT.lt
  have l1 : 1 ≤ (xs.length : Int) := by omega
  have l2 : (xs.length : Int) ≤ 64 := by omega
  have hl64 := h0.2
  clear hv hx hc h0 hr
  refine (callsIn_wide (n := 5)).1 ?_
  refine callsIn_of_wp_marks Tryz.func17 rfl trivial ?_ rfl
  simp only [Tryz.ntmps17, List.size_toArray, List.length_cons, List.length_nil, Nat.reduceAdd, Nat.reduceSub, Array.replicate_succ, Array.replicate_zero, List.push_toArray, List.append_toArray, List.nil_append, List.cons_append]
  refine wpIn_mono (Q := noPanic _) ?_ noPanic_of
  gi_wp2_with (gi_at_call 22; refine (callsIn_wide.2 (right5_any _ xs n₀ _ HV.out hn HX.out (by simp only [big5]; omega) hT)).mono ?_; rintro e w1 ⟨rfl, hb1⟩; rw [HR.out])
  have hbL := Boxed.new w1 52 (.slice none 0 0)
  have hB0 := hb1.alloc hb1.size (.cells #[.slice none 0 0] 52)
  have hL1 := hb1.size
  obtain ⟨L, hL⟩ : ∃ L, w1.heap.size = L := ⟨_, rfl⟩
  rw [hL] at hbL hL1 ⊢
  have hB1w := hb1
  clear hb1
  refine wpIn_loop (fun a' w' => ∃ (k : Nat) (Ds : List Nat) (u4 u5 u6 u13 u14 u15 u16 u17 u18 u19 u20 u21 u22 u23 u24 u25 u26 u28 u29 u30 u31 u32 u33 u34 u35 : Value), a' = { tmps := #[.slice (some ⟨bk, off, none⟩) xs.length cap, undef, .slice none 0 0, .pointer (some ⟨L, 0, none⟩), u4, u5, u6, .slice (some ⟨bk, off, none⟩) xs.length cap, .bool true, .bool false, .slice (some ⟨bk, off, none⟩) xs.length cap, .int .i64 (xs.length : Int), .int .i64 (k : Int), u13, u14, u15, u16, u17, u18, u19, u20, u21, u22, u23, u24, u25, u26, undef, u28, u29, u30, u31, u32, u33, u34, u35], defers := marks Ds } ∧ k ≤ xs.length ∧ (∃ o, Boxed w' L 52 o ∧ w'.ownsRow (L + 1) 54 2 o (LL.coversUp xs k).length (cellsOf5 (LL.coversUp xs k))) ∧ Marks w.heap.size w' Ds ∧ Below w.heap.size w w')
    (fun a' _ => xs.length - (intOf (a'.tmps.getD 12 undef)).toNat) ?_ ?_
  · refine ⟨0, [], ?_⟩
    (repeat apply Exists.intro)
    exact ⟨rfl, Nat.zero_le _, ⟨_, hbL, World.ownsRow_nil _ _ _ _⟩, Marks.nil _ _, hB0⟩
  · rintro a' W ⟨k, Ds, u4, u5, u6, u13, u14, u15, u16, u17, u18, u19, u20, u21, u22, u23, u24, u25, u26, u28, u29, u30, u31, u32, u33, u34, u35, rfl, hk, ⟨o, hbo, hrow⟩, hM, hB⟩
    have HM := Lib.hid hM
    clear hM hbL hB0 hB1w hL
    by_cases hkn : k < xs.length
    · have i1 : (0 : Int) ≤ k ∧ (k : Int) < xs.length := by omega
      have hck : W.cell? ⟨bk, off + k, none⟩ = some (.int .u64 (xs[k]?.getD 0)) := (hB.cell (p := ⟨bk, off + k, none⟩) (by show bk < w.heap.size; omega)).trans (HC.out k hkn)
      have HXk := Lib.hid (HX.out.at k)
      have HUp := Lib.hid (show MM.withoutI (xs[k]?.getD 0) (k : Int) = LL.upI xs k from rfl)
      have HUb := Lib.hid (LL.up_bd HX.out k)
      have HUl := Lib.hid (show ∀ i : Nat, MM.hasB (LL.upI xs k) (i : Int) = true → i < xs.length by
        intro i hi
        rw [LL.up_has (by omega)] at hi
        unfold LL.st at hi
        rw [Bool.and_eq_true] at hi
        exact (LL.ord_at HO.out hkn hi.2).1)
      have HCv := Lib.hid (show bits .andNot .u64 (LL.upI xs k) (LL.aboveF xs (MM.bitsOf (LL.upI xs k))) = LL.coverI xs k from rfl)
      have HCb := Lib.hid (LL.cover_bd HX.out k)
      have HCx := Lib.hid (LL.cover_bits HO.out HX.out hkn)
      have HCl := Lib.hid (show ∀ i : Nat, MM.hasB (LL.coverI xs k) (i : Int) = true → i < xs.length by
        intro i hi
        rw [LL.cover_has HO.out HX.out hkn, Bool.and_eq_true, decide_eq_true_eq] at hi
        exact hi.1)
      obtain ⟨xk, hxk⟩ : ∃ xk, xs[k]?.getD 0 = xk := ⟨_, rfl⟩
      rw [hxk] at hck HXk HUp
      clear hxk
      obtain ⟨up, hup⟩ : ∃ up, LL.upI xs k = up := ⟨_, rfl⟩
      rw [hup] at HUp HUb HUl HCv
      clear hup
      have hcu : (LL.coversUp xs k).length ≤ 4096 := Nat.le_trans (LL.coversUp_len xs k) (Nat.mul_le_mul (show k ≤ 64 by omega) hl64)
      have HCu := Lib.hid hcu
      clear hcu
      gi_wp2
      have hbi := Boxed.new W 3 (.int .i64 (k : Int))
      have hbi1 := hbi.cell
      have hbo1 := hbo.alloc (.cells #[.int .i64 (k : Int)] 3)
      have hrow1 := hrow.alloc (.cells #[.int .i64 (k : Int)] 3)
      have hck1 := cell_alloc_l (.cells #[.int .i64 (k : Int)] 3) hck
      have hM1 := Lib.hid (HM.out.keeps (KeepsOthers.alloc W (.cells #[.int .i64 (k : Int)] 3)))
      have hB1 := hB.alloc hB.size (.cells #[.int .i64 (k : Int)] 3)
      have hLW : L < W.heap.size := hbo.lt
      have hWs : (W.alloc (.cells #[.int .i64 (k : Int)] 3)).heap.size = W.heap.size + 1 := World.size_alloc ..
      generalize W.alloc (.cells #[.int .i64 (k : Int)] 3) = W1 at hbi hbi1 hbo1 hrow1 hck1 hM1 hB1 hWs ⊢
      obtain ⟨Bi, hBi⟩ : ∃ Bi, W.heap.size = Bi := ⟨_, rfl⟩
      rw [hBi] at hbi hbi1 hLW hWs ⊢
      have HBi := Lib.hid hbi
      have HBo := Lib.hid hbo1
      have HRw := Lib.hid hrow1
      clear hbo hrow hck HM hB hBi hbi hbo1 hrow1
      gi_quiet ((gi_at_call 35; exact callsIn_wide.2 (without_q HXk HUp _)))
      have HBi2 := Lib.hid (show Boxed (W1.drewN nq) Bi 3 (.int .i64 (k : Int)) from HBi.out)
      have HBo2 := Lib.hid (show Boxed (W1.drewN nq) L 52 o from HBo.out)
      have HRw2 := Lib.hid (show (W1.drewN nq).ownsRow (L + 1) 54 2 o (LL.coversUp xs k).length (cellsOf5 (LL.coversUp xs k)) from HRw.out)
      have hM2 := Lib.hid (hM1.out.drewN nq)
      have hB2 := below_drewN hB1 nq
      have hW2 : (W1.drewN nq).heap.size = Bi + 1 := hWs
      clear hbi1 hck1 hM1 hB1 hWs HBi HBo HRw
      generalize W1.drewN nq = W2 at HBi2 HBo2 HRw2 hM2 hB2 hW2 ⊢
      gi_wp2_with (gi_at_call 37; fail)
      refine (callsIn_wide.2 (aboveS_any _ xs n₀ up _ (HV.out.below (hB2.mono hn)) (Nat.le_trans hn hB2.size) HX.out hl64 HUb.out.1 HUb.out.2 HUl.out (hT.on hB2))).mono ?_
      rintro e w3 ⟨rfl, hb3⟩
      have HBi3 := Lib.hid (Boxed.below5 (t := 3) HBi2.out hb3 (Boxed.lt (t := 3) HBi2.out))
      have HBo3 := Lib.hid (Boxed.below5 (t := 52) HBo2.out hb3 (Boxed.lt (t := 52) HBo2.out))
      have HRw3 := Lib.hid (row_below5 HRw2.out hb3)
      have hM3 := Lib.hid (hM2.out.on hb3)
      have hB3 := Lib.hid (bstep hB2 hb3)
      have hsz3 := Lib.hid (show Bi + 1 ≤ w3.heap.size by have := hb3.size; omega)
      clear HBi2 HBo2 HRw2 hM2 hB2 hW2 hb3
      gi_wp2_with (gi_at_call 36; rw [HCv.out]; refine (callsIn_wide.2 (all_any _ _)).mono ?_; rintro e w4 ⟨rfl, rfl⟩)
      have HB3 := hB3.out
      have hs3 := hsz3.out
      have hbm := cell_new_l w3 (.int .u64 (LL.coverI xs k)) 41
      have HBi4 := Lib.hid (Boxed.alloc (t := 3) HBi3.out (.cells #[.int .u64 (LL.coverI xs k)] 41))
      have HBo4 := Lib.hid (Boxed.alloc (t := 52) HBo3.out (.cells #[.int .u64 (LL.coverI xs k)] 41))
      have HRw4 := Lib.hid (HRw3.out.alloc (.cells #[.int .u64 (LL.coverI xs k)] 41))
      have hM4 := hM3.out.keeps (KeepsOthers.alloc w3 (.cells #[.int .u64 (LL.coverI xs k)] 41))
      have hB4 := HB3.alloc HB3.size (.cells #[.int .u64 (LL.coverI xs k)] 41)
      have hT4 := hT.on hB4
      have hs4 : (w3.alloc (.cells #[.int .u64 (LL.coverI xs k)] 41)).heap.size = w3.heap.size + 1 := World.size_alloc ..
      generalize w3.alloc (.cells #[.int .u64 (LL.coverI xs k)] 41) = W4 at hbm HBi4 HBo4 HRw4 hM4 hB4 hT4 hs4 ⊢
      obtain ⟨Bm, hBm⟩ : ∃ Bm, w3.heap.size = Bm := ⟨_, rfl⟩
      rw [hBm] at hbm hs3 hs4 ⊢
      clear HBi3 HBo3 HRw3 hM3 hB3 hsz3 HB3 hBm
      have hDlt : ∀ D ∈ Ds, D < W4.heap.size := fun D hD => hM4.lt hD
      have hrow4 : W4.ownsRow (L + 1) 54 2 o (LL.coversUp xs k ++ ([] : List (InS (LL.coverI xs k))).map (fun z => (k, z.1))).length (cellsOf5 (LL.coversUp xs k ++ ([] : List (InS (LL.coverI xs k))).map (fun z => (k, z.1)))) := by
        rw [List.map_nil, List.append_nil]; exact HRw4.out
      refine wpIn_rangeFunc_ownF rfl (by omega) (gf := 63) (lb := #[.pointer (some ⟨Bm, 0, none⟩)]) rfl trivial (enters_of Tryz.func63 (by kernel_rfl) rfl)
        (all_stopsS _ (by omega) Bm (LL.coverI xs k) HCb.out.1 HCb.out.2 W4 (by omega) hbm.1 hT4) (fun h k => h.trans k) (keptAt_b (by omega)) (Below.refl _ _) (fun _ => rfl)
        (fun pre Wr => ((((∃ o, Boxed Wr L 52 o ∧ Wr.ownsRow (L + 1) 54 2 o (LL.coversUp xs k ++ pre.map (fun z => (k, z.1))).length (cellsOf5 (LL.coversUp xs k ++ pre.map (fun z => (k, z.1)))) ∧ True) ∧ Boxed Wr Bi 3 (.int .i64 (k : Int)))) ∧ Marks w.heap.size Wr Ds) ∧ Below w.heap.size w Wr)
        (fun _ _ _ => False)
        (OwnFrom.and (OwnFrom.and (Own.from (fun s A B row hs hg hr => ⟨holdsRow_own (L + 1) L 52 54 2 (fun pre : List (InS (LL.coverI xs k)) => (LL.coversUp xs k ++ pre.map (fun z => (k, z.1))).length) (fun pre => cellsOf5 (LL.coversUp xs k ++ pre.map (fun z => (k, z.1)))) (fun _ _ => True) s A B row hs.1 hg hr, boxed_own Bi 3 (fun _ => .int .i64 (k : Int)) s A B row hs.2 hg hr⟩) _) (marks_own _ _ _ hDlt)) (ownFrom_below (Nat.le_refl _) (by omega)))
        (fun _ _ _ _ _ hs _ _ => hs)
        ⟨⟨⟨⟨o, HBo4.out, hrow4, trivial⟩, HBi4.out⟩, hM4⟩, hB4⟩
        (fun z => { tmps := #[.slice (some ⟨bk, off, none⟩) xs.length cap, undef, .slice none 0 0, .pointer (some ⟨L, 0, none⟩), .pointer (some ⟨Bi, 0, none⟩), .int .u64 up, .int .i64 ((z.1 : Nat) : Int), .slice (some ⟨bk, off, none⟩) xs.length cap, .bool true, .bool false, .slice (some ⟨bk, off, none⟩) xs.length cap, .int .i64 (xs.length : Int), .int .i64 (k : Int), .bool true, .int .i64 (k : Int), .slice (some ⟨bk, off, none⟩) xs.length cap, .int .i64 (k : Int), .pointer (some ⟨bk, off + k, none⟩), .int .u64 xk, .int .i64 (k : Int), .int .u64 up, .int .u64 up, .slice (some ⟨bk, off, none⟩) xs.length cap, .int .u64 up, .int .u64 (LL.aboveF xs (MM.bitsOf up)), .int .u64 (LL.coverI xs k), .func (.func 63) #[] #[.pointer (some ⟨Bm, 0, none⟩)], .int .i64 ((z.1 : Nat) : Int), u28, u29, u30, u31, u32, u33, u34, u35], defers := [] }) ?assign ?body ?done ?stop
      case assign =>
        intro l z W K hK
        gi_wp2
        exact hK
      case body =>
        rintro l pre z Wr ⟨⟨⟨⟨o, hv, hrow, _⟩, hbi⟩, hMr⟩, hBr⟩ hlt
        obtain ⟨z, hzm⟩ := z
        have hzl := HCl.out z hzm
        have hvc := hv.cell
        have hbc := hbi.cell
        have hln : (LL.coversUp xs k ++ pre.map (fun z => (k, z.1))).length ≤ 4160 := by rw [List.length_append, List.length_map]; have := HCu.out; omega
        have HSn := Lib.hid (show LL.coversUp xs k ++ (pre ++ [(⟨z, hzm⟩ : InS (LL.coverI xs k))]).map (fun z => (k, z.1)) = (LL.coversUp xs k ++ pre.map (fun z => (k, z.1))) ++ [(k, z)] by rw [List.map_append, ← List.append_assoc]; rfl)
        have hRs : L + 1 ≤ Wr.heap.size := hv.lt
        have HMr := Lib.hid hMr
        obtain ⟨cv, hcv⟩ : ∃ cv, LL.coversUp xs k ++ pre.map (fun z => (k, z.1)) = cv := ⟨_, rfl⟩
        rw [hcv] at hrow hln HSn
        have hform : ∃ a cap, o = .slice a cv.length cap := by
          rcases hrow.2 with ⟨rfl, h0⟩ | ⟨g, cap, _, rfl, _⟩
          · exact ⟨none, 0, by rw [h0]⟩
          · exact ⟨_, _, rfl⟩
        obtain ⟨ao, co, rfl⟩ := hform
        have HLn := Lib.hid hln
        clear hMr hcv hln
        gi_wp2_with (gi_at_builtin
                     refine wpListIn_append_own _ rfl _ _ 52 rfl (L + 1) 54 i0 (.agg #[.int .i64 0, .int .i64 0]) 2 16 Tryz.underlying52 hi hz0 hz1 hz2 rfl (by decide) _ _ _ rfl (hrow.alloc _) ⟨Wr.heap.size, 0, none⟩ 1 1 [.int .i64 (k : Int), .int .i64 (z : Int)] rfl rfl (cell_two_new5 _ _ _ _) (by simp [Value.oneCell']) (by have := HLn.out; unfold maxLen; omega) (by have := HLn.out; omega) (by simp; omega) ?_
                     intro v' w5 hown' hgrow _
                     obtain ⟨g', cap', rfl⟩ := ownsRow_succ hown'
                     obtain ⟨hb5, hk5⟩ := row_grown5 hrow hRs hgrow
                     have hv5 := Boxed.below5 hv hb5 (by omega)
                     have hc5 := hv5.cell
                     have hf5 := hv5.frozen
                     have hbi5 := Lib.hid ((hbi.alloc (.cells #[.int .i64 (k : Int), .int .i64 (z : Int)] 54)).kept hgrow (fun e' => box_apart hbi hrow (by decide) e'.symm))
                     clear hvc hbc hgrow)
        have hrow6 : w5.ownsRow (L + 1) 54 2 (.slice (some ⟨g', 0, none⟩) (cv.length + 1) cap') (cv ++ [(k, z)]).length (cellsOf5 (cv ++ [(k, z)])) := by
          rw [List.length_append, cells5_snoc]; exact hown'
        have hB6 : Below w.heap.size w w5 := hBr.trans (hb5.mono (by omega))
        exact ⟨hk5.trans (KeepsOthers.setCell _ _ _), (KeptAt.of_below hb5 (by omega)).trans (KeptAt.setCell _ _ _ (by show L ≠ tzG; omega)), ⟨⟨⟨_, hv5.set _, by rw [HSn.out]; exact row_setCell5 hrow6 (by omega) _, trivial⟩, hbi5.out.other (by omega) _⟩, (HMr.out.keeps hk5).keeps (KeepsOthers.setCell _ _ _)⟩,
          hB6.setCell (p := ⟨L, 0, none⟩) (by show w.heap.size ≤ L; omega) _⟩
      case done =>
        rintro D ys Wr hD hys ⟨⟨⟨⟨o, hv, hrow, _⟩, hbi⟩, hMr⟩, hBr⟩ hKD
        have hrow7 : Wr.ownsRow (L + 1) 54 2 o (LL.coversUp xs (k + 1)).length (cellsOf5 (LL.coversUp xs (k + 1))) := by
          have e : ys.map (fun z => (k, z.1)) = LL.rowUp xs k xs.length := by
            rw [← HCx.out, ← hys, List.map_map]; rfl
          rw [LL.coversUp_succ, ← e]; exact hrow
        clear hys hrow
        gi_wp2
        refine ⟨⟨k + 1, D :: Ds, ?_⟩, by simp [intOf]; omega⟩
        (repeat apply Exists.intro)
        exact ⟨rfl, by omega, ⟨o, hv, hrow7⟩, hMr.cons (by omega) hKD (fun E hE => Nat.lt_of_lt_of_le (hDlt E hE) hD), hBr⟩
      case stop =>
        rintro D c pre Wr _ _ h _
        exact h.elim
    · have hP := prs5_of_row hrow
      have hko : LL.coversUp xs k = LL.coversL xs := by
        obtain rfl : k = xs.length := by omega
        rfl
      rw [hko] at hP
      have hcell := hbo.cell
      have HP := Lib.hid hP
      have HTY := Lib.hid (Typed5.row hrow)
      clear hP hko hrow
      gi_wp2
      show LeavesInM _ _ _ _ _ _ (marks Ds) .returning _
      refine leaves_marks2 (b := w.heap.size) Ds _ hB.size HM.out fun W' hc' hc2 hBel => ?_
      refine ⟨o, by simp [results, Tryz.f17, go_sem], ⟨o, rfl, HP.out.cells hc' hBel.size, hB.trans hBel, HTY.out.kept hc2⟩⟩

set_option maxRecDepth 100000 in
set_option maxHeartbeats 1600000 in
theorem covers5_typed (v : Value) (xs : List Int) (n₀ : Nat) (w : World) (hv : Nums .u64 n₀ w v xs) (hn : n₀ ≤ w.heap.size) (hx : Wide xs) (hl : xs.length ≤ big5) (hT : Tz w) :
    Calls Tryz.prog 17 #[v] w fun e w' => ∃ u, e = .returned u ∧ Prs w'.heap.size w' u (if LL.rightB xs = true then LL.coversL xs else []) ∧ Below w.heap.size w w' ∧ Typed5 w' u := by
  cases hr : LL.rightB xs
  · have HV := Lib.hid hv
    have HX := Lib.hid hx
    have HL := Lib.hid hl
    have HR := Lib.hid hr
    obtain ⟨a, cap, rfl⟩ := hv.form
    rw [if_neg Bool.false_ne_true]
    clear hv hx hl hr
    refine (callsIn_wide (n := 5)).1 ?_
    refine callsIn_of_wp_marks Tryz.func17 rfl trivial ?_ rfl
    simp only [Tryz.ntmps17, List.size_toArray, List.length_cons, List.length_nil, Nat.reduceAdd, Nat.reduceSub, Array.replicate_succ, Array.replicate_zero, List.push_toArray, List.append_toArray, List.nil_append, List.cons_append]
    gi_wp2_with (gi_at_call 22; refine (callsIn_wide.2 (right5_any _ xs n₀ _ HV.out hn HX.out HL.out hT)).mono ?_; rintro e w1 ⟨rfl, hb1⟩; rw [HR.out])
    refine ⟨.slice none 0 0, by simp [results, Tryz.f17, go_sem], ⟨_, rfl, .inl ⟨⟨_, _, rfl⟩, rfl⟩, hb1, fun b off n c e => by cases e⟩⟩
  · rw [if_pos rfl]
    exact covers_in v xs n₀ w hv hn hx hr hT
theorem covers5_any : CoversC := fun v xs n₀ w hv hn hx hl hT => (covers5_typed v xs n₀ w hv hn hx hl hT).mono fun e w' ⟨u, h1, h2, h3, _⟩ => ⟨u, h1, h2, h3⟩
end Go.Proofs.YthjfgfgkbfhdfaaGreatDoor
