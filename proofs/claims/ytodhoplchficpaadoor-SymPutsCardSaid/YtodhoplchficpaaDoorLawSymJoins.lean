import Derived.Test.YtodhoplchficpaaDoorSymA
import Derived.Test.YtodhoplchficpaaDoorOpenL
import Derived.Test.YtodhoplchficpaaDoorDoorZ
set_option linter.unusedSimpArgs false
set_option linter.unusedVariables false
/-! SymJoins, walked -/
namespace Go.Proofs.YtodhoplchficpaaDoor
open Go.RowKit
open SV (Lab SysOk Least labs sumOf mu sumP at' natsL askT askI fanN lok ljoin val le Bnd)
theorem lit_keep {w w' : World} {g k : Nat} {T T' : TypeId} {cs : Array Value} (hg : w.grownBy w' (some g)) (h : w.heap[g]? = some (.cells #[] T)) (hk : w.heap[k]? = some (.cells cs T')) (hne : T ≠ T') : w'.heap[k]? = some (.cells cs T') :=
  (hg.block k (Array.getElem?_eq_some_iff.1 hk).1 (fun e => by cases e; rw [h] at hk; cases hk; exact hne rfl)).trans hk
theorem lab_keep {w w' : World} {g k : Nat} {T T' : TypeId} {cs : Array Value} (hg : w.grownBy w' (some g)) (h : w.heap[g]? = some (.cells #[] T)) (hk : w.heap[k]? = some (.cells cs T')) (hne : 0 < cs.size) : w'.heap[k]? = some (.cells cs T') :=
  (hg.block k (Array.getElem?_eq_some_iff.1 hk).1 (fun e => by cases e; rw [h] at hk; cases hk; exact absurd hne (by simp))).trans hk
theorem nums_src {k : IntKind} {n₀ : Nat} {W : World} {a : Option Addr} {c : Nat} {xs : List Int} (h : Nums k n₀ W (.slice a xs.length c) xs) (hn : a = none → c = 0) : (Value.slice a xs.length c = .slice none 0 0 ∧ xs.length = 0) ∨ ∃ ad c', Value.slice a xs.length c = .slice (some ad) xs.length c' ∧ ∀ j u, (xs.map (Value.int k))[j]? = some u → W.cell? (ad.add j) = some u := by
  rcases h with ⟨⟨a', c', e⟩, h0⟩ | ⟨b, off, cap, e, hb, hl, hcell⟩
  · subst h0
    cases a with
    | none => exact .inl ⟨by rw [hn rfl]; rfl, rfl⟩
    | some ad => exact .inr ⟨ad, c, rfl, fun j u hj => by simp at hj⟩
  · cases e
    refine .inr ⟨⟨b, off, none⟩, _, rfl, fun j u hj => ?_⟩
    rw [List.getElem?_map] at hj
    cases ex : xs[j]? with
    | none => rw [ex] at hj; cases hj
    | some x =>
      rw [ex] at hj
      have hj2 : j < xs.length := (List.getElem?_eq_some_iff.1 ex).1
      have h1 := hcell j hj2
      rw [Addr.add_lit, h1, ex]
      simpa using hj
/-- two labels in boxes of a call's own -/
def TwoB (W : World) (a m b k : Int) (V : World) : Prop := Below W.heap.size W V ∧ W.heap.size + 2 ≤ V.heap.size ∧ V.heap[W.heap.size]? = some (.cells #[.int .i64 a, .int .u64 m] 38) ∧ V.heap[W.heap.size + 1]? = some (.cells #[.int .i64 b, .int .u64 k] 38)
theorem TwoB.on {W U V : World} {a m b k : Int} (h : TwoB W a m b k U) (hb : Below U.heap.size U V) : TwoB W a m b k V :=
  ⟨h.1.trans (hb.mono h.1.size), Nat.le_trans h.2.1 hb.size, (hb.block _ (by have := h.2.1; omega)).trans h.2.2.1, (hb.block _ (by have := h.2.1; omega)).trans h.2.2.2⟩
theorem TwoB.cells {W V : World} {a m b k : Int} (h : TwoB W a m b k V) : V.cell? ⟨W.heap.size, 0, none⟩ = some (.int .i64 a) ∧ V.cell? ⟨W.heap.size, 1, none⟩ = some (.int .u64 m) ∧ V.cell? ⟨W.heap.size + 1, 0, none⟩ = some (.int .i64 b) ∧ V.cell? ⟨W.heap.size + 1, 1, none⟩ = some (.int .u64 k) :=
  ⟨(two_lab h.2.2.1).1, (two_lab h.2.2.1).2, (two_lab h.2.2.2).1, (two_lab h.2.2.2).2⟩
theorem twoB_start (W : World) (a m b k : Int) : TwoB W a m b k ((W.alloc (.cells #[.int .i64 a, .int .u64 m] 38)).alloc (.cells #[.int .i64 b, .int .u64 k] 38)) :=
  ⟨((Below.refl _ _).alloc (Nat.le_refl _) _).alloc (by simp) _, by simp, by rw [heap_alloc_old _ _ (by simp), heap_alloc_new], SS.new_at (by simp)⟩
theorem joinVal_two (xs : List Int) (al bl : Nat) (m k : Int) : joinVal xs [((al : Int), m), ((bl : Int), k)] [1] = ljoin xs (al, m) (bl, k) := by simp [joinVal, foldJ, natL, at']
set_option maxRecDepth 100000 in
set_option maxHeartbeats 12800000 in
theorem symJoins_walk {ua : Option Addr} {uc : Nat} {xs : List Int} {a m b k : Int} (W : World) (hu : Nums .u64 W.heap.size W (.slice ua xs.length uc) xs) (hun : ua = none → uc = 0) (hx : Wide xs) (hxl : xs.length ≤ big5) (hT : Tz W) (hm : 0 ≤ m ∧ m ≤ 18446744073709551615) (hk : 0 ≤ k ∧ k ≤ 18446744073709551615) :
    Calls Tryd.prog 4 #[.slice ua xs.length uc, .agg #[.int .i64 a, .int .u64 m], .agg #[.int .i64 b, .int .u64 k]] W fun e V => e = .returned (.bool true) ∧ Below W.heap.size W V := by
  obtain ⟨i0, hi0, hz0, hz1, hz2⟩ := info_parts Tryd.infoU64
  have HU := Lib.hid hu
  have HNN := Lib.hid hun
  have HX := Lib.hid hx
  have HAW := Lib.hid (fun w (hb : Below W.heap.size W w) => awake19_any w (hT.on hb))
  have HJ := Lib.hid (fun w (hb : Below W.heap.size W w) {v : Value} (hv : Nums .u64 w.heap.size w v xs) => sjoin2_any (a := a) (b := b) w hv hx hxl (hT.on hb) hm hk)
  have HL := Lib.hid (fun w (hb : Below W.heap.size W w) {v : Value} (hv : Nums .u64 w.heap.size w v xs) => sleq_any (a := a) (b := b) w hv hx hxl (hT.on hb) hm hk)
  have b2 : (xs.length : Int) ≤ 17592186044416 := by have := hxl; unfold big5 at this; omega
  obtain ⟨z, ez⟩ : ∃ z, z = jB xs [(a, m), (b, k)] := ⟨_, rfl⟩
  obtain ⟨y1, ey1⟩ : ∃ y1 : Int, y1 = if z = true then ((joinVal xs [(a, m), (b, k)] [1]).1 : Int) else 0 := ⟨_, rfl⟩
  obtain ⟨y2, ey2⟩ : ∃ y2 : Int, y2 = if z = true then (joinVal xs [(a, m), (b, k)] [1]).2 else 0 := ⟨_, rfl⟩
  have HJR := Lib.hid (show jRet (jB xs [(a, m), (b, k)]) (joinVal xs [(a, m), (b, k)] [1]) = .tuple #[.agg #[.int .i64 y1, .int .u64 y2], .bool z] by unfold jRet; rw [ey1, ey2, ez])
  have HZ := Lib.hid ez
  obtain ⟨q, eq⟩ : ∃ q, q = sleqB xs a m b k := ⟨_, rfl⟩
  have HQ := Lib.hid eq
  clear eq
  have HY := Lib.hid (And.intro ey1 ey2)
  have HS0 := Lib.hid (twoB_start W a m b k)
  obtain ⟨W0, eW0⟩ : ∃ W0, W0 = ((W.alloc (.cells #[.int .i64 a, .int .u64 m] 38)).alloc (.cells #[.int .i64 b, .int .u64 k] 38)) := ⟨_, rfl⟩
  rw [← eW0] at HS0
  clear hu hun hxl hT hm hk ez ey1 ey2
  by_cases h20 : (20 : Int) < xs.length
  · go_enter Tryd.func4, Tryd.ntmps4
    go_upto_region 1 with fail
    rw [← eW0]
    clear eW0
    go_wp2_with fail
    go_ret
    exact ⟨rfl, HS0.out.1⟩
  · go_enter Tryd.func4, Tryd.ntmps4
    go_upto_region 1 with fail
    rw [← eW0]
    clear eW0
    go_upto_region 3 with fail
    have i20 : (xs.length : Int) ≤ 20 := by omega
    go_cut [7, 8] from 13 (fun s7 s8 w9 => ∃ lb : Nat, s7 = .pointer (some ⟨lb, 0, none⟩) ∧ s8 = .bool z ∧ TwoB W a m b k w9 ∧ w9.heap[lb]? = some (.cells #[.int .i64 y1, .int .u64 y2] 38) ∧ W.heap.size + 2 ≤ lb)
    case first =>
      have HX0 := Lib.hid (show TwoB W a m b k W0.drew from ⟨HS0.out.1.drew, HS0.out.2.1, HS0.out.2.2.1, HS0.out.2.2.2⟩)
      refine wp_region_held_drew (S := (fun V => V.cell? ⟨W.heap.size, 0, none⟩ = some (.int .i64 a) ∧ V.cell? ⟨W.heap.size, 1, none⟩ = some (.int .u64 m) ∧ V.cell? ⟨W.heap.size + 1, 0, none⟩ = some (.int .i64 b) ∧ V.cell? ⟨W.heap.size + 1, 1, none⟩ = some (.int .u64 k))) (by kernel_rfl) ?_ (fun hHeld => ?_)
      · exact HX0.out.cells
      generalize W0.drew = w0 at HX0 hHeld ⊢
      have HR0 := Lib.hid (Below.refl w0.heap.size w0)
      refine wpAnyH_take (i := 1) (v := .slice ua xs.length uc) rfl (by kernel_rfl) (by kernel_rfl) (by kernel_rfl) (fun _ _ _ h => h) (Or.inl ⟨by rfl, fun W hSW => ?_⟩) hHeld ?_
      · ((try dsimp only at hSW); go_split_ands; go_simp <;> with_reducible rfl)
      try simp only [List.getElem_toArray, List.getElem_cons_succ, List.getElem_cons_zero, Act.put, List.setIfInBounds_toArray, List.set_cons_zero, List.set_cons_succ]
      refine wpAnyH_take (i := 3) (v := .agg #[.int .i64 a, .int .u64 m]) rfl (by kernel_rfl) (by kernel_rfl) (by kernel_rfl) (fun _ _ _ h => h) (Or.inl ⟨by rfl, fun W hSW => ?_⟩) hHeld ?_
      · ((try dsimp only at hSW); go_split_ands; go_simp <;> with_reducible rfl)
      try simp only [List.getElem_toArray, List.getElem_cons_succ, List.getElem_cons_zero, Act.put, List.setIfInBounds_toArray, List.set_cons_zero, List.set_cons_succ]
      refine wpAnyH_take (i := 4) (v := .agg #[.int .i64 b, .int .u64 k]) rfl (by kernel_rfl) (by kernel_rfl) (by kernel_rfl) (fun _ _ _ h => h) (Or.inl ⟨by rfl, fun W hSW => ?_⟩) hHeld ?_
      · ((try dsimp only at hSW); go_split_ands; go_simp <;> with_reducible rfl)
      try simp only [List.getElem_toArray, List.getElem_cons_succ, List.getElem_cons_zero, Act.put, List.setIfInBounds_toArray, List.set_cons_zero, List.set_cons_succ]
      refine wpAnyH_ready (rs := [0, 9]) (by kernel_rfl) (by simp) ?_
      refine AllReadyH.cons rfl (fun K hK => ?_) ?_
      · try simp only [List.getElem_toArray, List.getElem_cons_succ, List.getElem_cons_zero]
        go_simp
        obtain ⟨wy1, ey⟩ : ∃ y, y = w0.alloc (.cells #[] 36) := ⟨_, rfl⟩
        rw [← ey]
        have hb : Below w0.heap.size w0 wy1 := by rw [ey]; exact (Below.refl _ _).alloc (Nat.le_refl _) _
        have F1_base := Lib.hid (HR0.out.trans (hb.mono HR0.out.size))
        have F1_lu := Lib.hid (show wy1.heap[w0.heap.size]? = some (.cells #[] 36) by rw [ey]; exact heap_alloc_new _ _)
        have G1_lu := Lib.hid (show w0.heap.size ≤ w0.heap.size from HR0.out.size)
        clear ey hb
        refine hK.out _ _ ?_ (fun hHeld => ?_)
        · exact (HX0.out.on F1_base.out).cells
        clear hK K
        try simp only [List.getElem_toArray, List.getElem_cons_succ, List.getElem_cons_zero, Act.put, List.setIfInBounds_toArray, List.set_cons_zero, List.set_cons_succ]
        refine wpAnyH_ready (rs := [2, 9]) (by kernel_rfl) (by simp) ?_
        refine AllReadyH.cons rfl (fun K hK => ?_) ?_
        · refine step_append_anyS rfl (.tmp 14) (.tmp 15) 22 rfl w0.heap.size 36 i0 (.int .u64 0) 1 8 Tryd.underlying22 hi0 hz0 hz1 hz2 rfl (by decide) (.slice (some ⟨w0.heap.size, 0, none⟩) 0 0) 0 [] (by rfl) (lit_rowS F1_lu.out G1_lu.out) (.slice ua xs.length uc) xs.length (xs.map (Value.int .u64)) (by rfl) (by simp) (nums_src ((HU.out.below (HX0.out.on F1_base.out).1).mono (HX0.out.on F1_base.out).1.size) HNN.out) (by intro u hu; obtain ⟨x, _, rfl⟩ := List.mem_map.1 hu; rfl) (by unfold maxLen; omega) (by omega) F1_base.out.size ?_
          intro vup wy2 ho hg
          have F2_base := Lib.hid (F1_base.out.grown hg F1_base.out.size (fun k e => by cases e; exact G1_lu.out))
          have F2_up := Lib.hid (own0S ho)
          obtain ⟨aup, cup, rfl⟩ := SS.ownOf F2_up.out
          clear ho hg
          refine hK.out _ _ ?_ (fun hHeld => ?_)
          · exact (HX0.out.on F2_base.out).cells
          clear hK K
          try simp only [List.getElem_toArray, List.getElem_cons_succ, List.getElem_cons_zero, Act.put, List.setIfInBounds_toArray, List.set_cons_zero, List.set_cons_succ]
          refine wpAnyH_ready (rs := [5, 9]) (by kernel_rfl) (by simp) ?_
          refine AllReadyH.cons rfl (fun K hK => ?_) ?_
          · try simp only [List.getElem_toArray, List.getElem_cons_succ, List.getElem_cons_zero]
            go_simp
            (go_at_call 16; refine (HJ.out wy2 (HX0.out.on F2_base.out).1 (nums_of_row F2_up.out)).mono ?_; rintro e wy3 ⟨rfl, hb⟩; rw [HJR.out])
            have F3_base := Lib.hid (F2_base.out.trans (hb.mono F2_base.out.size))
            have F3_up := Lib.hid (SS.own_of_block F2_up.out (fun k e => hb.block k (F2_up.out.lt k e).2))
            clear hb
            try go_wp2_with fail
            refine hK.out _ _ ?_ (fun hHeld => ?_)
            · exact (HX0.out.on F3_base.out).cells
            clear hK K
            try simp only [List.getElem_toArray, List.getElem_cons_succ, List.getElem_cons_zero, Act.put, List.setIfInBounds_toArray, List.set_cons_zero, List.set_cons_succ]
            refine wpAnyH_take (i := 6) (v := .tuple #[.agg #[.int .i64 y1, .int .u64 y2], .bool z]) rfl (by kernel_rfl) (by kernel_rfl) (by kernel_rfl) (fun _ _ _ h => h) (Or.inl ⟨by rfl, fun W hSW => ?_⟩) hHeld ?_
            · ((try dsimp only at hSW); go_split_ands; go_simp <;> with_reducible rfl)
            try simp only [List.getElem_toArray, List.getElem_cons_succ, List.getElem_cons_zero, Act.put, List.setIfInBounds_toArray, List.set_cons_zero, List.set_cons_succ]
            refine wpAnyH_take (i := 7) (v := .agg #[.int .i64 y1, .int .u64 y2]) rfl (by kernel_rfl) (by kernel_rfl) (by kernel_rfl) (fun _ _ _ h => h) (Or.inl ⟨by rfl, fun W hSW => ?_⟩) hHeld ?_
            · ((try dsimp only at hSW); go_split_ands; go_simp <;> with_reducible rfl)
            try simp only [List.getElem_toArray, List.getElem_cons_succ, List.getElem_cons_zero, Act.put, List.setIfInBounds_toArray, List.set_cons_zero, List.set_cons_succ]
            refine wpAnyH_take (i := 8) (v := .bool z) rfl (by kernel_rfl) (by kernel_rfl) (by kernel_rfl) (fun _ _ _ h => h) (Or.inl ⟨by rfl, fun W hSW => ?_⟩) hHeld ?_
            · ((try dsimp only at hSW); go_split_ands; go_simp <;> with_reducible rfl)
            try simp only [List.getElem_toArray, List.getElem_cons_succ, List.getElem_cons_zero, Act.put, List.setIfInBounds_toArray, List.set_cons_zero, List.set_cons_succ]
            refine wpAnyH_ready (rs := [9]) (by kernel_rfl) (by simp) ?_
            refine AllReadyH.cons rfl (fun K hK => ?_) ?_
            · try simp only [List.getElem_toArray, List.getElem_cons_succ, List.getElem_cons_zero]
              go_simp
              obtain ⟨wy4, ey⟩ : ∃ y, y = wy3.alloc (.cells #[.int .i64 0, .int .u64 0] 38) := ⟨_, rfl⟩
              rw [← ey]
              have hb : Below wy3.heap.size wy3 wy4 := by rw [ey]; exact (Below.refl _ _).alloc (Nat.le_refl _) _
              have F4_base := Lib.hid (F3_base.out.trans (hb.mono F3_base.out.size))
              have F4_up := Lib.hid (SS.own_of_block F3_up.out (fun k e => hb.block k (F3_up.out.lt k e).2))
              have F4_lab := Lib.hid (show wy4.heap[wy3.heap.size]? = some (.cells #[.int .i64 0, .int .u64 0] 38) by rw [ey]; exact heap_alloc_new _ _)
              have G4_lab := Lib.hid (show w0.heap.size ≤ wy3.heap.size from F3_base.out.size)
              clear ey hb
              refine hK.out _ _ ?_ (fun hHeld => ?_)
              · exact (HX0.out.on F4_base.out).cells
              clear hK K
              try simp only [List.getElem_toArray, List.getElem_cons_succ, List.getElem_cons_zero, Act.put, List.setIfInBounds_toArray, List.set_cons_zero, List.set_cons_succ]
              refine wpAnyH_ready (rs := [10]) (by kernel_rfl) (by simp) ?_
              refine AllReadyH.cons rfl (fun K hK => ?_) ?_
              · obtain ⟨s0, s1, s2, s3⟩ := one_lab F4_lab.out
                try simp only [List.getElem_toArray, List.getElem_cons_succ, List.getElem_cons_zero]
                go_simp
                have hs := (put_lab F4_lab.out (y1) (y2)).1
                have hbs := (F4_base.out.setCell (p := ⟨wy3.heap.size, 0, none⟩) G4_lab.out (.int .i64 (y1))).setCell (p := ⟨wy3.heap.size, 1, none⟩) G4_lab.out (.int .u64 (y2))
                generalize (wy4.setCell ⟨wy3.heap.size, 0, none⟩ (.int .i64 (y1))).setCell ⟨wy3.heap.size, 1, none⟩ (.int .u64 (y2)) = wy5 at hs hbs ⊢
                have F5_base := Lib.hid hbs
                have F5_lab := Lib.hid hs
                clear hs hbs s0 s1 s2 s3
                refine hK.out _ _ ?_ (fun hHeld => ?_)
                · exact (HX0.out.on F5_base.out).cells
                clear hK K
                try simp only [List.getElem_toArray, List.getElem_cons_succ, List.getElem_cons_zero, Act.put, List.setIfInBounds_toArray, List.set_cons_zero, List.set_cons_succ]
                refine wpAnyH_take (i := 11) (v := .bool z) rfl (by kernel_rfl) (by kernel_rfl) (by kernel_rfl) (fun _ _ _ h => h) (Or.inl ⟨by rfl, fun W hSW => ?_⟩) hHeld ?_
                · ((try dsimp only at hSW); go_split_ands; go_simp <;> with_reducible rfl)
                try simp only [List.getElem_toArray, List.getElem_cons_succ, List.getElem_cons_zero, Act.put, List.setIfInBounds_toArray, List.set_cons_zero, List.set_cons_succ]
                refine wpAnyH_done (by kernel_rfl) ?_ _
                clear hHeld
                go_wp2_with fail
                go_meet
                case rel => exact ⟨_, rfl, rfl, (HX0.out.on F5_base.out), F5_lab.out, Nat.le_trans HX0.out.2.1 G4_lab.out⟩
              exact AllReadyH.nil
            exact AllReadyH.nil
          refine AllReadyH.cons rfl (fun K hK => ?_) ?_
          · try simp only [List.getElem_toArray, List.getElem_cons_succ, List.getElem_cons_zero]
            go_simp
            obtain ⟨wy3, ey⟩ : ∃ y, y = wy2.alloc (.cells #[.int .i64 0, .int .u64 0] 38) := ⟨_, rfl⟩
            rw [← ey]
            have hb : Below wy2.heap.size wy2 wy3 := by rw [ey]; exact (Below.refl _ _).alloc (Nat.le_refl _) _
            have F3_base := Lib.hid (F2_base.out.trans (hb.mono F2_base.out.size))
            have F3_up := Lib.hid (SS.own_of_block F2_up.out (fun k e => hb.block k (F2_up.out.lt k e).2))
            have F3_lab := Lib.hid (show wy3.heap[wy2.heap.size]? = some (.cells #[.int .i64 0, .int .u64 0] 38) by rw [ey]; exact heap_alloc_new _ _)
            have G3_lab := Lib.hid (show w0.heap.size ≤ wy2.heap.size from F2_base.out.size)
            clear ey hb
            refine hK.out _ _ ?_ (fun hHeld => ?_)
            · exact (HX0.out.on F3_base.out).cells
            clear hK K
            try simp only [List.getElem_toArray, List.getElem_cons_succ, List.getElem_cons_zero, Act.put, List.setIfInBounds_toArray, List.set_cons_zero, List.set_cons_succ]
            refine wpAnyH_ready (rs := [5]) (by kernel_rfl) (by simp) ?_
            refine AllReadyH.cons rfl (fun K hK => ?_) ?_
            · try simp only [List.getElem_toArray, List.getElem_cons_succ, List.getElem_cons_zero]
              go_simp
              (go_at_call 16; refine (HJ.out wy3 (HX0.out.on F3_base.out).1 (nums_of_row F3_up.out)).mono ?_; rintro e wy4 ⟨rfl, hb⟩; rw [HJR.out])
              have F4_base := Lib.hid (F3_base.out.trans (hb.mono F3_base.out.size))
              have F4_up := Lib.hid (SS.own_of_block F3_up.out (fun k e => hb.block k (F3_up.out.lt k e).2))
              have F4_lab := Lib.hid ((hb.block _ (Array.getElem?_eq_some_iff.1 F3_lab.out).1).trans F3_lab.out)
              have F4_ge_lab := Lib.hid (G3_lab.out)
              clear hb
              try go_wp2_with fail
              refine hK.out _ _ ?_ (fun hHeld => ?_)
              · exact (HX0.out.on F4_base.out).cells
              clear hK K
              try simp only [List.getElem_toArray, List.getElem_cons_succ, List.getElem_cons_zero, Act.put, List.setIfInBounds_toArray, List.set_cons_zero, List.set_cons_succ]
              refine wpAnyH_take (i := 6) (v := .tuple #[.agg #[.int .i64 y1, .int .u64 y2], .bool z]) rfl (by kernel_rfl) (by kernel_rfl) (by kernel_rfl) (fun _ _ _ h => h) (Or.inl ⟨by rfl, fun W hSW => ?_⟩) hHeld ?_
              · ((try dsimp only at hSW); go_split_ands; go_simp <;> with_reducible rfl)
              try simp only [List.getElem_toArray, List.getElem_cons_succ, List.getElem_cons_zero, Act.put, List.setIfInBounds_toArray, List.set_cons_zero, List.set_cons_succ]
              refine wpAnyH_take (i := 7) (v := .agg #[.int .i64 y1, .int .u64 y2]) rfl (by kernel_rfl) (by kernel_rfl) (by kernel_rfl) (fun _ _ _ h => h) (Or.inl ⟨by rfl, fun W hSW => ?_⟩) hHeld ?_
              · ((try dsimp only at hSW); go_split_ands; go_simp <;> with_reducible rfl)
              try simp only [List.getElem_toArray, List.getElem_cons_succ, List.getElem_cons_zero, Act.put, List.setIfInBounds_toArray, List.set_cons_zero, List.set_cons_succ]
              refine wpAnyH_take (i := 8) (v := .bool z) rfl (by kernel_rfl) (by kernel_rfl) (by kernel_rfl) (fun _ _ _ h => h) (Or.inl ⟨by rfl, fun W hSW => ?_⟩) hHeld ?_
              · ((try dsimp only at hSW); go_split_ands; go_simp <;> with_reducible rfl)
              try simp only [List.getElem_toArray, List.getElem_cons_succ, List.getElem_cons_zero, Act.put, List.setIfInBounds_toArray, List.set_cons_zero, List.set_cons_succ]
              refine wpAnyH_ready (rs := [10]) (by kernel_rfl) (by simp) ?_
              refine AllReadyH.cons rfl (fun K hK => ?_) ?_
              · obtain ⟨s0, s1, s2, s3⟩ := one_lab F4_lab.out
                try simp only [List.getElem_toArray, List.getElem_cons_succ, List.getElem_cons_zero]
                go_simp
                have hs := (put_lab F4_lab.out (y1) (y2)).1
                have hbs := (F4_base.out.setCell (p := ⟨wy2.heap.size, 0, none⟩) F4_ge_lab.out (.int .i64 (y1))).setCell (p := ⟨wy2.heap.size, 1, none⟩) F4_ge_lab.out (.int .u64 (y2))
                generalize (wy4.setCell ⟨wy2.heap.size, 0, none⟩ (.int .i64 (y1))).setCell ⟨wy2.heap.size, 1, none⟩ (.int .u64 (y2)) = wy5 at hs hbs ⊢
                have F5_base := Lib.hid hbs
                have F5_lab := Lib.hid hs
                clear hs hbs s0 s1 s2 s3
                refine hK.out _ _ ?_ (fun hHeld => ?_)
                · exact (HX0.out.on F5_base.out).cells
                clear hK K
                try simp only [List.getElem_toArray, List.getElem_cons_succ, List.getElem_cons_zero, Act.put, List.setIfInBounds_toArray, List.set_cons_zero, List.set_cons_succ]
                refine wpAnyH_take (i := 11) (v := .bool z) rfl (by kernel_rfl) (by kernel_rfl) (by kernel_rfl) (fun _ _ _ h => h) (Or.inl ⟨by rfl, fun W hSW => ?_⟩) hHeld ?_
                · ((try dsimp only at hSW); go_split_ands; go_simp <;> with_reducible rfl)
                try simp only [List.getElem_toArray, List.getElem_cons_succ, List.getElem_cons_zero, Act.put, List.setIfInBounds_toArray, List.set_cons_zero, List.set_cons_succ]
                refine wpAnyH_done (by kernel_rfl) ?_ _
                clear hHeld
                go_wp2_with fail
                go_meet
                case rel => exact ⟨_, rfl, rfl, (HX0.out.on F5_base.out), F5_lab.out, Nat.le_trans HX0.out.2.1 F4_ge_lab.out⟩
              exact AllReadyH.nil
            exact AllReadyH.nil
          exact AllReadyH.nil
        refine AllReadyH.cons rfl (fun K hK => ?_) ?_
        · try simp only [List.getElem_toArray, List.getElem_cons_succ, List.getElem_cons_zero]
          go_simp
          obtain ⟨wy2, ey⟩ : ∃ y, y = wy1.alloc (.cells #[.int .i64 0, .int .u64 0] 38) := ⟨_, rfl⟩
          rw [← ey]
          have hb : Below wy1.heap.size wy1 wy2 := by rw [ey]; exact (Below.refl _ _).alloc (Nat.le_refl _) _
          have F2_base := Lib.hid (F1_base.out.trans (hb.mono F1_base.out.size))
          have F2_lu := Lib.hid ((hb.block _ (Array.getElem?_eq_some_iff.1 F1_lu.out).1).trans F1_lu.out)
          have F2_ge_lu := Lib.hid (G1_lu.out)
          have F2_lab := Lib.hid (show wy2.heap[wy1.heap.size]? = some (.cells #[.int .i64 0, .int .u64 0] 38) by rw [ey]; exact heap_alloc_new _ _)
          have G2_lab := Lib.hid (show w0.heap.size ≤ wy1.heap.size from F1_base.out.size)
          clear ey hb
          refine hK.out _ _ ?_ (fun hHeld => ?_)
          · exact (HX0.out.on F2_base.out).cells
          clear hK K
          try simp only [List.getElem_toArray, List.getElem_cons_succ, List.getElem_cons_zero, Act.put, List.setIfInBounds_toArray, List.set_cons_zero, List.set_cons_succ]
          refine wpAnyH_ready (rs := [2]) (by kernel_rfl) (by simp) ?_
          refine AllReadyH.cons rfl (fun K hK => ?_) ?_
          · refine step_append_anyS rfl (.tmp 14) (.tmp 15) 22 rfl w0.heap.size 36 i0 (.int .u64 0) 1 8 Tryd.underlying22 hi0 hz0 hz1 hz2 rfl (by decide) (.slice (some ⟨w0.heap.size, 0, none⟩) 0 0) 0 [] (by rfl) (lit_rowS F2_lu.out F2_ge_lu.out) (.slice ua xs.length uc) xs.length (xs.map (Value.int .u64)) (by rfl) (by simp) (nums_src ((HU.out.below (HX0.out.on F2_base.out).1).mono (HX0.out.on F2_base.out).1.size) HNN.out) (by intro u hu; obtain ⟨x, _, rfl⟩ := List.mem_map.1 hu; rfl) (by unfold maxLen; omega) (by omega) F2_base.out.size ?_
            intro vup wy3 ho hg
            have F3_base := Lib.hid (F2_base.out.grown hg F2_base.out.size (fun k e => by cases e; exact F2_ge_lu.out))
            have F3_lab := Lib.hid (lab_keep hg F2_lu.out F2_lab.out (by simp))
            have F3_ge_lab := Lib.hid (G2_lab.out)
            have F3_up := Lib.hid (own0S ho)
            obtain ⟨aup, cup, rfl⟩ := SS.ownOf F3_up.out
            clear ho hg
            refine hK.out _ _ ?_ (fun hHeld => ?_)
            · exact (HX0.out.on F3_base.out).cells
            clear hK K
            try simp only [List.getElem_toArray, List.getElem_cons_succ, List.getElem_cons_zero, Act.put, List.setIfInBounds_toArray, List.set_cons_zero, List.set_cons_succ]
            refine wpAnyH_ready (rs := [5]) (by kernel_rfl) (by simp) ?_
            refine AllReadyH.cons rfl (fun K hK => ?_) ?_
            · try simp only [List.getElem_toArray, List.getElem_cons_succ, List.getElem_cons_zero]
              go_simp
              (go_at_call 16; refine (HJ.out wy3 (HX0.out.on F3_base.out).1 (nums_of_row F3_up.out)).mono ?_; rintro e wy4 ⟨rfl, hb⟩; rw [HJR.out])
              have F4_base := Lib.hid (F3_base.out.trans (hb.mono F3_base.out.size))
              have F4_lab := Lib.hid ((hb.block _ (Array.getElem?_eq_some_iff.1 F3_lab.out).1).trans F3_lab.out)
              have F4_ge_lab := Lib.hid (F3_ge_lab.out)
              have F4_up := Lib.hid (SS.own_of_block F3_up.out (fun k e => hb.block k (F3_up.out.lt k e).2))
              clear hb
              try go_wp2_with fail
              refine hK.out _ _ ?_ (fun hHeld => ?_)
              · exact (HX0.out.on F4_base.out).cells
              clear hK K
              try simp only [List.getElem_toArray, List.getElem_cons_succ, List.getElem_cons_zero, Act.put, List.setIfInBounds_toArray, List.set_cons_zero, List.set_cons_succ]
              refine wpAnyH_take (i := 6) (v := .tuple #[.agg #[.int .i64 y1, .int .u64 y2], .bool z]) rfl (by kernel_rfl) (by kernel_rfl) (by kernel_rfl) (fun _ _ _ h => h) (Or.inl ⟨by rfl, fun W hSW => ?_⟩) hHeld ?_
              · ((try dsimp only at hSW); go_split_ands; go_simp <;> with_reducible rfl)
              try simp only [List.getElem_toArray, List.getElem_cons_succ, List.getElem_cons_zero, Act.put, List.setIfInBounds_toArray, List.set_cons_zero, List.set_cons_succ]
              refine wpAnyH_take (i := 7) (v := .agg #[.int .i64 y1, .int .u64 y2]) rfl (by kernel_rfl) (by kernel_rfl) (by kernel_rfl) (fun _ _ _ h => h) (Or.inl ⟨by rfl, fun W hSW => ?_⟩) hHeld ?_
              · ((try dsimp only at hSW); go_split_ands; go_simp <;> with_reducible rfl)
              try simp only [List.getElem_toArray, List.getElem_cons_succ, List.getElem_cons_zero, Act.put, List.setIfInBounds_toArray, List.set_cons_zero, List.set_cons_succ]
              refine wpAnyH_take (i := 8) (v := .bool z) rfl (by kernel_rfl) (by kernel_rfl) (by kernel_rfl) (fun _ _ _ h => h) (Or.inl ⟨by rfl, fun W hSW => ?_⟩) hHeld ?_
              · ((try dsimp only at hSW); go_split_ands; go_simp <;> with_reducible rfl)
              try simp only [List.getElem_toArray, List.getElem_cons_succ, List.getElem_cons_zero, Act.put, List.setIfInBounds_toArray, List.set_cons_zero, List.set_cons_succ]
              refine wpAnyH_ready (rs := [10]) (by kernel_rfl) (by simp) ?_
              refine AllReadyH.cons rfl (fun K hK => ?_) ?_
              · obtain ⟨s0, s1, s2, s3⟩ := one_lab F4_lab.out
                try simp only [List.getElem_toArray, List.getElem_cons_succ, List.getElem_cons_zero]
                go_simp
                have hs := (put_lab F4_lab.out (y1) (y2)).1
                have hbs := (F4_base.out.setCell (p := ⟨wy1.heap.size, 0, none⟩) F4_ge_lab.out (.int .i64 (y1))).setCell (p := ⟨wy1.heap.size, 1, none⟩) F4_ge_lab.out (.int .u64 (y2))
                generalize (wy4.setCell ⟨wy1.heap.size, 0, none⟩ (.int .i64 (y1))).setCell ⟨wy1.heap.size, 1, none⟩ (.int .u64 (y2)) = wy5 at hs hbs ⊢
                have F5_base := Lib.hid hbs
                have F5_lab := Lib.hid hs
                clear hs hbs s0 s1 s2 s3
                refine hK.out _ _ ?_ (fun hHeld => ?_)
                · exact (HX0.out.on F5_base.out).cells
                clear hK K
                try simp only [List.getElem_toArray, List.getElem_cons_succ, List.getElem_cons_zero, Act.put, List.setIfInBounds_toArray, List.set_cons_zero, List.set_cons_succ]
                refine wpAnyH_take (i := 11) (v := .bool z) rfl (by kernel_rfl) (by kernel_rfl) (by kernel_rfl) (fun _ _ _ h => h) (Or.inl ⟨by rfl, fun W hSW => ?_⟩) hHeld ?_
                · ((try dsimp only at hSW); go_split_ands; go_simp <;> with_reducible rfl)
                try simp only [List.getElem_toArray, List.getElem_cons_succ, List.getElem_cons_zero, Act.put, List.setIfInBounds_toArray, List.set_cons_zero, List.set_cons_succ]
                refine wpAnyH_done (by kernel_rfl) ?_ _
                clear hHeld
                go_wp2_with fail
                go_meet
                case rel => exact ⟨_, rfl, rfl, (HX0.out.on F5_base.out), F5_lab.out, Nat.le_trans HX0.out.2.1 F4_ge_lab.out⟩
              exact AllReadyH.nil
            exact AllReadyH.nil
          exact AllReadyH.nil
        exact AllReadyH.nil
      refine AllReadyH.cons rfl (fun K hK => ?_) ?_
      · try simp only [List.getElem_toArray, List.getElem_cons_succ, List.getElem_cons_zero]
        go_simp
        obtain ⟨wy1, ey⟩ : ∃ y, y = w0.alloc (.cells #[.int .i64 0, .int .u64 0] 38) := ⟨_, rfl⟩
        rw [← ey]
        have hb : Below w0.heap.size w0 wy1 := by rw [ey]; exact (Below.refl _ _).alloc (Nat.le_refl _) _
        have F1_base := Lib.hid (HR0.out.trans (hb.mono HR0.out.size))
        have F1_lab := Lib.hid (show wy1.heap[w0.heap.size]? = some (.cells #[.int .i64 0, .int .u64 0] 38) by rw [ey]; exact heap_alloc_new _ _)
        have G1_lab := Lib.hid (show w0.heap.size ≤ w0.heap.size from HR0.out.size)
        clear ey hb
        refine hK.out _ _ ?_ (fun hHeld => ?_)
        · exact (HX0.out.on F1_base.out).cells
        clear hK K
        try simp only [List.getElem_toArray, List.getElem_cons_succ, List.getElem_cons_zero, Act.put, List.setIfInBounds_toArray, List.set_cons_zero, List.set_cons_succ]
        refine wpAnyH_ready (rs := [0]) (by kernel_rfl) (by simp) ?_
        refine AllReadyH.cons rfl (fun K hK => ?_) ?_
        · try simp only [List.getElem_toArray, List.getElem_cons_succ, List.getElem_cons_zero]
          go_simp
          obtain ⟨wy2, ey⟩ : ∃ y, y = wy1.alloc (.cells #[] 36) := ⟨_, rfl⟩
          rw [← ey]
          have hb : Below wy1.heap.size wy1 wy2 := by rw [ey]; exact (Below.refl _ _).alloc (Nat.le_refl _) _
          have F2_base := Lib.hid (F1_base.out.trans (hb.mono F1_base.out.size))
          have F2_lab := Lib.hid ((hb.block _ (Array.getElem?_eq_some_iff.1 F1_lab.out).1).trans F1_lab.out)
          have F2_ge_lab := Lib.hid (G1_lab.out)
          have F2_lu := Lib.hid (show wy2.heap[wy1.heap.size]? = some (.cells #[] 36) by rw [ey]; exact heap_alloc_new _ _)
          have G2_lu := Lib.hid (show w0.heap.size ≤ wy1.heap.size from F1_base.out.size)
          clear ey hb
          refine hK.out _ _ ?_ (fun hHeld => ?_)
          · exact (HX0.out.on F2_base.out).cells
          clear hK K
          try simp only [List.getElem_toArray, List.getElem_cons_succ, List.getElem_cons_zero, Act.put, List.setIfInBounds_toArray, List.set_cons_zero, List.set_cons_succ]
          refine wpAnyH_ready (rs := [2]) (by kernel_rfl) (by simp) ?_
          refine AllReadyH.cons rfl (fun K hK => ?_) ?_
          · refine step_append_anyS rfl (.tmp 14) (.tmp 15) 22 rfl w0.heap.size 36 i0 (.int .u64 0) 1 8 Tryd.underlying22 hi0 hz0 hz1 hz2 rfl (by decide) (.slice (some ⟨wy1.heap.size, 0, none⟩) 0 0) 0 [] (by rfl) (lit_rowS F2_lu.out G2_lu.out) (.slice ua xs.length uc) xs.length (xs.map (Value.int .u64)) (by rfl) (by simp) (nums_src ((HU.out.below (HX0.out.on F2_base.out).1).mono (HX0.out.on F2_base.out).1.size) HNN.out) (by intro u hu; obtain ⟨x, _, rfl⟩ := List.mem_map.1 hu; rfl) (by unfold maxLen; omega) (by omega) F2_base.out.size ?_
            intro vup wy3 ho hg
            have F3_base := Lib.hid (F2_base.out.grown hg F2_base.out.size (fun k e => by cases e; exact G2_lu.out))
            have F3_lab := Lib.hid (lab_keep hg F2_lu.out F2_lab.out (by simp))
            have F3_ge_lab := Lib.hid (F2_ge_lab.out)
            have F3_up := Lib.hid (own0S ho)
            obtain ⟨aup, cup, rfl⟩ := SS.ownOf F3_up.out
            clear ho hg
            refine hK.out _ _ ?_ (fun hHeld => ?_)
            · exact (HX0.out.on F3_base.out).cells
            clear hK K
            try simp only [List.getElem_toArray, List.getElem_cons_succ, List.getElem_cons_zero, Act.put, List.setIfInBounds_toArray, List.set_cons_zero, List.set_cons_succ]
            refine wpAnyH_ready (rs := [5]) (by kernel_rfl) (by simp) ?_
            refine AllReadyH.cons rfl (fun K hK => ?_) ?_
            · try simp only [List.getElem_toArray, List.getElem_cons_succ, List.getElem_cons_zero]
              go_simp
              (go_at_call 16; refine (HJ.out wy3 (HX0.out.on F3_base.out).1 (nums_of_row F3_up.out)).mono ?_; rintro e wy4 ⟨rfl, hb⟩; rw [HJR.out])
              have F4_base := Lib.hid (F3_base.out.trans (hb.mono F3_base.out.size))
              have F4_lab := Lib.hid ((hb.block _ (Array.getElem?_eq_some_iff.1 F3_lab.out).1).trans F3_lab.out)
              have F4_ge_lab := Lib.hid (F3_ge_lab.out)
              have F4_up := Lib.hid (SS.own_of_block F3_up.out (fun k e => hb.block k (F3_up.out.lt k e).2))
              clear hb
              try go_wp2_with fail
              refine hK.out _ _ ?_ (fun hHeld => ?_)
              · exact (HX0.out.on F4_base.out).cells
              clear hK K
              try simp only [List.getElem_toArray, List.getElem_cons_succ, List.getElem_cons_zero, Act.put, List.setIfInBounds_toArray, List.set_cons_zero, List.set_cons_succ]
              refine wpAnyH_take (i := 6) (v := .tuple #[.agg #[.int .i64 y1, .int .u64 y2], .bool z]) rfl (by kernel_rfl) (by kernel_rfl) (by kernel_rfl) (fun _ _ _ h => h) (Or.inl ⟨by rfl, fun W hSW => ?_⟩) hHeld ?_
              · ((try dsimp only at hSW); go_split_ands; go_simp <;> with_reducible rfl)
              try simp only [List.getElem_toArray, List.getElem_cons_succ, List.getElem_cons_zero, Act.put, List.setIfInBounds_toArray, List.set_cons_zero, List.set_cons_succ]
              refine wpAnyH_take (i := 7) (v := .agg #[.int .i64 y1, .int .u64 y2]) rfl (by kernel_rfl) (by kernel_rfl) (by kernel_rfl) (fun _ _ _ h => h) (Or.inl ⟨by rfl, fun W hSW => ?_⟩) hHeld ?_
              · ((try dsimp only at hSW); go_split_ands; go_simp <;> with_reducible rfl)
              try simp only [List.getElem_toArray, List.getElem_cons_succ, List.getElem_cons_zero, Act.put, List.setIfInBounds_toArray, List.set_cons_zero, List.set_cons_succ]
              refine wpAnyH_take (i := 8) (v := .bool z) rfl (by kernel_rfl) (by kernel_rfl) (by kernel_rfl) (fun _ _ _ h => h) (Or.inl ⟨by rfl, fun W hSW => ?_⟩) hHeld ?_
              · ((try dsimp only at hSW); go_split_ands; go_simp <;> with_reducible rfl)
              try simp only [List.getElem_toArray, List.getElem_cons_succ, List.getElem_cons_zero, Act.put, List.setIfInBounds_toArray, List.set_cons_zero, List.set_cons_succ]
              refine wpAnyH_ready (rs := [10]) (by kernel_rfl) (by simp) ?_
              refine AllReadyH.cons rfl (fun K hK => ?_) ?_
              · obtain ⟨s0, s1, s2, s3⟩ := one_lab F4_lab.out
                try simp only [List.getElem_toArray, List.getElem_cons_succ, List.getElem_cons_zero]
                go_simp
                have hs := (put_lab F4_lab.out (y1) (y2)).1
                have hbs := (F4_base.out.setCell (p := ⟨w0.heap.size, 0, none⟩) F4_ge_lab.out (.int .i64 (y1))).setCell (p := ⟨w0.heap.size, 1, none⟩) F4_ge_lab.out (.int .u64 (y2))
                generalize (wy4.setCell ⟨w0.heap.size, 0, none⟩ (.int .i64 (y1))).setCell ⟨w0.heap.size, 1, none⟩ (.int .u64 (y2)) = wy5 at hs hbs ⊢
                have F5_base := Lib.hid hbs
                have F5_lab := Lib.hid hs
                clear hs hbs s0 s1 s2 s3
                refine hK.out _ _ ?_ (fun hHeld => ?_)
                · exact (HX0.out.on F5_base.out).cells
                clear hK K
                try simp only [List.getElem_toArray, List.getElem_cons_succ, List.getElem_cons_zero, Act.put, List.setIfInBounds_toArray, List.set_cons_zero, List.set_cons_succ]
                refine wpAnyH_take (i := 11) (v := .bool z) rfl (by kernel_rfl) (by kernel_rfl) (by kernel_rfl) (fun _ _ _ h => h) (Or.inl ⟨by rfl, fun W hSW => ?_⟩) hHeld ?_
                · ((try dsimp only at hSW); go_split_ands; go_simp <;> with_reducible rfl)
                try simp only [List.getElem_toArray, List.getElem_cons_succ, List.getElem_cons_zero, Act.put, List.setIfInBounds_toArray, List.set_cons_zero, List.set_cons_succ]
                refine wpAnyH_done (by kernel_rfl) ?_ _
                clear hHeld
                go_wp2_with fail
                go_meet
                case rel => exact ⟨_, rfl, rfl, (HX0.out.on F5_base.out), F5_lab.out, Nat.le_trans HX0.out.2.1 F4_ge_lab.out⟩
              exact AllReadyH.nil
            exact AllReadyH.nil
          exact AllReadyH.nil
        exact AllReadyH.nil
      exact AllReadyH.nil
    case rest =>
      obtain ⟨lb, rfl, rfl, hx9, hl9, hlb⟩ := hcut
      have HX9 := Lib.hid hx9
      have HL9 := Lib.hid hl9
      clear hx9 hl9
      go_upto_region 4 with fail
      have HX1 := Lib.hid (show TwoB W a m b k wc.drew from ⟨HX9.out.1.drew, HX9.out.2.1, HX9.out.2.2.1, HX9.out.2.2.2⟩)
      have HL1 := Lib.hid (show wc.drew.heap[lb]? = some (.cells #[.int .i64 y1, .int .u64 y2] 38) from HL9.out)
      refine wp_region_held_drew (S := (fun V => V.cell? ⟨W.heap.size, 0, none⟩ = some (.int .i64 a) ∧ V.cell? ⟨W.heap.size, 1, none⟩ = some (.int .u64 m) ∧ V.cell? ⟨W.heap.size + 1, 0, none⟩ = some (.int .i64 b) ∧ V.cell? ⟨W.heap.size + 1, 1, none⟩ = some (.int .u64 k) ∧ V.cell? ⟨lb, 0, none⟩ = some (.int .i64 y1) ∧ V.cell? ⟨lb, 1, none⟩ = some (.int .u64 y2))) (by kernel_rfl) ?_ (fun hHeld => ?_)
      · exact ⟨HX1.out.cells.1, HX1.out.cells.2.1, HX1.out.cells.2.2.1, HX1.out.cells.2.2.2, (two_lab HL1.out).1, (two_lab HL1.out).2⟩
      clear HX9 HL9 HS0
      generalize wc.drew = w1 at HX1 HL1 hHeld ⊢
      have HR1 := Lib.hid (Below.refl w1.heap.size w1)
      refine wpAnyH_take (i := 1) (v := .slice ua xs.length uc) rfl (by kernel_rfl) (by kernel_rfl) (by kernel_rfl) (fun _ _ _ h => h) (Or.inl ⟨by rfl, fun W hSW => ?_⟩) hHeld ?_
      · ((try dsimp only at hSW); go_split_ands; go_simp <;> with_reducible rfl)
      try simp only [List.getElem_toArray, List.getElem_cons_succ, List.getElem_cons_zero, Act.put, List.setIfInBounds_toArray, List.set_cons_zero, List.set_cons_succ]
      refine wpAnyH_take (i := 3) (v := .agg #[.int .i64 a, .int .u64 m]) rfl (by kernel_rfl) (by kernel_rfl) (by kernel_rfl) (fun _ _ _ h => h) (Or.inl ⟨by rfl, fun W hSW => ?_⟩) hHeld ?_
      · ((try dsimp only at hSW); go_split_ands; go_simp <;> with_reducible rfl)
      try simp only [List.getElem_toArray, List.getElem_cons_succ, List.getElem_cons_zero, Act.put, List.setIfInBounds_toArray, List.set_cons_zero, List.set_cons_succ]
      refine wpAnyH_take (i := 4) (v := .agg #[.int .i64 b, .int .u64 k]) rfl (by kernel_rfl) (by kernel_rfl) (by kernel_rfl) (fun _ _ _ h => h) (Or.inl ⟨by rfl, fun W hSW => ?_⟩) hHeld ?_
      · ((try dsimp only at hSW); go_split_ands; go_simp <;> with_reducible rfl)
      try simp only [List.getElem_toArray, List.getElem_cons_succ, List.getElem_cons_zero, Act.put, List.setIfInBounds_toArray, List.set_cons_zero, List.set_cons_succ]
      refine wpAnyH_ready (rs := [0]) (by kernel_rfl) (by simp) ?_
      refine AllReadyH.cons rfl (fun K hK => ?_) ?_
      · try simp only [List.getElem_toArray, List.getElem_cons_succ, List.getElem_cons_zero]
        go_simp
        obtain ⟨wy1, ey⟩ : ∃ y, y = w1.alloc (.cells #[] 36) := ⟨_, rfl⟩
        rw [← ey]
        have hb : Below w1.heap.size w1 wy1 := by rw [ey]; exact (Below.refl _ _).alloc (Nat.le_refl _) _
        have F1_base := Lib.hid (HR1.out.trans (hb.mono HR1.out.size))
        have F1_lab := Lib.hid ((hb.block _ (Array.getElem?_eq_some_iff.1 HL1.out).1).trans HL1.out)
        have F1_lu := Lib.hid (show wy1.heap[w1.heap.size]? = some (.cells #[] 36) by rw [ey]; exact heap_alloc_new _ _)
        have G1_lu := Lib.hid (show w1.heap.size ≤ w1.heap.size from HR1.out.size)
        clear ey hb
        refine hK.out _ _ ?_ (fun hHeld => ?_)
        · exact ⟨(HX1.out.on F1_base.out).cells.1, (HX1.out.on F1_base.out).cells.2.1, (HX1.out.on F1_base.out).cells.2.2.1, (HX1.out.on F1_base.out).cells.2.2.2, (two_lab F1_lab.out).1, (two_lab F1_lab.out).2⟩
        clear hK K
        try simp only [List.getElem_toArray, List.getElem_cons_succ, List.getElem_cons_zero, Act.put, List.setIfInBounds_toArray, List.set_cons_zero, List.set_cons_succ]
        refine wpAnyH_ready (rs := [2]) (by kernel_rfl) (by simp) ?_
        refine AllReadyH.cons rfl (fun K hK => ?_) ?_
        · refine step_append_anyS rfl (.tmp 22) (.tmp 23) 22 rfl w1.heap.size 36 i0 (.int .u64 0) 1 8 Tryd.underlying22 hi0 hz0 hz1 hz2 rfl (by decide) (.slice (some ⟨w1.heap.size, 0, none⟩) 0 0) 0 [] (by rfl) (lit_rowS F1_lu.out G1_lu.out) (.slice ua xs.length uc) xs.length (xs.map (Value.int .u64)) (by rfl) (by simp) (nums_src ((HU.out.below (HX1.out.on F1_base.out).1).mono (HX1.out.on F1_base.out).1.size) HNN.out) (by intro u hu; obtain ⟨x, _, rfl⟩ := List.mem_map.1 hu; rfl) (by unfold maxLen; omega) (by omega) F1_base.out.size ?_
          intro vup wy2 ho hg
          have F2_base := Lib.hid (F1_base.out.grown hg F1_base.out.size (fun k e => by cases e; exact G1_lu.out))
          have F2_lab := Lib.hid (lab_keep hg F1_lu.out F1_lab.out (by simp))
          have F2_up := Lib.hid (own0S ho)
          obtain ⟨aup, cup, rfl⟩ := SS.ownOf F2_up.out
          clear ho hg
          refine hK.out _ _ ?_ (fun hHeld => ?_)
          · exact ⟨(HX1.out.on F2_base.out).cells.1, (HX1.out.on F2_base.out).cells.2.1, (HX1.out.on F2_base.out).cells.2.2.1, (HX1.out.on F2_base.out).cells.2.2.2, (two_lab F2_lab.out).1, (two_lab F2_lab.out).2⟩
          clear hK K
          try simp only [List.getElem_toArray, List.getElem_cons_succ, List.getElem_cons_zero, Act.put, List.setIfInBounds_toArray, List.set_cons_zero, List.set_cons_succ]
          refine wpAnyH_ready (rs := [5]) (by kernel_rfl) (by simp) ?_
          refine AllReadyH.cons rfl (fun K hK => ?_) ?_
          · try simp only [List.getElem_toArray, List.getElem_cons_succ, List.getElem_cons_zero]
            go_simp
            (go_at_call 17; refine (HL.out wy2 (HX1.out.on F2_base.out).1 (nums_of_row F2_up.out)).mono ?_; rintro e wy3 ⟨rfl, hb⟩; rw [← HQ.out])
            have F3_base := Lib.hid (F2_base.out.trans (hb.mono F2_base.out.size))
            have F3_lab := Lib.hid ((hb.block _ (Array.getElem?_eq_some_iff.1 F2_lab.out).1).trans F2_lab.out)
            have F3_up := Lib.hid (SS.own_of_block F2_up.out (fun k e => hb.block k (F2_up.out.lt k e).2))
            clear hb
            try go_wp2_with fail
            refine hK.out _ _ ?_ (fun hHeld => ?_)
            · exact ⟨(HX1.out.on F3_base.out).cells.1, (HX1.out.on F3_base.out).cells.2.1, (HX1.out.on F3_base.out).cells.2.2.1, (HX1.out.on F3_base.out).cells.2.2.2, (two_lab F3_lab.out).1, (two_lab F3_lab.out).2⟩
            clear hK K
            try simp only [List.getElem_toArray, List.getElem_cons_succ, List.getElem_cons_zero, Act.put, List.setIfInBounds_toArray, List.set_cons_zero, List.set_cons_succ]
            refine wpAnyH_take (i := 6) (v := .bool q) rfl (by kernel_rfl) (by kernel_rfl) (by kernel_rfl) (fun _ _ _ h => h) (Or.inl ⟨by rfl, fun W hSW => ?_⟩) hHeld ?_
            · ((try dsimp only at hSW); go_split_ands; go_simp <;> with_reducible rfl)
            try simp only [List.getElem_toArray, List.getElem_cons_succ, List.getElem_cons_zero, Act.put, List.setIfInBounds_toArray, List.set_cons_zero, List.set_cons_succ]
            refine wpAnyH_done (by kernel_rfl) ?_ _
            have HX2 := Lib.hid (HX1.out.on F3_base.out)
            have HL2 := Lib.hid F3_lab.out
            clear hHeld
            have b9 : xs.length ≤ 9223372036854775807 := by omega
            have hE := eq_lab
            obtain ⟨hc0, hc1, hc2, hc3⟩ := HX2.out.cells
            obtain ⟨hl0, hl1⟩ := two_lab HL2.out
            cases hr : LL.rightB xs with
            | false =>
              have hz : z = false := by rw [HZ.out]; unfold jB; simp [hr]
              have hqf : q = false := by rw [HQ.out]; unfold sleqB; simp [hr]
              have hy := HY.out
              rw [hz] at hy
              obtain ⟨e1, e2⟩ := hy
              simp at e1 e2
              clear HY HJR HZ HQ
              subst hz hqf e1 e2
              have HRR := Lib.hid hr
              clear hr
              go_wp2_with (go_at_call 18; refine (rright_any _ xs _ _ ((HU.out.below HX2.out.1).mono HX2.out.1.size) HX.out (by omega)).mono ?_; rintro e w3 ⟨rfl, d, e2⟩; rw [HRR.out]; have HX3 := Lib.hid (HX2.out.on (show Below wy3.heap.size wy3 w3 from by rw [e2]; exact bel_of_dN d)); have HL3 := Lib.hid (show w3.heap[lb]? = some (.cells #[.int .i64 0, .int .u64 0] 38) from by rw [e2]; exact HL2.out); clear e2 hc0 hc1 hc2 hc3 hl0 hl1; obtain ⟨hc0, hc1, hc2, hc3⟩ := HX3.out.cells; obtain ⟨hl0, hl1⟩ := two_lab HL3.out)
              go_wp2_with (go_at_call 20; refine (HAW.out _ HX3.out.1).mono ?_; rintro e w9 ⟨rfl, hb⟩; have HF := Lib.hid (HX3.out.on hb); clear hb)
              go_ret
              exact ⟨rfl, HF.out.1⟩
            | true =>
              have HRR := Lib.hid hr
              cases hga : labOk xs.length (a, m) with
              | false =>
                have hz : z = false := by rw [HZ.out]; unfold jB; simp [hr, hga]
                have hqf : q = false := by rw [HQ.out]; unfold sleqB; simp [hr, hga]
                have hy := HY.out
                rw [hz] at hy
                obtain ⟨e1, e2⟩ := hy
                simp at e1 e2
                clear HY HJR HZ HQ
                subst hz hqf e1 e2
                have HGA := Lib.hid hga
                clear hr hga
                go_wp2_with (go_at_call 18; refine (rright_any _ xs _ _ ((HU.out.below HX2.out.1).mono HX2.out.1.size) HX.out (by omega)).mono ?_; rintro e w3 ⟨rfl, d, e2⟩; rw [HRR.out]; have HX3 := Lib.hid (HX2.out.on (show Below wy3.heap.size wy3 w3 from by rw [e2]; exact bel_of_dN d)); have HL3 := Lib.hid (show w3.heap[lb]? = some (.cells #[.int .i64 0, .int .u64 0] 38) from by rw [e2]; exact HL2.out); clear e2 hc0 hc1 hc2 hc3 hl0 hl1; obtain ⟨hc0, hc1, hc2, hc3⟩ := HX3.out.cells; obtain ⟨hl0, hl1⟩ := two_lab HL3.out)
                refine (rgood17_any _ _ _ _ _ _).mono ?_
                rintro e w4 ⟨rfl, hb⟩
                rw [HGA.out]
                have HX4 := Lib.hid (HX3.out.on hb)
                have HL4 := Lib.hid ((hb.block _ (Array.getElem?_eq_some_iff.1 HL3.out).1).trans HL3.out)
                clear hb hc0 hc1 hc2 hc3 hl0 hl1
                obtain ⟨hc0, hc1, hc2, hc3⟩ := HX4.out.cells
                obtain ⟨hl0, hl1⟩ := two_lab HL4.out
                go_wp2_with (go_at_call 20; refine (HAW.out _ HX4.out.1).mono ?_; rintro e w9 ⟨rfl, hb⟩; have HF := Lib.hid (HX4.out.on hb); clear hb)
                go_ret
                exact ⟨rfl, HF.out.1⟩
              | true =>
                have HGA := Lib.hid hga
                cases hgb : labOk xs.length (b, k) with
                | false =>
                  have hz : z = false := by rw [HZ.out]; unfold jB; simp [hr, hga, hgb]
                  have hqf : q = false := by rw [HQ.out]; unfold sleqB; simp [hr, hga, hgb]
                  have hy := HY.out
                  rw [hz] at hy
                  obtain ⟨e1, e2⟩ := hy
                  simp at e1 e2
                  clear HY HJR HZ HQ
                  subst hz hqf e1 e2
                  have HGB := Lib.hid hgb
                  clear hr hga hgb
                  go_wp2_with (go_at_call 18; refine (rright_any _ xs _ _ ((HU.out.below HX2.out.1).mono HX2.out.1.size) HX.out (by omega)).mono ?_; rintro e w3 ⟨rfl, d, e2⟩; rw [HRR.out]; have HX3 := Lib.hid (HX2.out.on (show Below wy3.heap.size wy3 w3 from by rw [e2]; exact bel_of_dN d)); have HL3 := Lib.hid (show w3.heap[lb]? = some (.cells #[.int .i64 0, .int .u64 0] 38) from by rw [e2]; exact HL2.out); clear e2 hc0 hc1 hc2 hc3 hl0 hl1; obtain ⟨hc0, hc1, hc2, hc3⟩ := HX3.out.cells; obtain ⟨hl0, hl1⟩ := two_lab HL3.out)
                  refine (rgood17_any _ _ _ _ _ _).mono ?_
                  rintro e w4 ⟨rfl, hb⟩
                  rw [HGA.out]
                  have HX4 := Lib.hid (HX3.out.on hb)
                  have HL4 := Lib.hid ((hb.block _ (Array.getElem?_eq_some_iff.1 HL3.out).1).trans HL3.out)
                  clear hb hc0 hc1 hc2 hc3 hl0 hl1
                  obtain ⟨hc0, hc1, hc2, hc3⟩ := HX4.out.cells
                  obtain ⟨hl0, hl1⟩ := two_lab HL4.out
                  go_wp2_with fail
                  refine (rgood17_any _ _ _ _ _ _).mono ?_
                  rintro e w5 ⟨rfl, hb⟩
                  rw [HGB.out]
                  have HX5 := Lib.hid (HX4.out.on hb)
                  have HL5 := Lib.hid ((hb.block _ (Array.getElem?_eq_some_iff.1 HL4.out).1).trans HL4.out)
                  clear hb hc0 hc1 hc2 hc3 hl0 hl1
                  obtain ⟨hc0, hc1, hc2, hc3⟩ := HX5.out.cells
                  obtain ⟨hl0, hl1⟩ := two_lab HL5.out
                  go_wp2_with (go_at_call 20; refine (HAW.out _ HX5.out.1).mono ?_; rintro e w9 ⟨rfl, hb⟩; have HF := Lib.hid (HX5.out.on hb); clear hb)
                  go_ret
                  exact ⟨rfl, HF.out.1⟩
                | true =>
                  have HGB := Lib.hid hgb
                  have hz : z = true := by rw [HZ.out]; unfold jB; simp [hr, hga, hgb]
                  have ha := hga
                  have hb := hgb
                  unfold labOk at ha hb
                  simp only [decide_eq_true_eq] at ha hb
                  obtain ⟨al, rfl⟩ := Int.eq_ofNat_of_zero_le ha.1
                  obtain ⟨bl, rfl⟩ := Int.eq_ofNat_of_zero_le hb.1
                  have HAL := Lib.hid (show al < xs.length by omega)
                  have HBL := Lib.hid (show bl < xs.length by omega)
                  have hy := HY.out
                  rw [hz, joinVal_two] at hy
                  have HJ1 := Lib.hid (show LL.joinI xs al bl = y1 by rw [hy.1]; exact (LL.joinN_is hr HAL.out HBL.out).2)
                  have HJ2 := Lib.hid (show bits .or .u64 m k = y2 by rw [hy.2]; rfl)
                  have HQL := Lib.hid (show q = lleqB xs (al, m) (bl, k) by rw [HQ.out]; unfold sleqB; simp [hr, hga, hgb])
                  clear HY HJR HZ HQ hy ha hb
                  subst hz
                  clear hr hga hgb
                  go_wp2_with (go_at_call 18; refine (rright_any _ xs _ _ ((HU.out.below HX2.out.1).mono HX2.out.1.size) HX.out (by omega)).mono ?_; rintro e w3 ⟨rfl, d, e2⟩; rw [HRR.out]; have HX3 := Lib.hid (HX2.out.on (show Below wy3.heap.size wy3 w3 from by rw [e2]; exact bel_of_dN d)); have HL3 := Lib.hid (show w3.heap[lb]? = some (.cells #[.int .i64 y1, .int .u64 y2] 38) from by rw [e2]; exact HL2.out); clear e2 hc0 hc1 hc2 hc3 hl0 hl1; obtain ⟨hc0, hc1, hc2, hc3⟩ := HX3.out.cells; obtain ⟨hl0, hl1⟩ := two_lab HL3.out)
                  refine (rgood17_any _ _ _ _ _ _).mono ?_
                  rintro e w4 ⟨rfl, hb⟩
                  rw [HGA.out]
                  have HX4 := Lib.hid (HX3.out.on hb)
                  have HL4 := Lib.hid ((hb.block _ (Array.getElem?_eq_some_iff.1 HL3.out).1).trans HL3.out)
                  clear hb hc0 hc1 hc2 hc3 hl0 hl1
                  obtain ⟨hc0, hc1, hc2, hc3⟩ := HX4.out.cells
                  obtain ⟨hl0, hl1⟩ := two_lab HL4.out
                  go_wp2_with fail
                  refine (rgood17_any _ _ _ _ _ _).mono ?_
                  rintro e w5 ⟨rfl, hb⟩
                  rw [HGB.out]
                  have HX5 := Lib.hid (HX4.out.on hb)
                  have HL5 := Lib.hid ((hb.block _ (Array.getElem?_eq_some_iff.1 HL4.out).1).trans HL4.out)
                  clear hb hc0 hc1 hc2 hc3 hl0 hl1
                  obtain ⟨hc0, hc1, hc2, hc3⟩ := HX5.out.cells
                  obtain ⟨hl0, hl1⟩ := two_lab HL5.out
                  go_upto_region 7 with fail
                  have hqq : (q == q) = true := by simp
                  have hE2 : ∀ w, (Op.equalIn 10000 38 (.agg #[.int .i64 y1, .int .u64 y2]) (.agg #[.int .i64 y1, .int .u64 y2])).run Tryd.prog w = .ok true w := fun w => by rw [eq_lab]; simp
                  clear hE
                  have HX6 := Lib.hid (show TwoB W al m bl k w5.drew from ⟨HX5.out.1.drew, HX5.out.2.1, HX5.out.2.2.1, HX5.out.2.2.2⟩)
                  have HL6 := Lib.hid (show w5.drew.heap[lb]? = some (.cells #[.int .i64 y1, .int .u64 y2] 38) from HL5.out)
                  refine wp_region_held_drew (S := (fun V => V.cell? ⟨W.heap.size, 0, none⟩ = some (.int .i64 al) ∧ V.cell? ⟨W.heap.size, 1, none⟩ = some (.int .u64 m) ∧ V.cell? ⟨W.heap.size + 1, 0, none⟩ = some (.int .i64 bl) ∧ V.cell? ⟨W.heap.size + 1, 1, none⟩ = some (.int .u64 k) ∧ V.cell? ⟨lb, 0, none⟩ = some (.int .i64 y1) ∧ V.cell? ⟨lb, 1, none⟩ = some (.int .u64 y2))) (by kernel_rfl) ?_ (fun hHeld => ?_)
                  · exact ⟨HX6.out.cells.1, HX6.out.cells.2.1, HX6.out.cells.2.2.1, HX6.out.cells.2.2.2, (two_lab HL6.out).1, (two_lab HL6.out).2⟩
                  clear hc0 hc1 hc2 hc3 hl0 hl1
                  generalize w5.drew = w6 at HX6 HL6 hHeld ⊢
                  have HR6 := Lib.hid (Below.refl w6.heap.size w6)
                  refine wpAnyH_take (i := 0) (v := .bool true) rfl (by kernel_rfl) (by kernel_rfl) (by kernel_rfl) (fun _ _ _ h => h) (Or.inl ⟨by rfl, fun W hSW => ?_⟩) hHeld ?_
                  · ((try dsimp only at hSW); go_split_ands; go_simp <;> with_reducible rfl)
                  try simp only [List.getElem_toArray, List.getElem_cons_succ, List.getElem_cons_zero, Act.put, List.setIfInBounds_toArray, List.set_cons_zero, List.set_cons_succ]
                  refine wpAnyH_take (i := 1) (v := .bool true) rfl (by kernel_rfl) (by kernel_rfl) (by kernel_rfl) (fun _ _ _ h => h) (Or.inl ⟨by rfl, fun W hSW => ?_⟩) hHeld ?_
                  · ((try dsimp only at hSW); go_split_ands; go_simp <;> with_reducible rfl)
                  try simp only [List.getElem_toArray, List.getElem_cons_succ, List.getElem_cons_zero, Act.put, List.setIfInBounds_toArray, List.set_cons_zero, List.set_cons_succ]
                  refine wpAnyH_take (i := 2) (v := .agg #[.int .i64 y1, .int .u64 y2]) rfl (by kernel_rfl) (by kernel_rfl) (by kernel_rfl) (fun _ _ _ h => h) (Or.inl ⟨by rfl, fun W hSW => ?_⟩) hHeld ?_
                  · ((try dsimp only at hSW); go_split_ands; go_simp <;> with_reducible rfl)
                  try simp only [List.getElem_toArray, List.getElem_cons_succ, List.getElem_cons_zero, Act.put, List.setIfInBounds_toArray, List.set_cons_zero, List.set_cons_succ]
                  refine wpAnyH_take (i := 3) (v := .slice ua xs.length uc) rfl (by kernel_rfl) (by kernel_rfl) (by kernel_rfl) (fun _ _ _ h => h) (Or.inl ⟨by rfl, fun W hSW => ?_⟩) hHeld ?_
                  · ((try dsimp only at hSW); go_split_ands; go_simp <;> with_reducible rfl)
                  try simp only [List.getElem_toArray, List.getElem_cons_succ, List.getElem_cons_zero, Act.put, List.setIfInBounds_toArray, List.set_cons_zero, List.set_cons_succ]
                  refine wpAnyH_take (i := 4) (v := .agg #[.int .i64 al, .int .u64 m]) rfl (by kernel_rfl) (by kernel_rfl) (by kernel_rfl) (fun _ _ _ h => h) (Or.inl ⟨by rfl, fun W hSW => ?_⟩) hHeld ?_
                  · ((try dsimp only at hSW); go_split_ands; go_simp <;> with_reducible rfl)
                  try simp only [List.getElem_toArray, List.getElem_cons_succ, List.getElem_cons_zero, Act.put, List.setIfInBounds_toArray, List.set_cons_zero, List.set_cons_succ]
                  refine wpAnyH_take (i := 5) (v := .agg #[.int .i64 bl, .int .u64 k]) rfl (by kernel_rfl) (by kernel_rfl) (by kernel_rfl) (fun _ _ _ h => h) (Or.inl ⟨by rfl, fun W hSW => ?_⟩) hHeld ?_
                  · ((try dsimp only at hSW); go_split_ands; go_simp <;> with_reducible rfl)
                  try simp only [List.getElem_toArray, List.getElem_cons_succ, List.getElem_cons_zero, Act.put, List.setIfInBounds_toArray, List.set_cons_zero, List.set_cons_succ]
                  refine wpAnyH_ready (rs := [6]) (by kernel_rfl) (by simp) ?_
                  refine AllReadyH.cons rfl (fun K hK => ?_) ?_
                  · try simp only [List.getElem_toArray, List.getElem_cons_succ, List.getElem_cons_zero]
                    go_simp
                    (go_at_call 21; refine (rjoin17_any _ xs w6.heap.size al bl m k w6 ((HU.out.below (HX6.out.on HR6.out).1).mono (HX6.out.on HR6.out).1.size) (Nat.le_refl _) HX.out (by omega) HAL.out HBL.out).mono ?_; rintro e wy1 ⟨rfl, hb⟩; rw [HJ1.out, HJ2.out])
                    have F1_base := Lib.hid (HR6.out.trans (hb.mono HR6.out.size))
                    have F1_lab := Lib.hid ((hb.block _ (Array.getElem?_eq_some_iff.1 HL6.out).1).trans HL6.out)
                    clear hb
                    try go_wp2_with fail
                    refine hK.out _ _ ?_ (fun hHeld => ?_)
                    · exact ⟨(HX6.out.on F1_base.out).cells.1, (HX6.out.on F1_base.out).cells.2.1, (HX6.out.on F1_base.out).cells.2.2.1, (HX6.out.on F1_base.out).cells.2.2.2, (two_lab F1_lab.out).1, (two_lab F1_lab.out).2⟩
                    clear hK K
                    try simp only [List.getElem_toArray, List.getElem_cons_succ, List.getElem_cons_zero, Act.put, List.setIfInBounds_toArray, List.set_cons_zero, List.set_cons_succ]
                    refine wpAnyH_take (i := 7) (v := .bool true) rfl (by kernel_rfl) (by kernel_rfl) (by kernel_rfl) (fun _ _ _ h => h) (Or.inl ⟨by rfl, fun W hSW => ?_⟩) hHeld ?_
                    · ((try dsimp only at hSW); go_split_ands; go_simp <;> with_reducible rfl)
                    try simp only [List.getElem_toArray, List.getElem_cons_succ, List.getElem_cons_zero, Act.put, List.setIfInBounds_toArray, List.set_cons_zero, List.set_cons_succ]
                    refine wpAnyH_take (i := 8) (v := .bool true) rfl (by kernel_rfl) (by kernel_rfl) (by kernel_rfl) (fun _ _ _ h => h) (Or.inl ⟨by rfl, fun W hSW => ?_⟩) hHeld ?_
                    · ((try dsimp only at hSW); go_split_ands; go_simp <;> with_reducible rfl)
                    try simp only [List.getElem_toArray, List.getElem_cons_succ, List.getElem_cons_zero, Act.put, List.setIfInBounds_toArray, List.set_cons_zero, List.set_cons_succ]
                    refine wpAnyH_take (i := 9) (v := .bool true) rfl (by kernel_rfl) (by kernel_rfl) (by kernel_rfl) (fun _ _ _ h => h) (Or.inl ⟨by rfl, fun W hSW => ?_⟩) hHeld ?_
                    · ((try dsimp only at hSW); go_split_ands; go_simp <;> with_reducible rfl)
                    try simp only [List.getElem_toArray, List.getElem_cons_succ, List.getElem_cons_zero, Act.put, List.setIfInBounds_toArray, List.set_cons_zero, List.set_cons_succ]
                    refine wpAnyH_take (i := 10) (v := .bool q) rfl (by kernel_rfl) (by kernel_rfl) (by kernel_rfl) (fun _ _ _ h => h) (Or.inl ⟨by rfl, fun W hSW => ?_⟩) hHeld ?_
                    · ((try dsimp only at hSW); go_split_ands; go_simp <;> with_reducible rfl)
                    try simp only [List.getElem_toArray, List.getElem_cons_succ, List.getElem_cons_zero, Act.put, List.setIfInBounds_toArray, List.set_cons_zero, List.set_cons_succ]
                    refine wpAnyH_take (i := 11) (v := .slice ua xs.length uc) rfl (by kernel_rfl) (by kernel_rfl) (by kernel_rfl) (fun _ _ _ h => h) (Or.inl ⟨by rfl, fun W hSW => ?_⟩) hHeld ?_
                    · ((try dsimp only at hSW); go_split_ands; go_simp <;> with_reducible rfl)
                    try simp only [List.getElem_toArray, List.getElem_cons_succ, List.getElem_cons_zero, Act.put, List.setIfInBounds_toArray, List.set_cons_zero, List.set_cons_succ]
                    refine wpAnyH_take (i := 12) (v := .agg #[.int .i64 al, .int .u64 m]) rfl (by kernel_rfl) (by kernel_rfl) (by kernel_rfl) (fun _ _ _ h => h) (Or.inl ⟨by rfl, fun W hSW => ?_⟩) hHeld ?_
                    · ((try dsimp only at hSW); go_split_ands; go_simp <;> with_reducible rfl)
                    try simp only [List.getElem_toArray, List.getElem_cons_succ, List.getElem_cons_zero, Act.put, List.setIfInBounds_toArray, List.set_cons_zero, List.set_cons_succ]
                    refine wpAnyH_take (i := 13) (v := .agg #[.int .i64 bl, .int .u64 k]) rfl (by kernel_rfl) (by kernel_rfl) (by kernel_rfl) (fun _ _ _ h => h) (Or.inl ⟨by rfl, fun W hSW => ?_⟩) hHeld ?_
                    · ((try dsimp only at hSW); go_split_ands; go_simp <;> with_reducible rfl)
                    try simp only [List.getElem_toArray, List.getElem_cons_succ, List.getElem_cons_zero, Act.put, List.setIfInBounds_toArray, List.set_cons_zero, List.set_cons_succ]
                    refine wpAnyH_ready (rs := [14]) (by kernel_rfl) (by simp) ?_
                    refine AllReadyH.cons rfl (fun K hK => ?_) ?_
                    · try simp only [List.getElem_toArray, List.getElem_cons_succ, List.getElem_cons_zero]
                      go_simp
                      (go_at_call 22; refine (rleq17_any _ xs wy1.heap.size al bl m k wy1 ((HU.out.below (HX6.out.on F1_base.out).1).mono (HX6.out.on F1_base.out).1.size) (Nat.le_refl _) HX.out HAL.out).mono ?_; rintro e wy2 ⟨rfl, hb⟩; rw [← HQL.out])
                      have F2_base := Lib.hid (F1_base.out.trans (hb.mono F1_base.out.size))
                      have F2_lab := Lib.hid ((hb.block _ (Array.getElem?_eq_some_iff.1 F1_lab.out).1).trans F1_lab.out)
                      clear hb
                      try go_wp2_with fail
                      refine hK.out _ _ ?_ (fun hHeld => ?_)
                      · exact ⟨(HX6.out.on F2_base.out).cells.1, (HX6.out.on F2_base.out).cells.2.1, (HX6.out.on F2_base.out).cells.2.2.1, (HX6.out.on F2_base.out).cells.2.2.2, (two_lab F2_lab.out).1, (two_lab F2_lab.out).2⟩
                      clear hK K
                      try simp only [List.getElem_toArray, List.getElem_cons_succ, List.getElem_cons_zero, Act.put, List.setIfInBounds_toArray, List.set_cons_zero, List.set_cons_succ]
                      refine wpAnyH_take (i := 15) (v := .bool true) rfl (by kernel_rfl) (by kernel_rfl) (by kernel_rfl) (fun _ _ _ h => h) (Or.inl ⟨by rfl, fun W hSW => ?_⟩) hHeld ?_
                      · ((try dsimp only at hSW); go_split_ands; go_simp <;> with_reducible rfl)
                      try simp only [List.getElem_toArray, List.getElem_cons_succ, List.getElem_cons_zero, Act.put, List.setIfInBounds_toArray, List.set_cons_zero, List.set_cons_succ]
                      refine wpAnyH_take (i := 16) (v := .bool true) rfl (by kernel_rfl) (by kernel_rfl) (by kernel_rfl) (fun _ _ _ h => h) (Or.inl ⟨by rfl, fun W hSW => ?_⟩) hHeld ?_
                      · ((try dsimp only at hSW); go_split_ands; go_simp <;> with_reducible rfl)
                      try simp only [List.getElem_toArray, List.getElem_cons_succ, List.getElem_cons_zero, Act.put, List.setIfInBounds_toArray, List.set_cons_zero, List.set_cons_succ]
                      refine wpAnyH_take (i := 17) (v := .bool true) rfl (by kernel_rfl) (by kernel_rfl) (by kernel_rfl) (fun _ _ _ h => h) (Or.inl ⟨by rfl, fun W hSW => ?_⟩) hHeld ?_
                      · ((try dsimp only at hSW); go_split_ands; go_simp <;> with_reducible rfl)
                      try simp only [List.getElem_toArray, List.getElem_cons_succ, List.getElem_cons_zero, Act.put, List.setIfInBounds_toArray, List.set_cons_zero, List.set_cons_succ]
                      refine wpAnyH_ready (rs := [18]) (by kernel_rfl) (by simp) ?_
                      refine AllReadyH.cons rfl (fun K hK => ?_) ?_
                      · try simp only [List.getElem_toArray, List.getElem_cons_succ, List.getElem_cons_zero]
                        go_simp
                        (go_at_call 20; refine (HAW.out wy2 (HX6.out.on F2_base.out).1).mono ?_; rintro e wy3 ⟨rfl, hb⟩)
                        have F3_base := Lib.hid (F2_base.out.trans (hb.mono F2_base.out.size))
                        have F3_lab := Lib.hid ((hb.block _ (Array.getElem?_eq_some_iff.1 F2_lab.out).1).trans F2_lab.out)
                        clear hb
                        try go_wp2_with fail
                        refine hK.out _ _ ?_ (fun hHeld => ?_)
                        · exact ⟨(HX6.out.on F3_base.out).cells.1, (HX6.out.on F3_base.out).cells.2.1, (HX6.out.on F3_base.out).cells.2.2.1, (HX6.out.on F3_base.out).cells.2.2.2, (two_lab F3_lab.out).1, (two_lab F3_lab.out).2⟩
                        clear hK K
                        try simp only [List.getElem_toArray, List.getElem_cons_succ, List.getElem_cons_zero, Act.put, List.setIfInBounds_toArray, List.set_cons_zero, List.set_cons_succ]
                        refine wpAnyH_take (i := 19) (v := .bool true) rfl (by kernel_rfl) (by kernel_rfl) (by kernel_rfl) (fun _ _ _ h => h) (Or.inl ⟨by rfl, fun W hSW => ?_⟩) hHeld ?_
                        · ((try dsimp only at hSW); go_split_ands; go_simp <;> with_reducible rfl)
                        try simp only [List.getElem_toArray, List.getElem_cons_succ, List.getElem_cons_zero, Act.put, List.setIfInBounds_toArray, List.set_cons_zero, List.set_cons_succ]
                        refine wpAnyH_take (i := 20) (v := .bool true) rfl (by kernel_rfl) (by kernel_rfl) (by kernel_rfl) (fun _ _ _ h => h) (Or.inl ⟨by rfl, fun W hSW => ?_⟩) hHeld ?_
                        · ((try dsimp only at hSW); go_split_ands; go_simp <;> with_reducible rfl)
                        try simp only [List.getElem_toArray, List.getElem_cons_succ, List.getElem_cons_zero, Act.put, List.setIfInBounds_toArray, List.set_cons_zero, List.set_cons_succ]
                        refine wpAnyH_done (by kernel_rfl) ?_ _
                        clear hHeld
                        go_wp2_with fail
                        go_ret
                        exact ⟨rfl, (HX6.out.on F3_base.out).1⟩
                      exact AllReadyH.nil
                    exact AllReadyH.nil
                  exact AllReadyH.nil
          exact AllReadyH.nil
        exact AllReadyH.nil
      exact AllReadyH.nil
theorem symJoins_all {uv : Value} {xs : List Int} {a m b k : Int} (W : World) (h : Nums .u64 W.heap.size W uv xs ∧ Wide xs ∧ xs.length ≤ big5 ∧ ∀ n c, uv = .slice none n c → c = 0) (hT : Tz W) (hm : 0 ≤ m ∧ m ≤ 18446744073709551615) (hk : 0 ≤ k ∧ k ≤ 18446744073709551615) :
    Calls Tryd.prog 4 #[uv, .agg #[.int .i64 a, .int .u64 m], .agg #[.int .i64 b, .int .u64 k]] W fun e V => e = .returned (.bool true) ∧ Below W.heap.size W V := by
  obtain ⟨ua, uc, rfl⟩ := h.1.form
  exact symJoins_walk W h.1 (fun e => h.2.2.2 _ _ (by rw [e])) h.2.1 h.2.2.1 hT hm hk
end Go.Proofs.YtodhoplchficpaaDoor
