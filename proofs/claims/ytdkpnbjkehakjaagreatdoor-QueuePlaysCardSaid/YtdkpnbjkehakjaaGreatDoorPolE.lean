import Derived.Test.YtdkpnbjkehakjaaGreatDoorPolP
import Derived.Test.YtdkpnbjkehakjaaGreatDoorPolW
import Derived.Deep.Cut
set_option linter.unusedSimpArgs false
set_option linter.unusedVariables false
/-! policy: the reference's Copy -/
namespace Go.Proofs.YtdkpnbjkehakjaaGreatDoor
open Go.RowKit

/-- while a policy is copied: block g is the copy, block g + 1 the result -/
structure CSt (w W : World) (x0 x1 x2 x3 : Value) (d : Int) : Prop where
  below : Below w.heap.size w W
  obj : W.heap[w.heap.size]? = some (.cells #[x0, x1, x2, x3, .int .i64 d] 26)
  res : W.heap[w.heap.size + 1]? = some (.cells #[.slice none 0 0, .slice none 0 0, .slice none 0 0, .slice none 0 0, .int .i64 0] 26)
theorem CSt.lt {w W : World} {x0 x1 x2 x3 : Value} {d : Int} (h : CSt w W x0 x1 x2 x3 d) : w.heap.size + 1 < W.heap.size := (Array.getElem?_eq_some_iff.1 h.res).1
theorem CSt.start (w : World) (x0 x1 x2 x3 : Value) (d : Int) : CSt w ((w.alloc (.cells #[x0, x1, x2, x3, .int .i64 d] 26)).alloc (.cells #[.slice none 0 0, .slice none 0 0, .slice none 0 0, .slice none 0 0, .int .i64 0] 26)) x0 x1 x2 x3 d where
  below := ((Below.refl _ _).alloc (Nat.le_refl _) _).alloc (by simp) _
  obj := by show ((w.heap.push _).push _)[w.heap.size]? = _; simp [Array.getElem?_push]
  res := new_block (w := w.alloc (.cells #[x0, x1, x2, x3, .int .i64 d] 26)) rfl (by simp)
theorem CSt.cells {w W : World} {x0 x1 x2 x3 : Value} {d : Int} (h : CSt w W x0 x1 x2 x3 d) : W.cell? ⟨w.heap.size, 0, none⟩ = some x0 ∧ W.cell? ⟨w.heap.size, 1, none⟩ = some x1 ∧ W.cell? ⟨w.heap.size, 2, none⟩ = some x2 ∧ W.cell? ⟨w.heap.size, 3, none⟩ = some x3 ∧ W.cell? ⟨w.heap.size, 4, none⟩ = some (.int .i64 d) := block_cells h.obj
/-- a row is copied, and the copy's cell c is set to it -/
theorem copy_step {w W w1 : World} {x0 x1 x2 x3 v' : Value} {d : Int} {e : TypeId} {c size n : Nat} {xs : List Value} (h : CSt w W x0 x1 x2 x3 d) (hg : (W.alloc (.cells #[] e)).grownBy w1 (some W.heap.size)) (ho : w1.ownsRow (w.heap.size + 2) e size v' (0 + n) ([] ++ xs)) :
    Below w.heap.size w (w1.setCell ⟨w.heap.size, c, none⟩ v') ∧ (w1.setCell ⟨w.heap.size, c, none⟩ v').heap[w.heap.size]? = some (.cells ((#[x0, x1, x2, x3, .int .i64 d] : Array Value).setIfInBounds c v') 26) ∧
    (∀ k, k < W.heap.size → k ≠ w.heap.size → (w1.setCell ⟨w.heap.size, c, none⟩ v').heap[k]? = W.heap[k]?) ∧ (w1.setCell ⟨w.heap.size, c, none⟩ v').ownsRow (w.heap.size + 2) e size v' n xs := by
  have hl := h.lt
  have hk : ∀ k, k < W.heap.size → w1.heap[k]? = W.heap[k]? := fun k hk => (hg.block k (by simp; omega) (by intro e; have := Option.some.inj e; omega)).trans (Below.heap_alloc W _ k hk)
  rw [Nat.zero_add, List.nil_append] at ho
  refine ⟨?_, set_obj (c := c) v' ((hk _ (by omega)).trans h.obj), fun k hk' hne => (Below.heap_setCell _ _ _ _ hne).trans (hk k hk'), ?_⟩
  · exact ((h.below.alloc h.below.size _).grown hg (by simp; omega) (fun k hk => by cases hk; omega)).setCell (p := ⟨w.heap.size, c, none⟩) (Nat.le_refl _) _
  · refine own_of_block ho fun k hk' => Below.heap_setCell _ _ _ _ (fun e => ?_)
    have := (own_block ho hk').1
    have e2 : _ = w.heap.size := e
    omega
theorem own_up {W W' : World} {B e n size : Nat} {v : Value} {xs : List Value} (h : W.ownsRow (B + 2) e size v n xs) (hk : ∀ k, k < W.heap.size → k ≠ B → W'.heap[k]? = W.heap[k]?) : W'.ownsRow (B + 2) e size v n xs :=
  own_of_block h fun k hk' => hk k (own_block h hk').2.1 (by have := (own_block h hk').1; omega)

theorem nums_src {k : IntKind} {n₀ : Nat} {W : World} {v : Value} {xs : List Int} (h : Nums k n₀ W v xs) (hn : ∀ c, v = .slice none 0 c → c = 0) :
    v = .slice none 0 0 ∧ xs.length = 0 ∨ ∃ ad c, v = .slice (some ad) xs.length c ∧ ∀ j u, (xs.map (Value.int k))[j]? = some u → W.cell? (ad.add j) = some u := by
  rcases h with ⟨⟨a, cap, rfl⟩, rfl⟩ | ⟨b, off, cap, rfl, _, _, hc⟩
  · cases a with
    | none => rw [hn cap rfl]; exact .inl ⟨rfl, rfl⟩
    | some x => exact .inr ⟨x, cap, rfl, fun j u hj => by simp at hj⟩
  · refine .inr ⟨_, cap, rfl, fun j u hj => ?_⟩
    rw [List.getElem?_map] at hj
    cases hj' : xs[j]? with
    | none => rw [hj'] at hj; cases hj
    | some q =>
      rw [hj'] at hj
      obtain ⟨hl, _⟩ := List.getElem?_eq_some_iff.1 hj'
      have := hc j hl
      rw [hj'] at this
      rw [Addr.add_lit]
      exact this.trans (by simpa using hj)
/-- a policy that came in: how long its lists are at the most; and a slice that is nil is empty -/
structure PolIn (w : World) (v0 v1 v2 v3 : Value) (st : PSt) (S : List Int) : Prop where
  s0 : Strs w.heap.size w v0 st.L
  s1 : Nums .u64 w.heap.size w v1 S
  s2 : Chans w.heap.size w v2 st.I
  s3 : Chans w.heap.size w v3 st.O
  n1 : ∀ c, v1 = .slice none 0 c → c = 0
  l0 : st.L.length * 16 ≤ 140737488351232
  l1 : S.length * 8 ≤ 140737488351232
  l2 : st.I.length * 24 ≤ 140737488351232
  l3 : st.O.length * 24 ≤ 140737488351232
theorem PolIn.below {w W : World} {v0 v1 v2 v3 : Value} {st : PSt} {S : List Int} (h : PolIn w v0 v1 v2 v3 st S) (hb : Below w.heap.size w W) : PolIn W v0 v1 v2 v3 st S :=
  { h with s0 := strs_on h.s0 hb, s1 := nums_on h.s1 hb, s2 := chans_on h.s2 hb, s3 := chans_on h.s3 hb }
theorem own0 {W : World} {B e size n : Nat} {v : Value} {xs : List Value} (h : W.ownsRow B e size v (0 + n) ([] ++ xs)) : W.ownsRow B e size v n xs := by
  rw [Nat.zero_add, List.nil_append] at h; exact h
/-- a slice of masks that is nil is empty -/
def N1 (v : Value) : Prop := ∀ x0 x1 x2 x3 d, v = .agg #[x0, x1, x2, x3, d] → ∀ c, x1 = .slice none 0 c → c = 0
theorem n1_row {W : World} {B e size n : Nat} {u0 u1 u2 u3 d : Value} {xs : List Value} (h : W.ownsRow B e size u1 n xs) : N1 (.agg #[u0, u1, u2, u3, d]) := by
  intro x0 x1 x2 x3 d' e c ec
  cases e
  rcases h.2 with ⟨rfl, _⟩ | ⟨g, cap, cur, rfl, _⟩
  · cases ec; rfl
  · cases ec
set_option maxRecDepth 100000 in
set_option maxHeartbeats 6400000 in
theorem rcopy_full (v0 v1 v2 v3 : Value) (st : PSt) (S : List Int) (w : World) (h : PolIn w v0 v1 v2 v3 st S) :
    Calls Tryz.prog 5 #[.agg #[v0, v1, v2, v3, .int .i64 st.D]] w fun e w' => (∃ v, e = .returned v ∧ PolV w' v st S ∧ N1 v) ∧ Below w.heap.size w w' := by
  obtain ⟨i0, hi, hz0, hz1, hz2⟩ := info_parts Tryz.infoStr6
  obtain ⟨j0, hj, hy0, hy1, hy2⟩ := info_parts Tryz.infoU646
  obtain ⟨k0, hk, hx0, hx1, hx2⟩ := info_parts Tryz.infoChan6
  have H := Lib.hid h
  have HC0 := Lib.hid (CSt.start w v0 v1 v2 v3 st.D)
  have l0 := h.l0
  have l1 := h.l1
  have l2 := h.l2
  have l3 := h.l3
  clear h
  go_enter Tryz.func5, Tryz.ntmps5
  go_upto_region 1 with (fail)
  generalize (w.alloc (.cells #[v0, v1, v2, v3, .int .i64 st.D] 26)).alloc (.cells #[.slice none 0 0, .slice none 0 0, .slice none 0 0, .slice none 0 0, .int .i64 0] 26) = W0 at HC0
  have hz := HC0.out.lt
  obtain ⟨g0, g1, g2, g3, g4⟩ := HC0.out.cells
  have ga := (World.cell?_of_block (a := ⟨w.heap.size, 0, none⟩) (Below.heap_alloc W0 (.cells #[] 9) w.heap.size (by omega))).trans g0
  go_upto_region 2 with (first
    | (at_builtin
       go_loud (
       refine wpList_append_any rfl _ _ 22 rfl (w.heap.size + 2) 9 i0 (.string ⟨#[]⟩) 1 16 Tryz.underlying22 hi hz0 hz1 hz2 rfl (by decide) (.slice (some ⟨W0.heap.size, 0, none⟩) 0 0) 0 [] rfl (lit_row6 W0 (by omega) (by decide) rfl) v0 st.L.length (st.L.map Value.string) rfl (by rw [List.length_map, Nat.mul_one]) ((strs_on H.out.s0 (HC0.out.below.alloc HC0.out.below.size _)).src) (by intro u hu; obtain ⟨q, _, rfl⟩ := List.mem_map.1 hu; rfl) (by unfold maxLen; omega) (by omega) (by simp; omega) ?_
       intro v' w1 ho hg
       obtain ⟨b0, c0, rfl⟩ := (strs_of_row (own0 ho)).form
       have HN := Lib.hid (copy_step (c := 0) HC0.out hg ho)
       have hq := (hg.block w.heap.size (by simp; omega) (by intro e; have := Option.some.inj e; simp [Value.ownBlock] at this; omega)).trans ((Below.heap_alloc W0 (.cells #[] 9) w.heap.size (by omega)).trans HC0.out.obj)
       obtain ⟨q0, q1, q2, q3, q4⟩ := block_cells hq
       have f := block_frozen (k := 0) hq
       clear hg ho hq)))
  clear g0 g1 g2 g3 g4 ga q0 q1 q2 q3 q4 f
  generalize w1.setCell ⟨w.heap.size, 0, none⟩ (.slice b0 st.L.length c0) = W1 at HN ⊢
  have HC1 := Lib.hid (show CSt w W1 (.slice b0 st.L.length c0) v1 v2 v3 st.D from { below := HN.out.1, obj := HN.out.2.1, res := (HN.out.2.2.1 _ hz (by omega)).trans HC0.out.res })
  have HO0 := Lib.hid HN.out.2.2.2
  clear HN HC0 hz
  have hz := HC1.out.lt
  obtain ⟨g0, g1, g2, g3, g4⟩ := HC1.out.cells
  have ga := (World.cell?_of_block (a := ⟨w.heap.size, 1, none⟩) (Below.heap_alloc W1 (.cells #[] 117) w.heap.size (by omega))).trans g1
  go_upto_region 3 with (first
    | (at_builtin
       go_loud (
       refine wpList_append_any rfl _ _ 23 rfl (w.heap.size + 2) 117 j0 (.int .u64 0) 1 8 Tryz.underlying23 hj hy0 hy1 hy2 rfl (by decide) (.slice (some ⟨W1.heap.size, 0, none⟩) 0 0) 0 [] rfl (lit_row6 W1 (by omega) (by decide) rfl) v1 S.length (S.map (Value.int .u64)) rfl (by rw [List.length_map, Nat.mul_one]) (nums_src (nums_on H.out.s1 (HC1.out.below.alloc HC1.out.below.size _)) H.out.n1) (by intro u hu; obtain ⟨q, _, rfl⟩ := List.mem_map.1 hu; rfl) (by unfold maxLen; omega) (by omega) (by simp; omega) ?_
       intro v' w1 ho hg
       obtain ⟨b1, c1, rfl⟩ := (nums_of_row (own0 ho)).form
       have HN := Lib.hid (copy_step (c := 1) HC1.out hg ho)
       have hq := (hg.block w.heap.size (by simp; omega) (by intro e; have := Option.some.inj e; simp [Value.ownBlock] at this; omega)).trans ((Below.heap_alloc W1 (.cells #[] 117) w.heap.size (by omega)).trans HC1.out.obj)
       obtain ⟨q0, q1, q2, q3, q4⟩ := block_cells hq
       have f := block_frozen (k := 1) hq
       clear hg ho hq)))
  clear g0 g1 g2 g3 g4 ga q0 q1 q2 q3 q4 f
  generalize w1.setCell ⟨w.heap.size, 1, none⟩ (.slice b1 S.length c1) = W2 at HN ⊢
  have HC2 := Lib.hid (show CSt w W2 (.slice b0 st.L.length c0) (.slice b1 S.length c1) v2 v3 st.D from { below := HN.out.1, obj := HN.out.2.1, res := (HN.out.2.2.1 _ hz (by omega)).trans HC1.out.res })
  have HO0_ := Lib.hid (own_up HO0.out HN.out.2.2.1)
  clear HO0
  have HO0 := HO0_
  clear HO0_
  have HO1 := Lib.hid HN.out.2.2.2
  clear HN HC1 hz
  have hz := HC2.out.lt
  obtain ⟨g0, g1, g2, g3, g4⟩ := HC2.out.cells
  have ga := (World.cell?_of_block (a := ⟨w.heap.size, 2, none⟩) (Below.heap_alloc W2 (.cells #[] 101) w.heap.size (by omega))).trans g2
  go_upto_region 4 with (first
    | (at_builtin
       go_loud (
       refine wpList_append_any rfl _ _ 24 rfl (w.heap.size + 2) 101 k0 (.agg #[.string ⟨#[]⟩, .int .i64 0]) 2 24 Tryz.underlying24 hk hx0 hx1 hx2 rfl (by decide) (.slice (some ⟨W2.heap.size, 0, none⟩) 0 0) 0 [] rfl (lit_row6 W2 (by omega) (by decide) rfl) v2 st.I.length (cellsC st.I) rfl (cellsC_len _) ((chans_on H.out.s2 (HC2.out.below.alloc HC2.out.below.size _)).src) (cellsC_one _) (by unfold maxLen; omega) (by omega) (by simp; omega) ?_
       intro v' w1 ho hg
       obtain ⟨b2, c2, rfl⟩ := (chans_of_row (own0 ho)).form
       have HN := Lib.hid (copy_step (c := 2) HC2.out hg ho)
       have hq := (hg.block w.heap.size (by simp; omega) (by intro e; have := Option.some.inj e; simp [Value.ownBlock] at this; omega)).trans ((Below.heap_alloc W2 (.cells #[] 101) w.heap.size (by omega)).trans HC2.out.obj)
       obtain ⟨q0, q1, q2, q3, q4⟩ := block_cells hq
       have f := block_frozen (k := 2) hq
       clear hg ho hq)))
  clear g0 g1 g2 g3 g4 ga q0 q1 q2 q3 q4 f
  generalize w1.setCell ⟨w.heap.size, 2, none⟩ (.slice b2 st.I.length c2) = W3 at HN ⊢
  have HC3 := Lib.hid (show CSt w W3 (.slice b0 st.L.length c0) (.slice b1 S.length c1) (.slice b2 st.I.length c2) v3 st.D from { below := HN.out.1, obj := HN.out.2.1, res := (HN.out.2.2.1 _ hz (by omega)).trans HC2.out.res })
  have HO0_ := Lib.hid (own_up HO0.out HN.out.2.2.1)
  clear HO0
  have HO0 := HO0_
  clear HO0_
  have HO1_ := Lib.hid (own_up HO1.out HN.out.2.2.1)
  clear HO1
  have HO1 := HO1_
  clear HO1_
  have HO2 := Lib.hid HN.out.2.2.2
  clear HN HC2 hz
  have hz := HC3.out.lt
  obtain ⟨g0, g1, g2, g3, g4⟩ := HC3.out.cells
  have ga := (World.cell?_of_block (a := ⟨w.heap.size, 3, none⟩) (Below.heap_alloc W3 (.cells #[] 101) w.heap.size (by omega))).trans g3
  go_upto_region 5 with (first
    | (at_builtin
       go_loud (
       refine wpList_append_any rfl _ _ 24 rfl (w.heap.size + 2) 101 k0 (.agg #[.string ⟨#[]⟩, .int .i64 0]) 2 24 Tryz.underlying24 hk hx0 hx1 hx2 rfl (by decide) (.slice (some ⟨W3.heap.size, 0, none⟩) 0 0) 0 [] rfl (lit_row6 W3 (by omega) (by decide) rfl) v3 st.O.length (cellsC st.O) rfl (cellsC_len _) ((chans_on H.out.s3 (HC3.out.below.alloc HC3.out.below.size _)).src) (cellsC_one _) (by unfold maxLen; omega) (by omega) (by simp; omega) ?_
       intro v' w1 ho hg
       obtain ⟨b3, c3, rfl⟩ := (chans_of_row (own0 ho)).form
       have HN := Lib.hid (copy_step (c := 3) HC3.out hg ho)
       have hq := (hg.block w.heap.size (by simp; omega) (by intro e; have := Option.some.inj e; simp [Value.ownBlock] at this; omega)).trans ((Below.heap_alloc W3 (.cells #[] 101) w.heap.size (by omega)).trans HC3.out.obj)
       obtain ⟨q0, q1, q2, q3, q4⟩ := block_cells hq
       have f := block_frozen (k := 3) hq
       clear hg ho hq)))
  clear g0 g1 g2 g3 g4 ga q0 q1 q2 q3 q4 f
  generalize w1.setCell ⟨w.heap.size, 3, none⟩ (.slice b3 st.O.length c3) = W4 at HN ⊢
  have HC4 := Lib.hid (show CSt w W4 (.slice b0 st.L.length c0) (.slice b1 S.length c1) (.slice b2 st.I.length c2) (.slice b3 st.O.length c3) st.D from { below := HN.out.1, obj := HN.out.2.1, res := (HN.out.2.2.1 _ hz (by omega)).trans HC3.out.res })
  have HO0_ := Lib.hid (own_up HO0.out HN.out.2.2.1)
  clear HO0
  have HO0 := HO0_
  clear HO0_
  have HO1_ := Lib.hid (own_up HO1.out HN.out.2.2.1)
  clear HO1
  have HO1 := HO1_
  clear HO1_
  have HO2_ := Lib.hid (own_up HO2.out HN.out.2.2.1)
  clear HO2
  have HO2 := HO2_
  clear HO2_
  have HO3 := Lib.hid HN.out.2.2.2
  clear HN HC3 hz
  have HR := Lib.hid (polv_set5 HC4.out.res HO0.out (nums_of_row HO1.out) HO2.out HO3.out)
  have HD := Lib.hid (set5_cells HC4.out.res (.slice b0 st.L.length c0) (.slice b1 S.length c1) (.slice b2 st.I.length c2) (.slice b3 st.O.length c3) (.int .i64 st.D))
  obtain ⟨g0, g1, g2, g3, g4⟩ := HC4.out.cells
  obtain ⟨r0, r1, r2, r3, r4⟩ := block_cells HC4.out.res
  have f0 := block_frozen (k := 0) HC4.out.res
  have f1 := block_frozen (k := 1) HC4.out.res
  have f2 := block_frozen (k := 2) HC4.out.res
  have f3 := block_frozen (k := 3) HC4.out.res
  have f4 := block_frozen (k := 4) HC4.out.res
  go_wp2_with fail
  obtain ⟨d0, d1, d2, d3, d4⟩ := HD.out
  unfold set5 at d0 d1 d2 d3 d4
  refine bodyPost_ret (v := .agg #[.slice b0 st.L.length c0, .slice b1 S.length c1, .slice b2 st.I.length c2, .slice b3 st.O.length c3, .int .i64 st.D]) (by simp [results, Tryz.results5, go_sem, d0, d1, d2, d3, d4]) rfl ?_
  exact ⟨⟨_, rfl, HR.out, n1_row HO1.out⟩, set5_below HC4.out.below (Nat.le_succ _) _ _ _ _ _⟩
theorem rcopy_any (v0 v1 v2 v3 : Value) (st : PSt) (S : List Int) (w : World) (h : PolIn w v0 v1 v2 v3 st S) :
    Calls Tryz.prog 5 #[.agg #[v0, v1, v2, v3, .int .i64 st.D]] w fun e w' => (∃ v, e = .returned v ∧ PolV w' v st S) ∧ Below w.heap.size w w' :=
  (rcopy_full v0 v1 v2 v3 st S w h).mono fun e w' ⟨⟨v, h1, h2, _⟩, h3⟩ => ⟨⟨v, h1, h2⟩, h3⟩
/-- .. which may be handed on -/
theorem rcopy_in (v0 v1 v2 v3 : Value) (st : PSt) (S : List Int) (w : World) (h : PolIn w v0 v1 v2 v3 st S) :
    Calls Tryz.prog 5 #[.agg #[v0, v1, v2, v3, .int .i64 st.D]] w fun e w' => (∃ u0 u1 u2 u3, e = .returned (.agg #[u0, u1, u2, u3, .int .i64 st.D]) ∧ PolIn w' u0 u1 u2 u3 st S) ∧ Below w.heap.size w w' :=
  (rcopy_full v0 v1 v2 v3 st S w h).mono fun e w' ⟨⟨v, h1, ⟨u0, u1, u2, u3, e2, p0, p1, p2, p3⟩, hn⟩, h3⟩ => ⟨⟨u0, u1, u2, u3, by rw [h1, e2], ⟨p0, p1, p2, p3, hn _ _ _ _ _ e2, h.l0, h.l1, h.l2, h.l3⟩⟩, h3⟩
end Go.Proofs.YtdkpnbjkehakjaaGreatDoor
