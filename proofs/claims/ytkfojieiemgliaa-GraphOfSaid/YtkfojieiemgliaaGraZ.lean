import Derived.Test.YtkfojieiemgliaaGraY
set_option linter.unusedSimpArgs false
set_option linter.unusedVariables false
/-! graphs: the reference's Order; what the chapter's example says -/
namespace Go.Proofs.Ytkfojieiemgliaa
open Go.RowKit
theorem GraphM.far {n : Nat} {W W' : World} {v : Value} {to : List (List Int)} (h : GraphM n W v to) (hb : Below n W W') (hn : n ≤ W'.heap.size) : GraphM W'.heap.size W' v to := h.on hb hn
theorem below_dN {B : Nat} {W w : World} (h : Below B W w) (d : Nat) : Below B W (w.drewN d) := h.trans ⟨rfl, rfl, rfl, Nat.le_refl _, fun _ _ => rfl⟩
theorem ast_new (W : World) (n : Nat) : ASt W n ((fun _ => false), []) (.slice none 0 0) (W.alloc (.cells (madeCells #[.bool false] n) 4)) :=
  ⟨World.rowIs_made W (.bool false) n 4, World.ownsRow_nil _ _ _ _, (Below.refl _ _).alloc (Nat.le_refl _) _, by simp⟩
theorem int_eq {k : IntKind} {a b : Int} (h : a = b) : Value.int k a = .int k b := by rw [h]
theorem run_dfs (adj : Nat → List Nat) : GG.runG adj [0] = GG.dfs adj 257 0 ((fun _ => false), []) := rfl
theorem rev_take {l : List Int} {j : Nat} (hj : j < l.length) : l.reverse.take j ++ [l[l.length - 1 - j]?.getD 0] = l.reverse.take (j + 1) := by
  have h1 : j < l.reverse.length := by simpa using hj
  rw [List.take_succ_eq_append_getElem h1, List.getElem_reverse, List.getElem?_eq_getElem (by omega)]
  rfl
set_option maxRecDepth 100000 in
set_option maxHeartbeats 3200000 in
theorem rorder_any {v : Value} {to : List (List Int)} (W : World) (hv : GraphM W.heap.size W v to) (hr : GG.rightG to = true) :
    Calls Try.prog 22 #[v] W fun e W' => NewInts W.heap.size (GG.orderL to) e W W' := by
  have hlen := GG.right_len hr
  have HV := Lib.hid hv
  have HR := Lib.hid hr
  have HWK := Lib.hid (after_any hr hv 257 0 ((fun _ => false), []) (.slice none 0 0) _ (by omega) rfl (by have := GG.unv_le to.length (fun _ => false); show GG.unv to.length (fun _ => false) < 257; omega) (by have := GG.unv_le to.length (fun _ => false); show 0 + GG.unv to.length (fun _ => false) ≤ to.length; omega) (ast_new W to.length))
  have HLN := Lib.hid (show (GG.runG (GG.adjOf to) [0]).2.length ≤ 256 by
    have := runT_len hr (l := [0]) (by intro x hx; rw [List.mem_singleton.1 hx]; omega) 1
    rw [runT_all _ (by simp)] at this
    simp only [List.map_cons, List.map_nil, Int.toNat_zero] at this
    omega)
  have HE := Lib.hid (show GG.orderL to = ((GG.runG (GG.adjOf to) [0]).2.map Int.ofNat).reverse by
    unfold GG.orderL
    rw [List.map_reverse])
  rw [run_dfs] at HLN HE
  generalize GG.dfs (GG.adjOf to) 257 0 ((fun _ => false), []) = s at HWK HLN HE
  obtain ⟨va, vo, vc, rfl⟩ := hv.addr (by omega)
  have hmk := run_make_row' (P := Try.prog) 25 4 (.bool false) 1 (by kernel_rfl) Try.infoGBool rfl .i64 .i64 to.length (by omega) (by omega)
  obtain ⟨i0, hi0, hz0, hz1, hz2⟩ := info_parts Try.infoGInt
  clear hv hr
  have hln := HLN.out
  go_enter Try.func22, Try.ntmps22
  go_wp2_with (go_at_call 33
               refine HWK.out.mono ?_
               rintro e w1 ⟨bv, rfl, hA⟩
               have HA := Lib.hid hA
               obtain ⟨ba, bc, hbf⟩ := GG.own_slice hA.out
               subst hbf
               clear hA)
  clear hmk
  have HRW := Lib.hid (show Row w1.heap.size w1 (.slice ba s.2.length bc) (s.2.map Int.ofNat) from cells_of_row HA.out.out)
  have HLL := Lib.hid (show (s.2.map Int.ofNat).length = s.2.length from List.length_map _)
  go_loopw [5, 6] (fun o k wr => ∃ j : Nat, j ≤ s.2.length ∧ k = .int .i64 ((s.2.length : Int) - 1 - j) ∧ wr.ownsRow w1.heap.size 3 1 o j (intsV ((s.2.map Int.ofNat).reverse.take j)) ∧ Below w1.heap.size w1 wr) (fun _ k _ => (intOf k + 1).toNat)
  case atStart => exact ⟨0, Nat.zero_le _, int_eq (by omega), World.ownsRow_nil _ _ _ _, Below.refl _ _⟩
  case round =>
    obtain ⟨j, hj, rfl, hO, hB⟩ := hrel
    have HO := Lib.hid hO
    have HB := Lib.hid hB
    clear hO hB
    by_cases hjt : j < s.2.length
    · obtain ⟨k, hk⟩ : ∃ k : Nat, (s.2.length : Int) - 1 - j = (k : Int) := ⟨s.2.length - 1 - j, by omega⟩
      have hkl : k < s.2.length := by omega
      obtain ⟨xb, xo, rfl, hx⟩ := (HRW.out.below HB.out).cellAt (show k < (s.2.map Int.ofNat).length by rw [HLL.out]; exact hkl)
      have HT := Lib.hid (show (s.2.map Int.ofNat).reverse.take j ++ [(s.2.map Int.ofNat)[k]?.getD 0] = (s.2.map Int.ofNat).reverse.take (j + 1) by
        have := rev_take (l := s.2.map Int.ofNat) (j := j) (by rw [HLL.out]; exact hjt)
        rw [HLL.out, show s.2.length - 1 - j = k by omega] at this
        exact this)
      have i1 : (0 : Int) ≤ k ∧ (k : Int) < s.2.length := by omega
      obtain ⟨x, ex⟩ : ∃ x, x = (s.2.map Int.ofNat)[k]?.getD 0 := ⟨_, rfl⟩
      rw [← ex] at hx HT
      clear ex
      have HK := Lib.hid hk
      rw [hk]
      clear hk
      go_wp2_with (first
        | (at_builtin
           refine GG.wpList_append_any rfl _ _ 32 rfl w1.heap.size 3 i0 (.int .i64 0) 1 8 Try.underlying32 hi0 hz0 hz1 hz2 rfl (by decide) u5 _ _ rfl (HO.out.alloc _) (.slice (some ⟨wr.heap.size, 0, none⟩) 1 1) 1 [.int .i64 x] rfl rfl (.inr ⟨_, _, rfl, GG.cell_one _ _ _⟩) (by intro u hu; rw [List.mem_singleton.1 hu]; rfl) (by unfold maxLen; omega) (by omega) (by have := HB.out.size; simp; omega) ?_
           intro v1 w2 ho hg
           have HN := Lib.hid (show w2.ownsRow w1.heap.size 3 1 v1 (j + 1) (intsV ((s.2.map Int.ofNat).reverse.take (j + 1))) by
             rw [← HT.out]
             have e2 : intsV ((s.2.map Int.ofNat).reverse.take j ++ [x]) = intsV ((s.2.map Int.ofNat).reverse.take j) ++ [.int .i64 x] := by simp [intsV]
             rw [e2]; exact ho)
           have HB2 := Lib.hid ((HB.out.alloc HB.out.size _).grown hg (by have := HB.out.size; simp; omega) (fun k e => (HO.out.lt k e).1))
           clear ho hg))
      go_roundw
      case rel => exact ⟨j + 1, by omega, int_eq (by have := HK.out; omega), HN.out, HB2.out⟩
      case measure => have := HK.out; first | (simp [intOf]; omega) | simp [intOf]
    · have HF := Lib.hid (show Row wr.heap.size wr u5 (GG.orderL to) by
        have h := HO.out
        rw [List.take_of_length_le (by rw [List.length_reverse, HLL.out]; omega), ← HE.out] at h
        exact cells_of_row h)
      have HBB := Lib.hid (HA.out.below.trans (HB.out.mono (by have := HA.out.below.size; omega)))
      have hj0 : (s.2.length : Int) - 1 - j = -1 := by omega
      rw [hj0]
      clear HO hj0
      go_wp2_with fail
      go_ret
      exact ⟨_, rfl, HF.out, HBB.out⟩

/-- the example's graph -/
def exG : List (List Int) := [[1, 2], [3], [3], []]
theorem exG_right : GG.rightG exG = true := by decide +kernel
theorem exG_order : orderE exG = [0, 2, 1, 3] := by decide +kernel
theorem exG_back : (backE exG).length = 4 := by decide +kernel
theorem exG_small : Small exG := ⟨by decide, by decide⟩
theorem row_lits (W : World) (xs : List Int) (t : TypeId) (h : 0 < xs.length) : Row (W.alloc (.cells (intsV xs).toArray t)).heap.size (W.alloc (.cells (intsV xs).toArray t)) (.slice (some ⟨W.heap.size, 0, none⟩) xs.length xs.length) xs :=
  .inr ⟨W.heap.size, 0, xs.length, by rw [intsV_len], by simp, by rw [intsV_len]; exact Nat.le_refl _, fun j u hj => by
    simp only [World.cell?, heap_alloc_new, Nat.zero_add]
    simpa using hj⟩
theorem Row.on {n : Nat} {W W' : World} {v : Value} {xs : List Int} (h : Row n W v xs) (hb : Below n W W') (hn : n ≤ W'.heap.size) : Row W'.heap.size W' v xs := (h.below hb).mono hn
theorem BRow.on {n : Nat} {W W' : World} {v : Value} {xs : List Bool} (h : BRow n W v xs) (hb : Below n W W') (hn : n ≤ W'.heap.size) : BRow W'.heap.size W' v xs := (h.below hb).mono hn
/-- the example in memory -/
def exW (W : World) : World := (((W.alloc (.cells #[.int .i64 1, .int .i64 2] 3)).alloc (.cells #[.int .i64 3] 3)).alloc (.cells #[.int .i64 3] 3)).alloc (.cells #[.slice (some ⟨W.heap.size, 0, none⟩) 2 2, .slice (some ⟨W.heap.size + 1, 0, none⟩) 1 1, .slice (some ⟨W.heap.size + 1 + 1, 0, none⟩) 1 1, .slice none 0 0] 32)
theorem exW_size (W : World) : (exW W).heap.size = W.heap.size + 4 := by simp [exW]
theorem exW_below (W : World) : Below W.heap.size W (exW W) := ((((Below.refl _ _).alloc (Nat.le_refl _) _).alloc (by simp) _).alloc (by simp; omega) _).alloc (by simp; omega) _
theorem row_of_block {W : World} {b : Nat} {xs : List Int} {t : TypeId} (h : W.heap[b]? = some (.cells (intsV xs).toArray t)) : Row W.heap.size W (.slice (some ⟨b, 0, none⟩) xs.length xs.length) xs :=
  .inr ⟨b, 0, xs.length, by rw [intsV_len], (Array.getElem?_eq_some_iff.1 h).1, by rw [intsV_len]; exact Nat.le_refl _, fun j u hj => by
    simp only [World.cell?, h, Nat.zero_add]
    simpa using hj⟩
theorem exW_mem (W : World) : GraphM (exW W).heap.size (exW W) (.slice (some ⟨W.heap.size + 1 + 1 + 1, 0, none⟩) 4 4) exG := by
  have h3 : (exW W).heap[W.heap.size + 1 + 1 + 1]? = some (.cells #[.slice (some ⟨W.heap.size, 0, none⟩) 2 2, .slice (some ⟨W.heap.size + 1, 0, none⟩) 1 1, .slice (some ⟨W.heap.size + 1 + 1, 0, none⟩) 1 1, .slice none 0 0] 32) := by
    have := heap_alloc_new (((W.alloc (.cells #[.int .i64 1, .int .i64 2] 3)).alloc (.cells #[.int .i64 3] 3)).alloc (.cells #[.int .i64 3] 3)) (.cells #[.slice (some ⟨W.heap.size, 0, none⟩) 2 2, .slice (some ⟨W.heap.size + 1, 0, none⟩) 1 1, .slice (some ⟨W.heap.size + 1 + 1, 0, none⟩) 1 1, .slice none 0 0] 32)
    simpa [exW] using this
  have h0 : (exW W).heap[W.heap.size]? = some (.cells (intsV [1, 2]).toArray 3) := by
    unfold exW
    rw [heap_alloc_old _ _ (by simp; omega), heap_alloc_old _ _ (by simp; omega), heap_alloc_old _ _ (by simp), heap_alloc_new]
    rfl
  have h1 : (exW W).heap[W.heap.size + 1]? = some (.cells (intsV [3]).toArray 3) := by
    unfold exW
    rw [heap_alloc_old _ _ (by simp), heap_alloc_old _ _ (by simp)]
    have := heap_alloc_new (W.alloc (.cells #[.int .i64 1, .int .i64 2] 3)) (.cells #[.int .i64 3] 3)
    simpa [intsV] using this
  have h2 : (exW W).heap[W.heap.size + 1 + 1]? = some (.cells (intsV [3]).toArray 3) := by
    unfold exW
    rw [heap_alloc_old _ _ (by simp)]
    have := heap_alloc_new ((W.alloc (.cells #[.int .i64 1, .int .i64 2] 3)).alloc (.cells #[.int .i64 3] 3)) (.cells #[.int .i64 3] 3)
    simpa [intsV] using this
  refine ⟨[.slice (some ⟨W.heap.size, 0, none⟩) 2 2, .slice (some ⟨W.heap.size + 1, 0, none⟩) 1 1, .slice (some ⟨W.heap.size + 1 + 1, 0, none⟩) 1 1, .slice none 0 0], .inr ⟨W.heap.size + 1 + 1 + 1, 0, 4, rfl, by rw [exW_size]; omega, by simp, fun j u hj => ?_⟩, rfl, fun j hj => ?_⟩
  · simp only [World.cell?, h3, Nat.zero_add]
    simpa using hj
  · match j, hj with
    | 0, _ => exact ⟨_, rfl, row_of_block h0⟩
    | 1, _ => exact ⟨_, rfl, row_of_block h1⟩
    | 2, _ => exact ⟨_, rfl, row_of_block h2⟩
    | 3, _ => exact ⟨_, rfl, cells_empty _ _ _ _ (fun _ => rfl)⟩
set_option maxRecDepth 100000 in
set_option maxHeartbeats 1600000 in
theorem awakeG_any (W : World) : Calls Try.prog 15 #[] W fun e W' => e = .returned (.bool true) ∧ Below W.heap.size W W' := by
  have HM := Lib.hid (exW_mem W)
  have HB := Lib.hid (exW_below W)
  have HS := Lib.hid exG_small
  go_enter Try.func15, Try.ntmps15
  go_wp2_with fail
  rw [show (((W.alloc (.cells #[.int .i64 1, .int .i64 2] 3)).alloc (.cells #[.int .i64 3] 3)).alloc (.cells #[.int .i64 3] 3)).alloc (.cells #[.slice (some ⟨W.heap.size, 0, none⟩) 2 2, .slice (some ⟨W.heap.size + 1, 0, none⟩) 1 1, .slice (some ⟨W.heap.size + 1 + 1, 0, none⟩) 1 1, .slice none 0 0] 32) = exW W from rfl]
  refine (order_any _ HM.out HS.out).mono ?_
  rintro e w1 ⟨lv, rfl, hl, hB1⟩
  rw [exG_order] at hl
  have HG1 := Lib.hid (HM.out.on hB1 hB1.size)
  have HL1 := Lib.hid (hl.on ((Below.refl _ _).alloc (Nat.le_refl _) (.cells #[.int .i64 0, .int .i64 2, .int .i64 1, .int .i64 3] 3)) (by simp))
  have HB1 := Lib.hid (HB.out.trans (hB1.mono (by have := HB.out.size; omega)))
  clear hl hB1
  go_wp2_with fail
  refine (ints_any _ _ [0, 2, 1, 3] [0, 2, 1, 3] _ _ HL1.out (row_lits w1 [0, 2, 1, 3] _ (by decide)) (by decide) (by decide)).mono ?_
  rintro e w2 ⟨rfl, d, rfl⟩
  rw [decide_eq_true (rfl : ([0, 2, 1, 3] : List Int) = [0, 2, 1, 3])]
  obtain ⟨w2, ew2⟩ : ∃ w2, w2 = (w1.alloc (.cells #[.int .i64 0, .int .i64 2, .int .i64 1, .int .i64 3] 3)).drewN d := ⟨_, rfl⟩
  rw [← ew2]
  have hb2 : Below w1.heap.size w1 w2 := by rw [ew2]; exact below_dN ((Below.refl _ _).alloc (Nat.le_refl _) _) d
  have HG2 := Lib.hid (HG1.out.on hb2 hb2.size)
  have HB2 := Lib.hid (bstep HB1.out hb2)
  clear hb2 ew2
  go_wp2_with fail
  refine (rightG_any _ exG _ HG2.out HS.out).mono ?_
  rintro e w3 ⟨rfl, hb3⟩
  rw [exG_right]
  have HG3 := Lib.hid (HG2.out.on hb3 hb3.size)
  have HB3 := Lib.hid (bstep HB2.out hb3)
  clear hb3
  go_wp2_with fail
  refine (back_any _ HG3.out HS.out).mono ?_
  rintro e w4 ⟨bv, rfl, hg4, hb4⟩
  obtain ⟨ba, bc, hbv⟩ := hg4.form
  rw [exG_back] at hbv
  subst hbv
  have HB4 := Lib.hid (bstep HB3.out hb4)
  clear hg4 hb4
  go_wp2_with fail
  go_ret
  exact ⟨rfl, HB4.out⟩
end Go.Proofs.Ytkfojieiemgliaa
