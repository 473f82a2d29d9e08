import Derived.Test.YtbelhoeailjkkaaCalQ
set_option linter.unusedSimpArgs false
set_option linter.unusedVariables false
/-! calls: what the chapter's example says -/
namespace Go.Proofs.Ytbelhoeailjkkaa
open Go.RowKit CC
def exC : List (List Int) := [[1, 2], [2], []]
theorem exC_groups : gsI (groupsL exC) = [[2], [1], [0]] := by decide +kernel
theorem exC_entries : entL exC 0 = [1, 2, 3] := by decide +kernel
theorem exC_small : Small exC := ⟨by decide, by decide⟩
theorem crow_block {W : World} {b : Nat} {xs : List Int} {t : TypeId} (h : W.heap[b]? = some (.cells (intsV xs).toArray t)) : Row W.heap.size W (.slice (some ⟨b, 0, none⟩) xs.length xs.length) xs :=
  .inr ⟨b, 0, xs.length, by rw [intsV_len], (Array.getElem?_eq_some_iff.1 h).1, by rw [intsV_len]; exact Nat.le_refl _, fun j u hj => by
    simp only [World.cell?, h, Nat.zero_add]
    simpa using hj⟩
/-- three rows laid -/
def lit3 (W : World) (a b : List Int) (v : Value) : World := ((W.alloc (.cells (intsV a).toArray 3)).alloc (.cells (intsV b).toArray 3)).alloc (.cells #[.slice (some ⟨W.heap.size, 0, none⟩) a.length a.length, .slice (some ⟨W.heap.size + 1, 0, none⟩) b.length b.length, v] 28)
theorem lit3_below (W : World) (a b : List Int) (v : Value) : Below W.heap.size W (lit3 W a b v) := (((Below.refl _ _).alloc (Nat.le_refl _) _).alloc (by simp) _).alloc (by simp; omega) _
theorem lit3_mem {W : World} {a b c : List Int} {v : Value} (h : Row (lit3 W a b v).heap.size (lit3 W a b v) v c) : GraphM (lit3 W a b v).heap.size (lit3 W a b v) (.slice (some ⟨W.heap.size + 1 + 1, 0, none⟩) 3 3) [a, b, c] := by
  have hs : (lit3 W a b v).heap.size = W.heap.size + 3 := by simp [lit3]
  have h2 : (lit3 W a b v).heap[W.heap.size + 1 + 1]? = some (.cells #[.slice (some ⟨W.heap.size, 0, none⟩) a.length a.length, .slice (some ⟨W.heap.size + 1, 0, none⟩) b.length b.length, v] 28) := new_at (by simp)
  have h0 : (lit3 W a b v).heap[W.heap.size]? = some (.cells (intsV a).toArray 3) := by
    unfold lit3
    rw [heap_alloc_old _ _ (by simp; omega), heap_alloc_old _ _ (by simp), heap_alloc_new]
  have h1 : (lit3 W a b v).heap[W.heap.size + 1]? = some (.cells (intsV b).toArray 3) := by
    unfold lit3
    rw [heap_alloc_old _ _ (by simp)]
    exact new_at (by simp)
  refine ⟨[.slice (some ⟨W.heap.size, 0, none⟩) a.length a.length, .slice (some ⟨W.heap.size + 1, 0, none⟩) b.length b.length, v], .inr ⟨W.heap.size + 1 + 1, 0, 3, rfl, by omega, Nat.le_refl 3, fun j u hj => ?_⟩, rfl, fun j hj => ?_⟩
  · simp only [World.cell?, h2, Nat.zero_add]
    simpa using hj
  · match j, hj with
    | 0, _ => exact ⟨_, rfl, crow_block h0⟩
    | 1, _ => exact ⟨_, rfl, crow_block h1⟩
    | 2, _ => exact ⟨_, rfl, h⟩
theorem lit3_nil (W : World) (a b : List Int) : GraphM (lit3 W a b (.slice none 0 0)).heap.size (lit3 W a b (.slice none 0 0)) (.slice (some ⟨W.heap.size + 1 + 1, 0, none⟩) 3 3) [a, b, []] := lit3_mem (cells_empty _ _ _ _ (fun _ => rfl))

def lit4 (W : World) (a b c : List Int) : World := (((W.alloc (.cells (intsV a).toArray 3)).alloc (.cells (intsV b).toArray 3)).alloc (.cells (intsV c).toArray 3)).alloc (.cells #[.slice (some ⟨W.heap.size, 0, none⟩) a.length a.length, .slice (some ⟨W.heap.size + 1, 0, none⟩) b.length b.length, .slice (some ⟨W.heap.size + 1 + 1, 0, none⟩) c.length c.length] 28)
theorem lit4_below (W : World) (a b c : List Int) : Below W.heap.size W (lit4 W a b c) := ((((Below.refl _ _).alloc (Nat.le_refl _) _).alloc (by simp) _).alloc (by simp; omega) _).alloc (by simp; omega) _
theorem lit4_mem (W : World) (a b c : List Int) : GraphM (lit4 W a b c).heap.size (lit4 W a b c) (.slice (some ⟨W.heap.size + 1 + 1 + 1, 0, none⟩) 3 3) [a, b, c] := by
  have hs : (lit4 W a b c).heap.size = W.heap.size + 4 := by simp [lit4]
  have h3 : (lit4 W a b c).heap[W.heap.size + 1 + 1 + 1]? = some (.cells #[.slice (some ⟨W.heap.size, 0, none⟩) a.length a.length, .slice (some ⟨W.heap.size + 1, 0, none⟩) b.length b.length, .slice (some ⟨W.heap.size + 1 + 1, 0, none⟩) c.length c.length] 28) := new_at (by simp)
  have h0 : (lit4 W a b c).heap[W.heap.size]? = some (.cells (intsV a).toArray 3) := by
    unfold lit4
    rw [heap_alloc_old _ _ (by simp; omega), heap_alloc_old _ _ (by simp; omega), heap_alloc_old _ _ (by simp), heap_alloc_new]
  have h1 : (lit4 W a b c).heap[W.heap.size + 1]? = some (.cells (intsV b).toArray 3) := by
    unfold lit4
    rw [heap_alloc_old _ _ (by simp), heap_alloc_old _ _ (by simp)]
    exact new_at (by simp)
  have h2 : (lit4 W a b c).heap[W.heap.size + 1 + 1]? = some (.cells (intsV c).toArray 3) := by
    unfold lit4
    rw [heap_alloc_old _ _ (by simp)]
    exact new_at (by simp)
  refine ⟨[.slice (some ⟨W.heap.size, 0, none⟩) a.length a.length, .slice (some ⟨W.heap.size + 1, 0, none⟩) b.length b.length, .slice (some ⟨W.heap.size + 1 + 1, 0, none⟩) c.length c.length], .inr ⟨W.heap.size + 1 + 1 + 1, 0, 3, rfl, by omega, Nat.le_refl 3, fun j u hj => ?_⟩, rfl, fun j hj => ?_⟩
  · simp only [World.cell?, h3, Nat.zero_add]
    simpa using hj
  · match j, hj with
    | 0, _ => exact ⟨_, rfl, crow_block h0⟩
    | 1, _ => exact ⟨_, rfl, crow_block h1⟩
    | 2, _ => exact ⟨_, rfl, crow_block h2⟩
theorem small3 (a b c : List Int) (h : a.length + b.length + c.length ≤ 1000) : Small [a, b, c] := ⟨by show 3 ≤ 17592186044416; decide, by
  intro r hr
  simp at hr
  rcases hr with h | h | h <;> subst h <;> omega⟩

set_option maxRecDepth 100000 in
set_option maxHeartbeats 3200000 in
theorem awakeC_any (W : World) : Calls Try.prog 11 #[] W fun e W' => e = .returned (.bool true) ∧ Below W.heap.size W W' := by
  have HM := Lib.hid (lit3_nil W [1, 2] [2])
  have HB := Lib.hid (lit3_below W [1, 2] [2] (.slice none 0 0))
  have HS := Lib.hid exC_small
  have hs := (show (lit3 W [1, 2] [2] (.slice none 0 0)).heap.size = W.heap.size + 3 by simp [lit3])
  go_enter Try.func11, Try.ntmps11
  go_wp2_with fail
  rw [show ((W.alloc (.cells #[.int .i64 1, .int .i64 2] 3)).alloc (.cells #[.int .i64 2] 3)).alloc (.cells #[.slice (some ⟨W.heap.size, 0, none⟩) 2 2, .slice (some ⟨W.heap.size + 1, 0, none⟩) 1 1, .slice none 0 0] 28) = lit3 W [1, 2] [2] (.slice none 0 0) from rfl]
  refine (cgroups_any (to := exC) _ HM.out HS.out).mono ?_
  rintro e w1 ⟨gv, vs, rfl, hown, hrows, hb1⟩
  have HG1 := Lib.hid (show GraphM w1.heap.size w1 gv [[2], [1], [0]] by rw [← exC_groups]; exact hrows.graph hown)
  have HM1 := Lib.hid (HM.out.on hb1 hb1.size)
  have HB1 := Lib.hid (HB.out.trans (hb1.mono (by omega)))
  obtain ⟨ga, gc, rfl⟩ := CC.ownOf hown
  rw [exC_groups]
  clear hown hrows hb1
  go_wp2_with fail
  rw [show (((w1.alloc (.cells #[.int .i64 2] 3)).alloc (.cells #[.int .i64 1] 3)).alloc (.cells #[.int .i64 0] 3)).alloc (.cells #[.slice (some ⟨w1.heap.size, 0, none⟩) 1 1, .slice (some ⟨w1.heap.size + 1, 0, none⟩) 1 1, .slice (some ⟨w1.heap.size + 1 + 1, 0, none⟩) 1 1] 28) = lit4 w1 [2] [1] [0] from rfl]
  have HB2 := Lib.hid (lit4_below w1 [2] [1] [0])
  refine (same_any _ _ [[2], [1], [0]] [[2], [1], [0]] _ _ (HG1.out.on HB2.out HB2.out.size) (lit4_mem w1 [2] [1] [0]) (small3 _ _ _ (by decide)) (small3 _ _ _ (by decide))).mono ?_
  rintro e w2 ⟨rfl, d, e2⟩
  rw [e2, decide_eq_true (rfl : ([[2], [1], [0]] : List (List Int)) = [[2], [1], [0]])]
  have HB3 := Lib.hid (show Below w1.heap.size w1 ((lit4 w1 [2] [1] [0]).drewN d) from HB2.out.trans ⟨rfl, rfl, rfl, Nat.le_refl _, fun _ _ => rfl⟩)
  clear e2 HB2
  generalize (lit4 w1 [2] [1] [0]).drewN d = w3 at HB3 ⊢
  have HM3 := Lib.hid (HM1.out.on HB3.out HB3.out.size)
  have HB4 := Lib.hid (HB1.out.trans (HB3.out.mono HB1.out.size))
  go_wp2_with fail
  refine (centries_any (to := exC) 0 w3 HM3.out HS.out).mono ?_
  rintro e w4 ⟨u, rfl, hr, hb4⟩
  rw [exC_entries] at hr
  obtain ⟨ua, uc, rfl⟩ := hr.form
  have HR := Lib.hid (hr.below ((Below.refl w4.heap.size w4).alloc (Nat.le_refl _) (.cells #[.int .i64 1, .int .i64 2, .int .i64 3] 3)))
  have HB5 := Lib.hid (HB4.out.trans (hb4.mono HB4.out.size))
  have HL := Lib.hid (show Row w4.heap.size.succ (w4.alloc (.cells #[.int .i64 1, .int .i64 2, .int .i64 3] 3)) (.slice (some ⟨w4.heap.size, 0, none⟩) 3 3) [1, 2, 3] by
    have h := crow_block (W := w4.alloc (.cells (intsV [1, 2, 3]).toArray 3)) (b := w4.heap.size) (xs := [1, 2, 3]) (t := 3) (new_at rfl)
    have e : (w4.alloc (.cells (intsV [1, 2, 3]).toArray 3)).heap.size = w4.heap.size.succ := by simp
    rw [e] at h
    exact h)
  clear hr hb4
  go_wp2_with fail
  refine (ints_any _ _ [1, 2, 3] [1, 2, 3] w4.heap.size.succ _ (HR.out.mono (Nat.le_succ _)) HL.out (by decide) (by decide)).mono ?_
  rintro e w5 ⟨rfl, d, e5⟩
  rw [e5, decide_eq_true (rfl : ([1, 2, 3] : List Int) = [1, 2, 3])]
  have HB6 := Lib.hid (show Below W.heap.size W ((w4.alloc (.cells #[.int .i64 1, .int .i64 2, .int .i64 3] 3)).drewN d) from (HB5.out.alloc HB5.out.size _).trans ⟨rfl, rfl, rfl, Nat.le_refl _, fun _ _ => rfl⟩)
  clear e5
  generalize (w4.alloc (.cells #[.int .i64 1, .int .i64 2, .int .i64 3] 3)).drewN d = w6 at HB6 ⊢
  go_wp2_with fail
  go_ret
  exact ⟨rfl, HB6.out⟩
end Go.Proofs.Ytbelhoeailjkkaa
