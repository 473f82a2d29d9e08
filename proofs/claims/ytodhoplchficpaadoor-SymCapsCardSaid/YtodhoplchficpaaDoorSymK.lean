import Derived.Test.YtodhoplchficpaaDoorSymJ
set_option linter.unusedSimpArgs false
set_option linter.unusedVariables false
/-! sym: Join, Leq -/
namespace Go.Proofs.YtodhoplchficpaaDoor
open Go.RowKit
open SV (Lab SysOk Least labs sumOf mu sumP at' natsL askT askI fanN lok ljoin val le Bnd)
theorem big_int {W : World} {b : Nat} {v : Value} {l : List (Int × Int)} {n : Nat} (h : W.heap[b]? = some (.cells (labV l).toArray 38)) (hv : v = .slice (some ⟨b, 0, none⟩) n n) (hn : n = l.length) : LabRow W.heap.size W v l := by
  subst hv hn
  exact lab_block h
set_option maxRecDepth 100000 in
set_option maxHeartbeats 3200000 in
theorem sjoin2_any {uv : Value} {xs : List Int} {a m b k : Int} (W : World) (hu : Nums .u64 W.heap.size W uv xs) (hx : Wide xs) (hxl : xs.length ≤ big5) (hT : Tz W) (hm : 0 ≤ m ∧ m ≤ 18446744073709551615) (hk : 0 ≤ k ∧ k ≤ 18446744073709551615) :
    Calls Tryd.prog 16 #[uv, .agg #[.int .i64 a, .int .u64 m], .agg #[.int .i64 b, .int .u64 k]] W fun e V => JoinedE xs [(a, m), (b, k)] [1] W e V := by
  obtain ⟨ua, uc, rfl⟩ := hu.form
  have hwl : WideL [(a, m), (b, k)] := by
    intro p hp
    simp at hp
    rcases hp with rfl | rfl
    · exact hm
    · exact hk
  have HJ := Lib.hid (fun w (hb : Below W.heap.size W w) {lv wv : Value} (hl : LabRow w.heap.size w lv [(a, m), (b, k)]) (hw : Row w.heap.size w wv [1]) => joined_any w ((hu.below hb).mono hb.size) hx hxl (hT.on hb) hl hwl hw (by simp) (by simp) (by intro x hx; simp at hx; subst hx; simp) (by simp))
  obtain ⟨z, ez⟩ : ∃ z, z = jB xs [(a, m), (b, k)] := ⟨_, rfl⟩
  have HZ := Lib.hid ez
  obtain ⟨⟨p1, p2⟩, ep⟩ : ∃ p, p = joinVal xs [(a, m), (b, k)] [1] := ⟨_, rfl⟩
  have HP := Lib.hid ep
  obtain ⟨y1, ey1⟩ : ∃ y1 : Int, y1 = if z = true then (p1 : Int) else 0 := ⟨_, rfl⟩
  obtain ⟨y2, ey2⟩ : ∃ y2 : Int, y2 = if z = true then p2 else 0 := ⟨_, rfl⟩
  have HJR := Lib.hid (show jRet z (p1, p2) = .tuple #[.agg #[.int .i64 y1, .int .u64 y2], .bool z] by unfold jRet; rw [ey1, ey2])
  unfold JoinedE
  rw [← ez, ← ep, HJR.out]
  obtain ⟨W3, eW3⟩ : ∃ W3, W3 = ((((W.alloc (.cells #[.int .i64 a, .int .u64 m] 38)).alloc (.cells #[.int .i64 b, .int .u64 k] 38)).alloc (.cells #[.int .i64 0, .int .u64 0] 38)).alloc (.cells #[.int .i64 a, .int .u64 m, .int .i64 b, .int .u64 k] 38)).alloc (.cells #[.int .i64 1] 3) := ⟨_, rfl⟩
  have HB3 := Lib.hid (show Below W.heap.size W W3 by rw [eW3]; exact (((((Below.refl _ _).alloc (Nat.le_refl _) _).alloc (by simp) _).alloc (by simp <;> omega) _).alloc (by simp <;> omega) _).alloc (by simp <;> omega) _)
  have HH2 := Lib.hid (show W3.heap[W.heap.size + 1 + 1]? = some (.cells #[.int .i64 0, .int .u64 0] 38) by rw [eW3, heap_alloc_old _ _ (by simp <;> omega), heap_alloc_old _ _ (by simp)]; exact SS.new_at (by simp))
  have HH3 := Lib.hid (show W3.heap[W.heap.size + 1 + 1 + 1]? = some (.cells (labV [(a, m), (b, k)]).toArray 38) by rw [eW3, heap_alloc_old _ _ (by simp)]; exact SS.new_at (by simp))
  have HH4 := Lib.hid (show W3.heap[W.heap.size + 1 + 1 + 1 + 1]? = some (.cells (intsV [1]).toArray 3) by rw [eW3]; exact SS.new_at (by simp))
  have HZ3 := Lib.hid (show W3.heap.size = W.heap.size + 5 by rw [eW3]; simp)
  clear hu hx hxl hT hm hk hwl ez ep ey1 ey2
  go_enter Tryd.func16, Tryd.ntmps16
  go_wp2_with (go_at_call 39; rw [← eW3]; refine (HJ.out W3 HB3.out (lab_block HH3.out) (row_block HH4.out)).mono ?_; rintro e w5 ⟨rfl, hb5⟩; rw [← HZ.out, ← HP.out, HJR.out]; have HB5 := Lib.hid (HB3.out.trans (hb5.mono HB3.out.size)); have HH5 := Lib.hid ((hb5.block _ (by rw [HZ3.out]; omega)).trans HH2.out); obtain ⟨hr0, hr1, hr2, hr3⟩ := one_lab HH5.out; clear hb5)
  have hs := (put_lab HH5.out y1 y2).1
  have HF := Lib.hid (show Below W.heap.size W ((w5.setCell ⟨W.heap.size + 1 + 1, 0, none⟩ (.int .i64 y1)).setCell ⟨W.heap.size + 1 + 1, 1, none⟩ (.int .u64 y2)) from (HB5.out.setCell (p := ⟨W.heap.size + 1 + 1, 0, none⟩) (by show W.heap.size ≤ W.heap.size + 1 + 1; omega) _).setCell (p := ⟨W.heap.size + 1 + 1, 1, none⟩) (by show W.heap.size ≤ W.heap.size + 1 + 1; omega) _)
  generalize (w5.setCell ⟨W.heap.size + 1 + 1, 0, none⟩ (.int .i64 y1)).setCell ⟨W.heap.size + 1 + 1, 1, none⟩ (.int .u64 y2) = w6 at hs HF ⊢
  obtain ⟨q0, q1⟩ := two_lab hs
  refine bodyPost_ret (v := .tuple #[.agg #[.int .i64 y1, .int .u64 y2], .bool z]) (by simp [results, Tryd.results16, go_sem, q0, q1]) rfl ?_
  exact ⟨rfl, HF.out⟩
/-- is a label at or below another one, both of which may be? -/
def sleqB (xs : List Int) (a m b k : Int) : Bool := LL.rightB xs && (labOk xs.length (a, m) && (labOk xs.length (b, k) && lleqB xs (a.toNat, m) (b.toNat, k)))
theorem bndz_one {xs : List Int} {a m b k : Int} {z : Bool} (hx : Wide xs) (hm : 0 ≤ m ∧ m ≤ 18446744073709551615) (hk : 0 ≤ k ∧ k ≤ 18446744073709551615) (h : BoundZ xs [(a, m)] [[]] [(b, k)] z) : z = sleqB xs a m b k := by
  have hs : sysB xs [(a, m)] [[]] = (LL.rightB xs && labOk xs.length (a, m)) := by
    unfold sysB rowIn
    simp
  have hall : [((b, k) : Int × Int)].all (labOk xs.length) = labOk xs.length (b, k) := by simp
  unfold BoundZ at h
  rw [Bool.eq_iff_iff, h, hs, hall]
  unfold sleqB
  simp only [Bool.and_eq_true]
  have lk : ∀ {c n : Int}, labOk xs.length (c, n) = true → 0 ≤ n ∧ n ≤ 18446744073709551615 → lok xs (c.toNat, n) := fun {c n} h hn => by
    unfold labOk at h
    have := of_decide_eq_true h
    exact ⟨by show c.toNat < xs.length; simp only at this; omega, hn⟩
  constructor
  · rintro ⟨⟨h1, h2⟩, _, h3, hr, hw, hb⟩
    refine ⟨h1, h2, h3, ?_⟩
    exact (le_iff hr hw (lk h2 hm) (lk h3 hk)).1 (hb.base 0 (by show 0 < 1; omega))
  · rintro ⟨h1, h2, h3, h4⟩
    refine ⟨⟨h1, h2⟩, rfl, h3, h1, hx, ⟨rfl, fun i hi => ?_, fun i hi => ?_, fun i hi j hj => ?_⟩⟩
    · have e : i = 0 := by have : i < 1 := hi; omega
      subst e
      exact lk h3 hk
    · have e : i = 0 := by have : i < 1 := hi; omega
      subst e
      exact (le_iff h1 hx (lk h2 hm) (lk h3 hk)).2 h4
    · have e : i = 0 := by have : i < 1 := hi; omega
      subst e
      rw [nd_at] at hj
      simp at hj
theorem one_graph {W : World} {g : Nat} (h : W.heap[g]? = some (.cells #[.slice none 0 0] 29)) : GraphM W.heap.size W (.slice (some ⟨g, 0, none⟩) 1 1) [[]] := by
  have hlt : g < W.heap.size := (Array.getElem?_eq_some_iff.1 h).1
  refine ⟨[.slice none 0 0], .inr ⟨g, 0, 1, rfl, hlt, Nat.le_refl 1, fun j u hj => ?_⟩, rfl, fun j hj => ⟨.slice none 0 0, ?_, ?_⟩⟩
  · match j, hj with
    | 0, hj => simp only [World.cell?, h, Nat.zero_add]; simpa using hj
  · match j, hj with
    | 0, _ => rfl
  · match j, hj with
    | 0, _ => exact cells_empty _ _ _ _ (fun _ => rfl)
set_option maxRecDepth 100000 in
set_option maxHeartbeats 3200000 in
theorem sleq_any {uv : Value} {xs : List Int} {a m b k : Int} (W : World) (hu : Nums .u64 W.heap.size W uv xs) (hx : Wide xs) (hxl : xs.length ≤ big5) (hT : Tz W) (hm : 0 ≤ m ∧ m ≤ 18446744073709551615) (hk : 0 ≤ k ∧ k ≤ 18446744073709551615) :
    Calls Tryd.prog 17 #[uv, .agg #[.int .i64 a, .int .u64 m], .agg #[.int .i64 b, .int .u64 k]] W fun e V => e = .returned (.bool (sleqB xs a m b k)) ∧ Below W.heap.size W V := by
  obtain ⟨ua, uc, rfl⟩ := hu.form
  have hw1 : WideL [(a, m)] := by intro p hp; simp at hp; subst hp; exact hm
  have hw2 : WideL [(b, k)] := by intro p hp; simp at hp; subst hp; exact hk
  have HJ := Lib.hid (fun w (hb : Below W.heap.size W w) {lv nv rv : Value} (hl : LabRow w.heap.size w lv [(a, m)]) (hg : GraphM w.heap.size w nv [[]]) (hr : LabRow w.heap.size w rv [(b, k)]) => bounds_any w ((hu.below hb).mono hb.size) hx hxl (hT.on hb) hl hw1 hg hr hw2 (by simp) (by simp) (by simp) (fun a => by match a with | 0 => simp | a + 1 => simp))
  have HE := Lib.hid (fun z (h : BoundZ xs [(a, m)] [[]] [(b, k)] z) => bndz_one hx hm hk h)
  obtain ⟨W3, eW3⟩ : ∃ W3, W3 = (((((W.alloc (.cells #[.int .i64 a, .int .u64 m] 38)).alloc (.cells #[.int .i64 b, .int .u64 k] 38)).alloc (.cells #[.int .i64 a, .int .u64 m] 38)).alloc (.cells #[.slice none 0 0] 29)).alloc (.cells #[.int .i64 b, .int .u64 k] 38)) := ⟨_, rfl⟩
  have HB3 := Lib.hid (show Below W.heap.size W W3 by rw [eW3]; exact (((((Below.refl _ _).alloc (Nat.le_refl _) _).alloc (by simp) _).alloc (by simp <;> omega) _).alloc (by simp <;> omega) _).alloc (by simp <;> omega) _)
  have HH2 := Lib.hid (show W3.heap[W.heap.size + 1 + 1]? = some (.cells (labV [(a, m)]).toArray 38) by rw [eW3, heap_alloc_old _ _ (by simp <;> omega), heap_alloc_old _ _ (by simp)]; exact SS.new_at (by simp))
  have HH3 := Lib.hid (show W3.heap[W.heap.size + 1 + 1 + 1]? = some (.cells #[.slice none 0 0] 29) by rw [eW3, heap_alloc_old _ _ (by simp)]; exact SS.new_at (by simp))
  have HH4 := Lib.hid (show W3.heap[W.heap.size + 1 + 1 + 1 + 1]? = some (.cells (labV [(b, k)]).toArray 38) by rw [eW3]; exact SS.new_at (by simp))
  clear hu hx hxl hT hm hk hw1 hw2
  go_enter Tryd.func17, Tryd.ntmps17
  go_wp2_with (go_at_call 40; rw [← eW3]; refine (HJ.out W3 HB3.out (lab_block HH2.out) (one_graph HH3.out) (lab_block HH4.out)).mono ?_; rintro e w5 ⟨hb5, z, rfl, hz⟩; rw [HE.out z hz]; have HB5 := Lib.hid (HB3.out.trans (hb5.mono HB3.out.size)); clear hb5 hz)
  go_ret
  exact ⟨rfl, HB5.out⟩
end Go.Proofs.YtodhoplchficpaaDoor
