import Derived.Test.YtodhoplchficpaaDoorSymV
set_option linter.unusedSimpArgs false
set_option linter.unusedVariables false
/-! sym: the chapter's example; SymJoins -/
namespace Go.Proofs.YtodhoplchficpaaDoor
open Go.RowKit
open SV (Lab SysOk Least labs sumOf mu sumP at' natsL askT askI fanN lok ljoin val le Bnd)
theorem ex19_put : jRet (putB exXs 0 65 [(1, 0)] (0, 4)) (putJ exXs 0 65 [(1, 0)] (0, 4)) = .tuple #[.agg #[.int .i64 1, .int .u64 4], .bool true] := by
  have h1 : putB exXs 0 65 [(1, 0)] (0, 4) = true := by decide +kernel
  have h2 : putJ exXs 0 65 [(1, 0)] (0, 4) = (1, 4) := by decide +kernel
  rw [h1, h2]
  rfl
theorem ex19_low : lowRet exXs 0 1 [1] 0 = .tuple #[.int .i64 1, .bool true] := by
  have h1 : putB exXs 0 1 (lows [1]) (0, 0) = true := by decide +kernel
  have h2 : putJ exXs 0 1 (lows [1]) (0, 0) = (1, 0) := by decide +kernel
  unfold lowRet
  rw [h1, h2]
  rfl
/-- the first example in memory -/
theorem ex19_mem (W : World) {W1 : World} (e : W1 = (W.alloc (.cells #[.int .u64 3, .int .u64 2] 36)).alloc (.cells #[.int .i64 1, .int .u64 0] 38)) : Below W.heap.size W W1 ∧ Nums .u64 W1.heap.size W1 (.slice (some ⟨W.heap.size, 0, none⟩) 2 2) exXs ∧ LabRow W1.heap.size W1 (.slice (some ⟨W.heap.size + 1, 0, none⟩) 1 1) [(1, 0)] := by
  subst e
  refine ⟨((Below.refl _ _).alloc (Nat.le_refl _) _).alloc (by simp) _, num_block (xs := [3, 2]) (t := 36) (fr := (0, 0)) ?_, lab_block (l := [(1, 0)]) (t := 38) (fr := (0, 0)) ?_⟩
  · rw [heap_alloc_old _ _ (by simp), heap_alloc_new]; rfl
  · exact SS.new_at (by simp)
theorem ex19_mem2 (W : World) {W1 : World} {b : Nat} (hb : W.heap.size = b) (e : W1 = (W.alloc (.cells #[.int .u64 3, .int .u64 2] 36)).alloc (.cells #[.int .i64 1] 3)) : Below b W W1 ∧ Nums .u64 W1.heap.size W1 (.slice (some ⟨b, 0, none⟩) 2 2) exXs ∧ Row W1.heap.size W1 (.slice (some ⟨b + 1, 0, none⟩) 1 1) [1] := by
  subst hb e
  refine ⟨((Below.refl _ _).alloc (Nat.le_refl _) _).alloc (by simp) _, num_block (xs := [3, 2]) (t := 36) (fr := (0, 0)) ?_, row_block (xs := [1]) (t := 3) (fr := (0, 0)) ?_⟩
  · rw [heap_alloc_old _ _ (by simp), heap_alloc_new]; rfl
  · exact SS.new_at (by simp)
set_option maxRecDepth 100000 in
set_option maxHeartbeats 3200000 in
theorem awake19_any (W : World) (hT : Tz W) : Calls Tryd.prog 20 #[] W fun e V => e = .returned (.bool true) ∧ Below W.heap.size W V := by
  have HT := Lib.hid hT
  have HE := Lib.hid eq_lab
  clear hT
  go_enter Tryd.func20, Tryd.ntmps20
  go_upto_region 3 with (first
    | (go_at_call 23
       obtain ⟨W1, eW1⟩ : ∃ W1, W1 = (W.alloc (.cells #[.int .u64 3, .int .u64 2] 36)).alloc (.cells #[.int .i64 1, .int .u64 0] 38) := ⟨_, rfl⟩
       rw [← eW1]
       obtain ⟨hb1, hu1, hl1⟩ := ex19_mem W eW1
       refine (sput_any (a := 0) (m := 65) (pc := (0, 4)) W1 hu1 exW (by decide) (HT.out.on hb1) hl1 (by intro p hp; simp at hp; subst hp; decide) (by decide) (by decide) (by decide)).mono ?_
       rintro e w2 ⟨rfl, hb2⟩
       rw [ex19_put]
       have HB2 := Lib.hid (hb1.trans (hb2.mono hb1.size))
       clear hb1 hu1 hl1 hb2 eW1)
    | (go_at_call 26
       obtain ⟨W3, eW3⟩ : ∃ W3, W3 = w2.alloc (.cells #[.int .i64 1, .int .u64 4] 38) := ⟨_, rfl⟩
       rw [← eW3]
       obtain ⟨W4, eW4⟩ : ∃ W4, W4 = (W3.alloc (.cells #[.int .u64 3, .int .u64 2] 36)).alloc (.cells #[.int .i64 1] 3) := ⟨_, rfl⟩
       rw [← eW4]
       have hsz3 : W3.heap.size = w2.heap.size + 1 := by rw [eW3]; simp
       obtain ⟨hb4, hu4, hl4⟩ := ex19_mem2 W3 hsz3 eW4
       have hb3 : Below w2.heap.size w2 W4 := by rw [eW3] at hb4; exact ((Below.refl _ _).alloc (Nat.le_refl _) _).trans (hb4.mono (by omega))
       have hh3 : W4.heap[w2.heap.size]? = some (.cells #[.int .i64 1, .int .u64 4] 38) := (hb4.block _ (by omega)).trans (by rw [eW3]; exact heap_alloc_new _ _)
       refine (slow_any (a := 0) (m := 1) (pc := 0) W4 hu4 exW (by decide) (HT.out.on (HB2.out.trans (hb3.mono HB2.out.size))) hl4 (by decide) (by decide)).mono ?_
       rintro e w5 ⟨rfl, hb5⟩
       rw [ex19_low]
       have HB5 := Lib.hid ((HB2.out.trans (hb3.mono HB2.out.size)).trans (hb5.mono (HB2.out.trans (hb3.mono HB2.out.size)).size))
       obtain ⟨hr0, hr1⟩ := two_lab ((hb5.block _ (Array.getElem?_eq_some_iff.1 hh3).1).trans hh3)
       clear hb5 hb4 hb3 hh3 hu4 hl4 eW3 eW4 hsz3))
  have hE := HE.out
  go_wp2_with fail
  go_ret
  exact ⟨rfl, HB5.out⟩
end Go.Proofs.YtodhoplchficpaaDoor
