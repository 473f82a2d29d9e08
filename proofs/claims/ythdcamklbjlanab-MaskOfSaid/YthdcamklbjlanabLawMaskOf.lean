import Derived.Test.YthdcamklbjlanabMaskOf
/-! the walk of MaskOf -/
namespace Go.Proofs.Ythdcamklbjlanab
set_option linter.unusedVariables false
open Go.RowKit

theorem cell_lt {w : World} {a : Addr} {v : Value} (h : w.cell? a = some v) : a.block < w.heap.size := by
  apply Classical.byContradiction; intro hn
  simp [World.cell?, Array.getElem?_eq_none (Nat.le_of_not_lt hn)] at h
theorem ints_lit1 (W : World) (x : Int) : Ints (W.heap.size + 1) (W.alloc (.cells #[.int .i64 x] 3)) (.slice (some ⟨W.heap.size, 0, none⟩) 1 1) [x] := by
  have h := ints_of_row (l := [x]) (World.ownsRow_lit (base := 0) (e := 3) (size := 1) W #[.int .i64 x] 1 (Nat.zero_le _) (by unfold maxLen; omega) rfl)
  rw [World.size_alloc] at h
  exact h
theorem ofM_one : MM.ofM [1] = 2 ∧ MM.allIn [1] = true := by decide

set_option maxHeartbeats 400000 in
theorem maskOf_walk (a : Option Addr) (len cap : Nat) (zs : List Int) (w : World) (hr : IsRow .i64 w a len cap zs) :
    Calls Try.prog 5 #[.slice a len cap] w fun e w' => e = .returned (.bool true) ∧ Below w.heap.size w w' := by
  by_cases hbig : 1000 < len
  · have hb : (1000 : Int) < (len : Int) := by omega
    go_enter Try.func5, Try.ntmps5
    go_wp2_with fail
    go_ret
    exact ⟨rfl, Below.refl _ _⟩
  · have hb : (len : Int) ≤ 1000 := by omega
    have h1 := ofM_one
    obtain ⟨o1, o2⟩ := h1
    obtain ⟨i0, hi, hz0, hz1, hz2⟩ := info_parts Try.infoInt
    have HI := ints_of_isRow hr
    rcases hr with ⟨rfl, rfl, rfl, rfl⟩ | ⟨x, rfl, hl, hm, hz, hcell, hwz⟩
    · go_enter Try.func5, Try.ntmps5
      go_wp2_with fail
      refine (of_any _ [] 0 _ (.inl ⟨⟨_, _, rfl⟩, rfl⟩) (by simp)).mono ?_
      rintro e w1 ⟨rfl, rfl⟩
      go_wp2_with fail
      refine (rof_any _ [] 0 _ (.inl ⟨⟨_, _, rfl⟩, rfl⟩) (by simp)).mono ?_
      rintro e w1 ⟨rfl, rfl⟩
      go_wp2_with fail
      have hJ := ints_lit1 (w.alloc (.cells #[] 3)) 1
      rw [World.size_alloc] at hJ
      refine (of_any _ [1] _ _ hJ (by simp)).mono ?_
      rintro e w1 ⟨rfl, rfl⟩
      rw [o1, o2]
      go_wp2_with fail
      go_ret
      exact ⟨rfl, ((Below.refl _ _).alloc (Nat.le_refl _) _).alloc (by simp) _⟩
    · have hnews : ∀ j u, ((zs.take len).map (Value.int .i64))[j]? = some u → (w.alloc (.cells #[] 3)).cell? (x.add j) = some u := by
        intro j u hj
        rw [List.getElem?_map] at hj
        have hjl : j < len := by
          apply Classical.byContradiction; intro hn
          rw [List.getElem?_eq_none (by rw [List.length_take]; omega)] at hj
          simp at hj
        rw [List.getElem?_take_of_lt hjl, List.getElem?_eq_getElem (by omega)] at hj
        have hc := hcell j (by omega)
        simp at hj
        rw [List.getD_eq_getElem?_getD, List.getElem?_eq_getElem (by omega)] at hc
        simp at hc
        rw [hj] at hc
        exact (World.cell?_of_block (w := w) (Below.heap_alloc w _ _ (cell_lt hc))).trans hc
      have hll : ((zs.take len).map (Value.int .i64)).length = len * 1 := by rw [List.length_map, List.length_take]; omega
      have hone : ∀ u ∈ (zs.take len).map (Value.int .i64), u.oneCell' = true := ints_oneCell _ _
      have hown := World.ownsRow_lit (base := w.heap.size) (e := 3) (size := 1) w #[] 0 (Nat.le_refl _) (by unfold maxLen; omega) rfl
      go_enter Try.func5, Try.ntmps5
      go_wp2_with (at_builtin; refine wpList_append_own _ rfl _ _ 23 rfl w.heap.size 3 i0 (.int .i64 0) 1 8 Try.underlying23 hi hz0 hz1 hz2 rfl (by decide) _ _ _ rfl hown x len cap ((zs.take len).map (Value.int .i64)) rfl hll hnews hone (by unfold maxLen; omega) (by omega) (by simp) ?_; intro v' w1 hown' hgrow _)
      have hI := ints_of_row (l := zs.take len) (W := w1) (base := w.heap.size) (e := 3) (v := v') (by
        have hlz : (zs.take len).length = len := by rw [List.length_take]; omega
        rw [hlz]; simpa using hown')
      have hB : Below w.heap.size w w1 := ((Below.refl _ _).alloc (Nat.le_refl _) _).grown hgrow (by simp) (fun j hj => (hown.lt j hj).1)
      have HI1 := HI.below hB
      have hlen : (zs.take len).length ≤ 1000000 := by rw [List.length_take]; omega
      clear hown hown' hgrow hnews hone hll hcell hwz HI
      refine (of_any _ _ _ _ hI hlen).mono ?_
      rintro e w2 ⟨rfl, rfl⟩
      go_wp2_with fail
      refine (rof_any _ _ _ _ HI1 hlen).mono ?_
      rintro e w2 ⟨rfl, rfl⟩
      go_wp2_with fail
      have hJ := ints_lit1 w1 1
      refine (of_any _ [1] _ _ hJ (by simp)).mono ?_
      rintro e w2 ⟨rfl, rfl⟩
      rw [o1, o2]
      go_wp2_with fail
      go_ret
      exact ⟨rfl, hB.alloc hB.size _⟩
end Go.Proofs.Ythdcamklbjlanab
