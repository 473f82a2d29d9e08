import Derived.Test.YtaaicmldldkhhaaDoorLatP
set_option linter.unusedSimpArgs false
set_option linter.unusedVariables false
/-! LatticeRights: the walk -/
namespace Go.Proofs.YtaaicmldldkhhaaDoor
open Go.RowKit

theorem cell_lt5 {w : World} {a : Addr} {v : Value} (h : w.cell? a = some v) : a.block < w.heap.size := by
  apply Classical.byContradiction; intro hn
  simp [World.cell?, Array.getElem?_eq_none (Nat.le_of_not_lt hn)] at h
/-- the cells that a copy takes over, in any later world -/
theorem news5 {k : IntKind} {w W : World} {x : Addr} {len cap : Nat} {zs : List Int} (hl : len ≤ cap) (hz : zs.length = cap) (hcell : ∀ i, i < zs.length → w.cell? (x.add i) = some (.int k (zs.getD i 0))) (hB : Below w.heap.size w W) :
    ∀ j u, ((zs.take len).map (Value.int k))[j]? = some u → W.cell? (x.add j) = some u := by
  intro j u hj
  rw [List.getElem?_map] at hj
  have hjl : j < len := by
    apply Classical.byContradiction; intro hn
    rw [List.getElem?_eq_none (by rw [List.length_take]; omega)] at hj
    simp at hj
  rw [List.getElem?_take_of_lt hjl, List.getElem?_eq_getElem (by omega)] at hj
  have hc := hcell j (by omega)
  simp at hj
  rw [List.getD_eq_getElem?_getD, List.getElem?_eq_getElem (by omega)] at hc
  simp at hc
  rw [hj] at hc
  exact (hB.cell (cell_lt5 hc)).trans hc
theorem nums_oneCell (k : IntKind) (l : List Int) : ∀ u ∈ l.map (Value.int k), u.oneCell' = true := by
  intro u hu
  obtain ⟨x, _, rfl⟩ := List.mem_map.1 hu
  rfl
theorem wide_take {zs : List Int} (h : ∀ x ∈ zs, 0 ≤ x ∧ x ≤ 18446744073709551615) (n : Nat) : Wide (zs.take n) := fun x hx => h x (List.mem_of_mem_take hx)
/-- an empty slice of the call's own -/
theorem nums_empty (n₀ : Nat) (W : World) (a : Option Addr) (cap : Nat) : Nums .u64 n₀ W (.slice a 0 cap) [] := .inl ⟨⟨_, _, rfl⟩, rfl⟩

set_option maxRecDepth 100000 in
set_option maxHeartbeats 1600000 in
theorem latticeRights_walk (hB : BuildC) (hH : HeightC) (hR : RightC) (a : Option Addr) (len cap : Nat) (zs : List Int) (w : World) (hTz : Tz w) (hr : IsRow .u64 w a len cap zs) (hlen : len ≤ big5) :
    Calls Tryd.prog 4 #[.slice a len cap] w fun e w' => e = .returned (.bool true) ∧ Below w.heap.size w w' := by
  have HBd := Lib.hid hB
  have HHt := Lib.hid hH
  have HRt := Lib.hid hR
  have HI := Lib.hid (nums_of_isRow hr)
  have HWd := Lib.hid (wide_take (isRow_u64 hr) len)
  have HLn := Lib.hid hlen
  clear hB hH hR
  obtain ⟨i0, hi, hz0, hz1, hz2⟩ := info_parts Tryd.infoU64
  rcases hr with ⟨rfl, rfl, rfl, rfl⟩ | ⟨x, rfl, hl, hm, hz, hcell, hwz⟩
  · have hx0 : Wide [] := fun x hx => by simp at hx
    go_enter Tryd.func4, Tryd.ntmps4
    go_wp2_with fail
    refine (HRt.out _ [] 0 _ (nums_empty 0 _ _ _) (Nat.zero_le _) hx0 (Nat.zero_le _) (by first | exact hTz | exact hTz.on (by assumption) | exact hTz.on HBB.out | exact hTz.alloc _ | exact (hTz.on (by assumption)).alloc _ | exact (hTz.on HBB.out).alloc _ | exact (hTz.alloc _).alloc _ | exact ((hTz.on (by assumption)).alloc _).alloc _)).mono ?_
    rintro e w2 ⟨rfl, hb2⟩
    have hB2 : Below w.heap.size w w2 := ((Below.refl _ _).alloc (Nat.le_refl _) _).trans (hb2.mono (by simp))
    clear hb2
    go_wp2_with fail
    refine (rright_any _ [] 0 _ (nums_empty 0 _ _ _) hx0 (Nat.zero_le _)).mono ?_
    rintro e w3 ⟨rfl, d, rfl⟩
    have hB3 := below_drewN hB2 d
    clear hB2
    go_wp2_with fail
    refine (awake5_any HBd.out HHt.out _ (by first | exact hTz | exact hTz.on (by assumption) | exact hTz.on HBB.out | exact hTz.alloc _ | exact (hTz.on (by assumption)).alloc _ | exact (hTz.on HBB.out).alloc _ | exact (hTz.alloc _).alloc _ | exact ((hTz.on (by assumption)).alloc _).alloc _)).mono ?_
    rintro e w99 ⟨rfl, hb99⟩
    go_wp2_with fail
    go_ret
    exact ⟨rfl, bstep hB3 hb99⟩
  · have hown := World.ownsRow_lit (base := w.heap.size) (e := 45) (size := 1) w #[] 0 (Nat.le_refl _) (by unfold maxLen; omega) rfl
    have HC := Lib.hid hcell
    have HZ := Lib.hid hz
    have hll : ((zs.take len).map (Value.int .u64)).length = len * 1 := by rw [List.length_map, List.length_take]; omega
    have hone := nums_oneCell .u64 (zs.take len)
    have hnews := news5 (W := w.alloc (.cells #[] 45)) hl hz hcell ((Below.refl _ _).alloc (Nat.le_refl _) _)
    have hlen2 : len ≤ 17592186044416 := hlen
    have hlz : (zs.take len).length = len := by rw [List.length_take]; omega
    have HLz := Lib.hid hlz
    clear hcell hwz hz hlz
    go_enter Tryd.func4, Tryd.ntmps4
    go_wp2_with (at_builtin; refine wpList_append_own _ rfl _ _ 23 rfl w.heap.size 45 i0 (.int .u64 0) 1 8 Tryd.underlying23 hi hz0 hz1 hz2 rfl (by decide) _ _ _ rfl hown x len cap ((zs.take len).map (Value.int .u64)) rfl hll hnews hone (by unfold maxLen; omega) (by omega) (by simp) ?_; intro v' w1 hown' hgrow _)
    have HN1 := Lib.hid (show Nums .u64 w1.heap.size w1 v' (zs.take len) from nums_of_row (base := w.heap.size) (e := 45) (by rw [HLz.out]; simpa using hown'))
    have hB1 : Below w.heap.size w w1 := ((Below.refl _ _).alloc (Nat.le_refl _) _).grown hgrow (by simp) (fun j hj => (hown.lt j hj).1)
    clear hown hown' hgrow hnews hone hll
    refine (HRt.out _ (zs.take len) _ _ HN1.out (Nat.le_refl _) HWd.out (by rw [HLz.out]; exact HLn.out) (by first | exact hTz | exact hTz.on (by assumption) | exact hTz.on HBB.out | exact hTz.alloc _ | exact (hTz.on (by assumption)).alloc _ | exact (hTz.on HBB.out).alloc _ | exact (hTz.alloc _).alloc _ | exact ((hTz.on (by assumption)).alloc _).alloc _)).mono ?_
    rintro e w2 ⟨rfl, hb2⟩
    have hB2 := bstep hB1 hb2
    clear hB1 hb2
    go_wp2_with fail
    refine (rright_any _ (zs.take len) w.heap.size _ (HI.out.below hB2) HWd.out (by have h1 := HLz.out; have h2 := HLn.out; simp only [big5] at h2; omega)).mono ?_
    rintro e w3 ⟨rfl, d, rfl⟩
    have hB3 := below_drewN hB2 d
    clear hB2
    go_wp2_with fail
    refine (awake5_any HBd.out HHt.out _ (by first | exact hTz | exact hTz.on (by assumption) | exact hTz.on HBB.out | exact hTz.alloc _ | exact (hTz.on (by assumption)).alloc _ | exact (hTz.on HBB.out).alloc _ | exact (hTz.alloc _).alloc _ | exact ((hTz.on (by assumption)).alloc _).alloc _)).mono ?_
    rintro e w99 ⟨rfl, hb99⟩
    go_wp2_with fail
    go_ret
    exact ⟨rfl, bstep hB3 hb99⟩
end Go.Proofs.YtaaicmldldkhhaaDoor
