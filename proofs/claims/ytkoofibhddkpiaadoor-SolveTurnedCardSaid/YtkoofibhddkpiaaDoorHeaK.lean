import Derived.Test.YtkoofibhddkpiaaDoorGraC
import Derived.Deep.Cut
import Derived.Deep.RegionHeld3
import Derived.Deep.AppendLies
import Derived.Laws.OwnMore
import Derived.Deep.LoopGhost
set_option linter.unusedSimpArgs false
set_option linter.unusedVariables false
/-! solve: the line: Len, Less, Swap, Push, Pop -/
namespace Go.Proofs.YtkoofibhddkpiaaDoor
open Go.RowKit
namespace SS
theorem own_of_block {w w' : World} {B e n size : Nat} {v : Value} {xs : List Value} (h : w.ownsRow B e size v n xs) (hk : ∀ k, v.ownBlock = some k → w'.heap[k]? = w.heap[k]?) : w'.ownsRow B e size v n xs := by
  refine ⟨h.1, ?_⟩
  rcases h.2 with hn | ⟨g, cap, cur, rfl, hb, hgg, rest⟩
  · exact .inl hn
  · exact .inr ⟨g, cap, cur, rfl, hb, (hk g rfl).trans hgg, rest⟩
theorem own_lower {W : World} {B B' e size n : Nat} {v : Value} {xs : List Value} (h : B' ≤ B) (g : W.ownsRow B e size v n xs) : W.ownsRow B' e size v n xs := by
  refine ⟨g.1, ?_⟩
  rcases g.2 with hn | ⟨k, cap, cur, rfl, hb, rest⟩
  · exact .inl hn
  · exact .inr ⟨k, cap, cur, rfl, Nat.le_trans h hb, rest⟩
theorem ownOf {w : World} {B e n size : Nat} {v : Value} {xs : List Value} (h : w.ownsRow B e size v n xs) : ∃ a cap, v = .slice a n cap := by
  rcases h.2 with ⟨rfl, rfl⟩ | ⟨g, cap, cur, rfl, _⟩
  · exact ⟨_, _, rfl⟩
  · exact ⟨_, _, rfl⟩
theorem set_obj {w : World} {r c : Nat} {cs : Array Value} {T : TypeId} (v : Value) (h : w.heap[r]? = some (.cells cs T)) : (w.setCell ⟨r, c, none⟩ v).heap[r]? = some (.cells (cs.setIfInBounds c v) T) := by
  simp only [World.setCell, Array.getElem?_modify, if_pos rfl, h, Option.map_some]
  rfl
theorem heap_some_lt {w : World} {g : Nat} {o : Obj} (h : w.heap[g]? = some o) : g < w.heap.size := (Array.getElem?_eq_some_iff.1 h).1
theorem new_at {w : World} {o : Obj} {n : Nat} (h : w.heap.size = n) : (w.alloc o).heap[n]? = some o := by
  subst h
  exact heap_alloc_new _ _
theorem own_cell {W : World} {B e n cap g : Nat} {xs : List Value} (h : W.ownsRow B e 1 (.slice (some ⟨g, 0, none⟩) n cap) n xs) {k : Nat} {u : Value} (hk : xs[k]? = some u) : W.cell? ⟨g, k, none⟩ = some u := by
  rcases cells_of_row h with ⟨⟨a, c, e1, _⟩, e2⟩ | ⟨b, off, c, e1, _, _, hc⟩
  · rw [e2] at hk; cases hk
  · cases e1
    simpa using hc k u hk
theorem own_free {W : World} {B e size n cap g : Nat} {xs : List Value} (h : W.ownsRow B e size (.slice (some ⟨g, 0, none⟩) n cap) n xs) (k : Nat) : W.frozen? ⟨g, k, none⟩ = false := by
  rcases h.2 with ⟨e1, _⟩ | ⟨g', cap', cur, e1, _, hg, _⟩
  · cases e1
  · cases e1
    simp [World.frozen?, hg]
theorem own_some {W : World} {B e size n : Nat} {v : Value} {xs : List Value} (h : W.ownsRow B e size v n xs) (hn : 0 < n) : ∃ g cap, v = .slice (some ⟨g, 0, none⟩) n cap := by
  rcases h.2 with ⟨e1, e2⟩ | ⟨g, cap, cur, e1, _⟩
  · omega
  · exact ⟨g, cap, e1⟩
end SS
/-- two changed places -/
def swapL (l : List Int) (i j : Nat) : List Int := (l.set i (l[j]?.getD 0)).set j (l[i]?.getD 0)
theorem swapL_len (l : List Int) (i j : Nat) : (swapL l i j).length = l.length := by simp [swapL]
theorem swapL_perm {l : List Int} {i j : Nat} (hi : i < l.length) (hj : j < l.length) : (swapL l i j).Perm l := by
  have e1 : l[j]?.getD 0 = l[j] := by rw [List.getElem?_eq_getElem hj]; rfl
  have e2 : l[i]?.getD 0 = l[i] := by rw [List.getElem?_eq_getElem hi]; rfl
  have e : swapL l i j = (l.set i l[j]).set j l[i] := by unfold swapL; rw [e1, e2]
  rw [e, List.perm_iff_count]
  intro x
  have hj' : j < (l.set i l[j]).length := by rw [List.length_set]; exact hj
  rw [List.count_set hj', List.count_set hi]
  have p1 : (l[i] == x) = true → 0 < List.count x l := fun h => List.count_pos_iff.2 (by rw [← eq_of_beq h]; exact List.getElem_mem hi)
  have p2 : (l[j] == x) = true → 0 < List.count x l := fun h => List.count_pos_iff.2 (by rw [← eq_of_beq h]; exact List.getElem_mem hj)
  rw [List.getElem_set]
  by_cases hij : i = j
  · subst hij
    simp only [if_true]
    cases h1 : (l[i] == x)
    · simp
    · have := p1 h1; simp; omega
  · rw [if_neg hij]
    cases h1 : (l[i] == x) <;> cases h2 : (l[j] == x)
    · simp
    · have := p2 h2; simp
    · have := p1 h1; simp; omega
    · have := p1 h1; have := p2 h2; simp; omega
theorem intsV_swap {l : List Int} {i j : Nat} (hi : i < l.length) (hj : j < l.length) : ((intsV l).set i (.int .i64 (l[j]?.getD 0))).set j (.int .i64 (l[i]?.getD 0)) = intsV (swapL l i j) := by
  unfold intsV swapL
  rw [List.map_set, List.map_set]

set_option maxRecDepth 100000 in
set_option maxHeartbeats 1600000 in
theorem hlen_any (a : Option Addr) (n c : Nat) (W : World) : Calls Tryd.prog 57 #[.slice a n c] W fun e w' => e = .returned (.int .i64 n) ∧ w' = W := by
  go_enter Tryd.func57, Tryd.ntmps57
  go_wp2_with fail
  go_ret
  exact ⟨rfl, rfl⟩
set_option maxRecDepth 100000 in
set_option maxHeartbeats 1600000 in
theorem hless_any {W : World} {B cap g : Nat} {l : List Int} {i j : Nat} (h : W.ownsRow B 3 1 (.slice (some ⟨g, 0, none⟩) l.length cap) l.length (intsV l)) (hi : i < l.length) (hj : j < l.length) :
    Calls Tryd.prog 58 #[.slice (some ⟨g, 0, none⟩) l.length cap, .int .i64 i, .int .i64 j] W fun e w' => (∃ t : Bool, e = .returned (.bool t)) ∧ ∃ d, w' = W.drewN d := by
  have h1 := SS.own_cell h (intsV_at hi)
  have h2 := SS.own_cell h (intsV_at hj)
  have i1 : (0 : Int) ≤ i ∧ (i : Int) < l.length := by omega
  have i2 : (0 : Int) ≤ j ∧ (j : Int) < l.length := by omega
  obtain ⟨x, hx⟩ : ∃ x, x = l[i]?.getD 0 := ⟨_, rfl⟩
  obtain ⟨y, hy⟩ : ∃ y, y = l[j]?.getD 0 := ⟨_, rfl⟩
  rw [← hx] at h1
  rw [← hy] at h2
  clear hx hy h
  go_enter Tryd.func58, Tryd.ntmps58
  go_wp2_with fail
  go_quiet (fail)
  go_wp2_with fail
  go_ret
  exact ⟨⟨_, rfl⟩, _, rfl⟩

set_option maxRecDepth 100000 in
set_option maxHeartbeats 3200000 in
theorem hswap_any {W : World} {B cap g : Nat} {l : List Int} {i j : Nat} (h : W.ownsRow B 3 1 (.slice (some ⟨g, 0, none⟩) l.length cap) l.length (intsV l)) (hi : i < l.length) (hj : j < l.length) :
    Calls Tryd.prog 59 #[.slice (some ⟨g, 0, none⟩) l.length cap, .int .i64 i, .int .i64 j] W fun e w' => e = .returned (.tuple #[]) ∧ w'.ownsRow B 3 1 (.slice (some ⟨g, 0, none⟩) l.length cap) l.length (intsV (swapL l i j)) ∧ W.grownBy w' (some g) := by
  have hcA := SS.own_cell h (intsV_at hi)
  have hcB := SS.own_cell h (intsV_at hj)
  have hSW := intsV_swap hi hj
  have i1 : (0 : Int) ≤ i ∧ (i : Int) < l.length := by omega
  have i2 : (0 : Int) ≤ j ∧ (j : Int) < l.length := by omega
  have hd : W.drew.ownsRow B 3 1 (.slice (some ⟨g, 0, none⟩) l.length cap) l.length (intsV l) := SS.own_of_block h (fun k e => rfl)
  obtain ⟨x, hx⟩ : ∃ x, x = l[i]?.getD 0 := ⟨_, rfl⟩
  obtain ⟨y, hy⟩ : ∃ y, y = l[j]?.getD 0 := ⟨_, rfl⟩
  rw [← hx] at hcA
  rw [← hy] at hcB
  rw [← hx, ← hy] at hSW
  have HS1 := Lib.hid (World.ownsRow.stored hd i (.int .i64 y))
  have HS2 := Lib.hid (World.ownsRow.stored HS1.out.1 j (.int .i64 x))
  have hfA : W.drew.frozen? ⟨g, i, none⟩ = false := SS.own_free hd i
  have hfB : (W.drew.setCell ⟨g, i, none⟩ (.int .i64 y)).frozen? ⟨g, j, none⟩ = false := SS.own_free HS1.out.1 j
  have hcC : W.drew.cell? ⟨g, i, none⟩ = some (.int .i64 x) := hcA
  have hcD : W.drew.cell? ⟨g, j, none⟩ = some (.int .i64 y) := hcB
  have hcE : ∃ u, (W.drew.setCell ⟨g, i, none⟩ (.int .i64 y)).cell? ⟨g, j, none⟩ = some u := ⟨_, SS.own_cell HS1.out.1 (List.getElem?_eq_getElem (by rw [List.length_set, intsV_len]; exact hj))⟩
  obtain ⟨u, hcF⟩ := hcE
  have HFV := Lib.hid (show ((W.drew.setCell ⟨g, i, none⟩ (.int .i64 y)).setCell ⟨g, j, none⟩ (.int .i64 x)).ownsRow B 3 1 (.slice (some ⟨g, 0, none⟩) l.length cap) l.length (intsV (swapL l i j)) ∧ W.grownBy ((W.drew.setCell ⟨g, i, none⟩ (.int .i64 y)).setCell ⟨g, j, none⟩ (.int .i64 x)) (some g) by
    rw [← hSW]
    have q1 := HS1.out.2
    have q2 := HS2.out.2
    exact ⟨HS2.out.1, q2.os.trans q1.os, q2.tape.trans q1.tape, q2.output.trans q1.output, Nat.le_trans q1.size q2.size, fun k hk hn => (q2.block k (Nat.lt_of_lt_of_le hk q1.size) hn).trans (q1.block k hk hn)⟩)
  have HFS := Lib.hid (show _ ∧ _ ∧ _ ∧ _ ∧ _ from ⟨hfA, hfB, hcC, hcD, hcF⟩)
  clear hx hy h hd hSW HS1 HS2 hfA hfB hcC hcD hcF
  by_cases hij : i = j
  · subst hij
    go_enter Tryd.func59, Tryd.ntmps59
    go_upto_region 0 with fail
    obtain ⟨hfA, hfB, hcC, hcD, hcF⟩ := HFS.out
    have HF := HFV
    clear HFV HFS
    cases Option.some.inj (hcC.symm.trans hcD)
    refine wp_region_held_drew (S := (fun _ => True)) (by kernel_rfl) ?_ (fun hHeld => ?_)
    · trivial
    generalize W.drew = w7 at hfA hfB hcC hcD hcF HF ⊢
    refine wpAnyH_take (i := 0) (v := .slice (some ⟨g, 0, none⟩) l.length cap) rfl (by kernel_rfl) (by kernel_rfl) (by kernel_rfl) (fun _ _ _ h => h) (Or.inl ⟨by rfl, fun W hSW => ?_⟩) hHeld ?_
    · ((try dsimp only at hSW); go_split_ands; go_simp <;> with_reducible rfl)
    try simp only [List.getElem_toArray, List.getElem_cons_succ, List.getElem_cons_zero, Act.put, List.setIfInBounds_toArray, List.set_cons_zero, List.set_cons_succ]
    refine wpAnyH_take (i := 1) (v := .int .i64 i) rfl (by kernel_rfl) (by kernel_rfl) (by kernel_rfl) (fun _ _ _ h => h) (Or.inl ⟨by rfl, fun W hSW => ?_⟩) hHeld ?_
    · ((try dsimp only at hSW); go_split_ands; go_simp <;> with_reducible rfl)
    try simp only [List.getElem_toArray, List.getElem_cons_succ, List.getElem_cons_zero, Act.put, List.setIfInBounds_toArray, List.set_cons_zero, List.set_cons_succ]
    refine wpAnyH_take (i := 2) (v := .slice (some ⟨g, 0, none⟩) l.length cap) rfl (by kernel_rfl) (by kernel_rfl) (by kernel_rfl) (fun _ _ _ h => h) (Or.inl ⟨by rfl, fun W hSW => ?_⟩) hHeld ?_
    · ((try dsimp only at hSW); go_split_ands; go_simp <;> with_reducible rfl)
    try simp only [List.getElem_toArray, List.getElem_cons_succ, List.getElem_cons_zero, Act.put, List.setIfInBounds_toArray, List.set_cons_zero, List.set_cons_succ]
    refine wpAnyH_take (i := 3) (v := .int .i64 i) rfl (by kernel_rfl) (by kernel_rfl) (by kernel_rfl) (fun _ _ _ h => h) (Or.inl ⟨by rfl, fun W hSW => ?_⟩) hHeld ?_
    · ((try dsimp only at hSW); go_split_ands; go_simp <;> with_reducible rfl)
    try simp only [List.getElem_toArray, List.getElem_cons_succ, List.getElem_cons_zero, Act.put, List.setIfInBounds_toArray, List.set_cons_zero, List.set_cons_succ]
    refine wpAnyH_take (i := 4) (v := .slice (some ⟨g, 0, none⟩) l.length cap) rfl (by kernel_rfl) (by kernel_rfl) (by kernel_rfl) (fun _ _ _ h => h) (Or.inl ⟨by rfl, fun W hSW => ?_⟩) hHeld ?_
    · ((try dsimp only at hSW); go_split_ands; go_simp <;> with_reducible rfl)
    try simp only [List.getElem_toArray, List.getElem_cons_succ, List.getElem_cons_zero, Act.put, List.setIfInBounds_toArray, List.set_cons_zero, List.set_cons_succ]
    refine wpAnyH_take (i := 5) (v := .int .i64 i) rfl (by kernel_rfl) (by kernel_rfl) (by kernel_rfl) (fun _ _ _ h => h) (Or.inl ⟨by rfl, fun W hSW => ?_⟩) hHeld ?_
    · ((try dsimp only at hSW); go_split_ands; go_simp <;> with_reducible rfl)
    try simp only [List.getElem_toArray, List.getElem_cons_succ, List.getElem_cons_zero, Act.put, List.setIfInBounds_toArray, List.set_cons_zero, List.set_cons_succ]
    refine wpAnyH_take (i := 6) (v := .pointer (some ⟨g, i, none⟩)) rfl (by kernel_rfl) (by kernel_rfl) (by kernel_rfl) (fun _ _ _ h => h) (Or.inl ⟨by rfl, fun W hSW => ?_⟩) hHeld ?_
    · ((try dsimp only at hSW); go_split_ands; go_simp <;> with_reducible rfl)
    try simp only [List.getElem_toArray, List.getElem_cons_succ, List.getElem_cons_zero, Act.put, List.setIfInBounds_toArray, List.set_cons_zero, List.set_cons_succ]
    refine wpAnyH_take (i := 8) (v := .slice (some ⟨g, 0, none⟩) l.length cap) rfl (by kernel_rfl) (by kernel_rfl) (by kernel_rfl) (fun _ _ _ h => h) (Or.inl ⟨by rfl, fun W hSW => ?_⟩) hHeld ?_
    · ((try dsimp only at hSW); go_split_ands; go_simp <;> with_reducible rfl)
    try simp only [List.getElem_toArray, List.getElem_cons_succ, List.getElem_cons_zero, Act.put, List.setIfInBounds_toArray, List.set_cons_zero, List.set_cons_succ]
    refine wpAnyH_take (i := 9) (v := .int .i64 i) rfl (by kernel_rfl) (by kernel_rfl) (by kernel_rfl) (fun _ _ _ h => h) (Or.inl ⟨by rfl, fun W hSW => ?_⟩) hHeld ?_
    · ((try dsimp only at hSW); go_split_ands; go_simp <;> with_reducible rfl)
    try simp only [List.getElem_toArray, List.getElem_cons_succ, List.getElem_cons_zero, Act.put, List.setIfInBounds_toArray, List.set_cons_zero, List.set_cons_succ]
    refine wpAnyH_take (i := 10) (v := .pointer (some ⟨g, i, none⟩)) rfl (by kernel_rfl) (by kernel_rfl) (by kernel_rfl) (fun _ _ _ h => h) (Or.inl ⟨by rfl, fun W hSW => ?_⟩) hHeld ?_
    · ((try dsimp only at hSW); go_split_ands; go_simp <;> with_reducible rfl)
    try simp only [List.getElem_toArray, List.getElem_cons_succ, List.getElem_cons_zero, Act.put, List.setIfInBounds_toArray, List.set_cons_zero, List.set_cons_succ]
    refine wpAnyH_ready (rs := [7, 11]) (by kernel_rfl) (by simp) ?_
    refine AllReadyH.cons rfl (fun K hK => ?_) (AllReadyH.cons rfl (fun K hK => ?_) AllReadyH.nil)
    · skip
      try simp only [List.getElem_toArray, List.getElem_cons_succ, List.getElem_cons_zero]
      go_simp
      try go_wp2_with fail
      refine hK.out _ _ ?_ (fun hHeld => ?_)
      · trivial
      clear hK K
      try simp only [List.getElem_toArray, List.getElem_cons_succ, List.getElem_cons_zero, Act.put, List.setIfInBounds_toArray, List.set_cons_zero, List.set_cons_succ]
      refine wpAnyH_ready (rs := [11]) (by kernel_rfl) (by simp) ?_
      refine AllReadyH.cons rfl (fun K hK => ?_) AllReadyH.nil
      try simp only [List.getElem_toArray, List.getElem_cons_succ, List.getElem_cons_zero]
      go_simp
      try go_wp2_with fail
      refine hK.out _ _ ?_ (fun hHeld => ?_)
      · trivial
      clear hK K
      try simp only [List.getElem_toArray, List.getElem_cons_succ, List.getElem_cons_zero, Act.put, List.setIfInBounds_toArray, List.set_cons_zero, List.set_cons_succ]
      refine wpAnyH_take (i := 12) (v := .pointer (some ⟨g, i, none⟩)) rfl (by kernel_rfl) (by kernel_rfl) (by kernel_rfl) (fun _ _ _ h => h) (Or.inl ⟨by rfl, fun W hSW => ?_⟩) hHeld ?_
      · ((try dsimp only at hSW); go_split_ands; go_simp <;> with_reducible rfl)
      try simp only [List.getElem_toArray, List.getElem_cons_succ, List.getElem_cons_zero, Act.put, List.setIfInBounds_toArray, List.set_cons_zero, List.set_cons_succ]
      refine wpAnyH_ready (rs := [13]) (by kernel_rfl) (by simp) ?_
      refine AllReadyH.cons rfl (fun K hK => ?_) AllReadyH.nil
      try simp only [List.getElem_toArray, List.getElem_cons_succ, List.getElem_cons_zero]
      go_simp
      try go_wp2_with fail
      refine hK.out _ _ ?_ (fun hHeld => ?_)
      · trivial
      clear hK K
      try simp only [List.getElem_toArray, List.getElem_cons_succ, List.getElem_cons_zero, Act.put, List.setIfInBounds_toArray, List.set_cons_zero, List.set_cons_succ]
      refine wpAnyH_take (i := 14) (v := .pointer (some ⟨g, i, none⟩)) rfl (by kernel_rfl) (by kernel_rfl) (by kernel_rfl) (fun _ _ _ h => h) (Or.inl ⟨by rfl, fun W hSW => ?_⟩) hHeld ?_
      · ((try dsimp only at hSW); go_split_ands; go_simp <;> with_reducible rfl)
      try simp only [List.getElem_toArray, List.getElem_cons_succ, List.getElem_cons_zero, Act.put, List.setIfInBounds_toArray, List.set_cons_zero, List.set_cons_succ]
      refine wpAnyH_ready (rs := [15]) (by kernel_rfl) (by simp) ?_
      refine AllReadyH.cons rfl (fun K hK => ?_) AllReadyH.nil
      try simp only [List.getElem_toArray, List.getElem_cons_succ, List.getElem_cons_zero]
      go_simp
      try go_wp2_with fail
      refine hK.out _ _ ?_ (fun hHeld => ?_)
      · trivial
      clear hK K
      try simp only [List.getElem_toArray, List.getElem_cons_succ, List.getElem_cons_zero, Act.put, List.setIfInBounds_toArray, List.set_cons_zero, List.set_cons_succ]
      refine wpAnyH_done (by kernel_rfl) ?_ _
      clear hHeld
      go_wp2_with fail
      go_end0
      exact ⟨rfl, HF.out.1, HF.out.2⟩
    · skip
      try simp only [List.getElem_toArray, List.getElem_cons_succ, List.getElem_cons_zero]
      go_simp
      try go_wp2_with fail
      refine hK.out _ _ ?_ (fun hHeld => ?_)
      · trivial
      clear hK K
      try simp only [List.getElem_toArray, List.getElem_cons_succ, List.getElem_cons_zero, Act.put, List.setIfInBounds_toArray, List.set_cons_zero, List.set_cons_succ]
      refine wpAnyH_ready (rs := [7]) (by kernel_rfl) (by simp) ?_
      refine AllReadyH.cons rfl (fun K hK => ?_) AllReadyH.nil
      try simp only [List.getElem_toArray, List.getElem_cons_succ, List.getElem_cons_zero]
      go_simp
      try go_wp2_with fail
      refine hK.out _ _ ?_ (fun hHeld => ?_)
      · trivial
      clear hK K
      try simp only [List.getElem_toArray, List.getElem_cons_succ, List.getElem_cons_zero, Act.put, List.setIfInBounds_toArray, List.set_cons_zero, List.set_cons_succ]
      refine wpAnyH_take (i := 12) (v := .pointer (some ⟨g, i, none⟩)) rfl (by kernel_rfl) (by kernel_rfl) (by kernel_rfl) (fun _ _ _ h => h) (Or.inl ⟨by rfl, fun W hSW => ?_⟩) hHeld ?_
      · ((try dsimp only at hSW); go_split_ands; go_simp <;> with_reducible rfl)
      try simp only [List.getElem_toArray, List.getElem_cons_succ, List.getElem_cons_zero, Act.put, List.setIfInBounds_toArray, List.set_cons_zero, List.set_cons_succ]
      refine wpAnyH_ready (rs := [13]) (by kernel_rfl) (by simp) ?_
      refine AllReadyH.cons rfl (fun K hK => ?_) AllReadyH.nil
      try simp only [List.getElem_toArray, List.getElem_cons_succ, List.getElem_cons_zero]
      go_simp
      try go_wp2_with fail
      refine hK.out _ _ ?_ (fun hHeld => ?_)
      · trivial
      clear hK K
      try simp only [List.getElem_toArray, List.getElem_cons_succ, List.getElem_cons_zero, Act.put, List.setIfInBounds_toArray, List.set_cons_zero, List.set_cons_succ]
      refine wpAnyH_take (i := 14) (v := .pointer (some ⟨g, i, none⟩)) rfl (by kernel_rfl) (by kernel_rfl) (by kernel_rfl) (fun _ _ _ h => h) (Or.inl ⟨by rfl, fun W hSW => ?_⟩) hHeld ?_
      · ((try dsimp only at hSW); go_split_ands; go_simp <;> with_reducible rfl)
      try simp only [List.getElem_toArray, List.getElem_cons_succ, List.getElem_cons_zero, Act.put, List.setIfInBounds_toArray, List.set_cons_zero, List.set_cons_succ]
      refine wpAnyH_ready (rs := [15]) (by kernel_rfl) (by simp) ?_
      refine AllReadyH.cons rfl (fun K hK => ?_) AllReadyH.nil
      try simp only [List.getElem_toArray, List.getElem_cons_succ, List.getElem_cons_zero]
      go_simp
      try go_wp2_with fail
      refine hK.out _ _ ?_ (fun hHeld => ?_)
      · trivial
      clear hK K
      try simp only [List.getElem_toArray, List.getElem_cons_succ, List.getElem_cons_zero, Act.put, List.setIfInBounds_toArray, List.set_cons_zero, List.set_cons_succ]
      refine wpAnyH_done (by kernel_rfl) ?_ _
      clear hHeld
      go_wp2_with fail
      go_end0
      exact ⟨rfl, HF.out.1, HF.out.2⟩
  · have hji : ¬ j = i := fun e => hij e.symm
    go_enter Tryd.func59, Tryd.ntmps59
    go_upto_region 0 with fail
    obtain ⟨hfA, hfB, hcC, hcD, hcF⟩ := HFS.out
    have HF := HFV
    clear HFV HFS
    refine wp_region_held_drew (S := (fun _ => True)) (by kernel_rfl) ?_ (fun hHeld => ?_)
    · trivial
    generalize W.drew = w7 at hfA hfB hcC hcD hcF HF ⊢
    refine wpAnyH_take (i := 0) (v := .slice (some ⟨g, 0, none⟩) l.length cap) rfl (by kernel_rfl) (by kernel_rfl) (by kernel_rfl) (fun _ _ _ h => h) (Or.inl ⟨by rfl, fun W hSW => ?_⟩) hHeld ?_
    · ((try dsimp only at hSW); go_split_ands; go_simp <;> with_reducible rfl)
    try simp only [List.getElem_toArray, List.getElem_cons_succ, List.getElem_cons_zero, Act.put, List.setIfInBounds_toArray, List.set_cons_zero, List.set_cons_succ]
    refine wpAnyH_take (i := 1) (v := .int .i64 i) rfl (by kernel_rfl) (by kernel_rfl) (by kernel_rfl) (fun _ _ _ h => h) (Or.inl ⟨by rfl, fun W hSW => ?_⟩) hHeld ?_
    · ((try dsimp only at hSW); go_split_ands; go_simp <;> with_reducible rfl)
    try simp only [List.getElem_toArray, List.getElem_cons_succ, List.getElem_cons_zero, Act.put, List.setIfInBounds_toArray, List.set_cons_zero, List.set_cons_succ]
    refine wpAnyH_take (i := 2) (v := .slice (some ⟨g, 0, none⟩) l.length cap) rfl (by kernel_rfl) (by kernel_rfl) (by kernel_rfl) (fun _ _ _ h => h) (Or.inl ⟨by rfl, fun W hSW => ?_⟩) hHeld ?_
    · ((try dsimp only at hSW); go_split_ands; go_simp <;> with_reducible rfl)
    try simp only [List.getElem_toArray, List.getElem_cons_succ, List.getElem_cons_zero, Act.put, List.setIfInBounds_toArray, List.set_cons_zero, List.set_cons_succ]
    refine wpAnyH_take (i := 3) (v := .int .i64 j) rfl (by kernel_rfl) (by kernel_rfl) (by kernel_rfl) (fun _ _ _ h => h) (Or.inl ⟨by rfl, fun W hSW => ?_⟩) hHeld ?_
    · ((try dsimp only at hSW); go_split_ands; go_simp <;> with_reducible rfl)
    try simp only [List.getElem_toArray, List.getElem_cons_succ, List.getElem_cons_zero, Act.put, List.setIfInBounds_toArray, List.set_cons_zero, List.set_cons_succ]
    refine wpAnyH_take (i := 4) (v := .slice (some ⟨g, 0, none⟩) l.length cap) rfl (by kernel_rfl) (by kernel_rfl) (by kernel_rfl) (fun _ _ _ h => h) (Or.inl ⟨by rfl, fun W hSW => ?_⟩) hHeld ?_
    · ((try dsimp only at hSW); go_split_ands; go_simp <;> with_reducible rfl)
    try simp only [List.getElem_toArray, List.getElem_cons_succ, List.getElem_cons_zero, Act.put, List.setIfInBounds_toArray, List.set_cons_zero, List.set_cons_succ]
    refine wpAnyH_take (i := 5) (v := .int .i64 j) rfl (by kernel_rfl) (by kernel_rfl) (by kernel_rfl) (fun _ _ _ h => h) (Or.inl ⟨by rfl, fun W hSW => ?_⟩) hHeld ?_
    · ((try dsimp only at hSW); go_split_ands; go_simp <;> with_reducible rfl)
    try simp only [List.getElem_toArray, List.getElem_cons_succ, List.getElem_cons_zero, Act.put, List.setIfInBounds_toArray, List.set_cons_zero, List.set_cons_succ]
    refine wpAnyH_take (i := 6) (v := .pointer (some ⟨g, j, none⟩)) rfl (by kernel_rfl) (by kernel_rfl) (by kernel_rfl) (fun _ _ _ h => h) (Or.inl ⟨by rfl, fun W hSW => ?_⟩) hHeld ?_
    · ((try dsimp only at hSW); go_split_ands; go_simp <;> with_reducible rfl)
    try simp only [List.getElem_toArray, List.getElem_cons_succ, List.getElem_cons_zero, Act.put, List.setIfInBounds_toArray, List.set_cons_zero, List.set_cons_succ]
    refine wpAnyH_take (i := 8) (v := .slice (some ⟨g, 0, none⟩) l.length cap) rfl (by kernel_rfl) (by kernel_rfl) (by kernel_rfl) (fun _ _ _ h => h) (Or.inl ⟨by rfl, fun W hSW => ?_⟩) hHeld ?_
    · ((try dsimp only at hSW); go_split_ands; go_simp <;> with_reducible rfl)
    try simp only [List.getElem_toArray, List.getElem_cons_succ, List.getElem_cons_zero, Act.put, List.setIfInBounds_toArray, List.set_cons_zero, List.set_cons_succ]
    refine wpAnyH_take (i := 9) (v := .int .i64 i) rfl (by kernel_rfl) (by kernel_rfl) (by kernel_rfl) (fun _ _ _ h => h) (Or.inl ⟨by rfl, fun W hSW => ?_⟩) hHeld ?_
    · ((try dsimp only at hSW); go_split_ands; go_simp <;> with_reducible rfl)
    try simp only [List.getElem_toArray, List.getElem_cons_succ, List.getElem_cons_zero, Act.put, List.setIfInBounds_toArray, List.set_cons_zero, List.set_cons_succ]
    refine wpAnyH_take (i := 10) (v := .pointer (some ⟨g, i, none⟩)) rfl (by kernel_rfl) (by kernel_rfl) (by kernel_rfl) (fun _ _ _ h => h) (Or.inl ⟨by rfl, fun W hSW => ?_⟩) hHeld ?_
    · ((try dsimp only at hSW); go_split_ands; go_simp <;> with_reducible rfl)
    try simp only [List.getElem_toArray, List.getElem_cons_succ, List.getElem_cons_zero, Act.put, List.setIfInBounds_toArray, List.set_cons_zero, List.set_cons_succ]
    refine wpAnyH_ready (rs := [7, 11]) (by kernel_rfl) (by simp) ?_
    refine AllReadyH.cons rfl (fun K hK => ?_) (AllReadyH.cons rfl (fun K hK => ?_) AllReadyH.nil)
    · skip
      try simp only [List.getElem_toArray, List.getElem_cons_succ, List.getElem_cons_zero]
      go_simp
      try go_wp2_with fail
      refine hK.out _ _ ?_ (fun hHeld => ?_)
      · trivial
      clear hK K
      try simp only [List.getElem_toArray, List.getElem_cons_succ, List.getElem_cons_zero, Act.put, List.setIfInBounds_toArray, List.set_cons_zero, List.set_cons_succ]
      refine wpAnyH_ready (rs := [11]) (by kernel_rfl) (by simp) ?_
      refine AllReadyH.cons rfl (fun K hK => ?_) AllReadyH.nil
      try simp only [List.getElem_toArray, List.getElem_cons_succ, List.getElem_cons_zero]
      go_simp
      try go_wp2_with fail
      refine hK.out _ _ ?_ (fun hHeld => ?_)
      · trivial
      clear hK K
      try simp only [List.getElem_toArray, List.getElem_cons_succ, List.getElem_cons_zero, Act.put, List.setIfInBounds_toArray, List.set_cons_zero, List.set_cons_succ]
      refine wpAnyH_take (i := 12) (v := .pointer (some ⟨g, i, none⟩)) rfl (by kernel_rfl) (by kernel_rfl) (by kernel_rfl) (fun _ _ _ h => h) (Or.inl ⟨by rfl, fun W hSW => ?_⟩) hHeld ?_
      · ((try dsimp only at hSW); go_split_ands; go_simp <;> with_reducible rfl)
      try simp only [List.getElem_toArray, List.getElem_cons_succ, List.getElem_cons_zero, Act.put, List.setIfInBounds_toArray, List.set_cons_zero, List.set_cons_succ]
      refine wpAnyH_ready (rs := [13]) (by kernel_rfl) (by simp) ?_
      refine AllReadyH.cons rfl (fun K hK => ?_) AllReadyH.nil
      try simp only [List.getElem_toArray, List.getElem_cons_succ, List.getElem_cons_zero]
      go_simp
      try go_wp2_with fail
      refine hK.out _ _ ?_ (fun hHeld => ?_)
      · trivial
      clear hK K
      try simp only [List.getElem_toArray, List.getElem_cons_succ, List.getElem_cons_zero, Act.put, List.setIfInBounds_toArray, List.set_cons_zero, List.set_cons_succ]
      refine wpAnyH_take (i := 14) (v := .pointer (some ⟨g, j, none⟩)) rfl (by kernel_rfl) (by kernel_rfl) (by kernel_rfl) (fun _ _ _ h => h) (Or.inl ⟨by rfl, fun W hSW => ?_⟩) hHeld ?_
      · ((try dsimp only at hSW); go_split_ands; go_simp <;> with_reducible rfl)
      try simp only [List.getElem_toArray, List.getElem_cons_succ, List.getElem_cons_zero, Act.put, List.setIfInBounds_toArray, List.set_cons_zero, List.set_cons_succ]
      refine wpAnyH_ready (rs := [15]) (by kernel_rfl) (by simp) ?_
      refine AllReadyH.cons rfl (fun K hK => ?_) AllReadyH.nil
      try simp only [List.getElem_toArray, List.getElem_cons_succ, List.getElem_cons_zero]
      go_simp
      try go_wp2_with fail
      refine hK.out _ _ ?_ (fun hHeld => ?_)
      · trivial
      clear hK K
      try simp only [List.getElem_toArray, List.getElem_cons_succ, List.getElem_cons_zero, Act.put, List.setIfInBounds_toArray, List.set_cons_zero, List.set_cons_succ]
      refine wpAnyH_done (by kernel_rfl) ?_ _
      clear hHeld
      go_wp2_with fail
      go_end0
      exact ⟨rfl, HF.out.1, HF.out.2⟩
    · skip
      try simp only [List.getElem_toArray, List.getElem_cons_succ, List.getElem_cons_zero]
      go_simp
      try go_wp2_with fail
      refine hK.out _ _ ?_ (fun hHeld => ?_)
      · trivial
      clear hK K
      try simp only [List.getElem_toArray, List.getElem_cons_succ, List.getElem_cons_zero, Act.put, List.setIfInBounds_toArray, List.set_cons_zero, List.set_cons_succ]
      refine wpAnyH_ready (rs := [7]) (by kernel_rfl) (by simp) ?_
      refine AllReadyH.cons rfl (fun K hK => ?_) AllReadyH.nil
      try simp only [List.getElem_toArray, List.getElem_cons_succ, List.getElem_cons_zero]
      go_simp
      try go_wp2_with fail
      refine hK.out _ _ ?_ (fun hHeld => ?_)
      · trivial
      clear hK K
      try simp only [List.getElem_toArray, List.getElem_cons_succ, List.getElem_cons_zero, Act.put, List.setIfInBounds_toArray, List.set_cons_zero, List.set_cons_succ]
      refine wpAnyH_take (i := 12) (v := .pointer (some ⟨g, i, none⟩)) rfl (by kernel_rfl) (by kernel_rfl) (by kernel_rfl) (fun _ _ _ h => h) (Or.inl ⟨by rfl, fun W hSW => ?_⟩) hHeld ?_
      · ((try dsimp only at hSW); go_split_ands; go_simp <;> with_reducible rfl)
      try simp only [List.getElem_toArray, List.getElem_cons_succ, List.getElem_cons_zero, Act.put, List.setIfInBounds_toArray, List.set_cons_zero, List.set_cons_succ]
      refine wpAnyH_ready (rs := [13]) (by kernel_rfl) (by simp) ?_
      refine AllReadyH.cons rfl (fun K hK => ?_) AllReadyH.nil
      try simp only [List.getElem_toArray, List.getElem_cons_succ, List.getElem_cons_zero]
      go_simp
      try go_wp2_with fail
      refine hK.out _ _ ?_ (fun hHeld => ?_)
      · trivial
      clear hK K
      try simp only [List.getElem_toArray, List.getElem_cons_succ, List.getElem_cons_zero, Act.put, List.setIfInBounds_toArray, List.set_cons_zero, List.set_cons_succ]
      refine wpAnyH_take (i := 14) (v := .pointer (some ⟨g, j, none⟩)) rfl (by kernel_rfl) (by kernel_rfl) (by kernel_rfl) (fun _ _ _ h => h) (Or.inl ⟨by rfl, fun W hSW => ?_⟩) hHeld ?_
      · ((try dsimp only at hSW); go_split_ands; go_simp <;> with_reducible rfl)
      try simp only [List.getElem_toArray, List.getElem_cons_succ, List.getElem_cons_zero, Act.put, List.setIfInBounds_toArray, List.set_cons_zero, List.set_cons_succ]
      refine wpAnyH_ready (rs := [15]) (by kernel_rfl) (by simp) ?_
      refine AllReadyH.cons rfl (fun K hK => ?_) AllReadyH.nil
      try simp only [List.getElem_toArray, List.getElem_cons_succ, List.getElem_cons_zero]
      go_simp
      try go_wp2_with fail
      refine hK.out _ _ ?_ (fun hHeld => ?_)
      · trivial
      clear hK K
      try simp only [List.getElem_toArray, List.getElem_cons_succ, List.getElem_cons_zero, Act.put, List.setIfInBounds_toArray, List.set_cons_zero, List.set_cons_succ]
      refine wpAnyH_done (by kernel_rfl) ?_ _
      clear hHeld
      go_wp2_with fail
      go_end0
      exact ⟨rfl, HF.out.1, HF.out.2⟩
theorem hlen_pos {n : Nat} (h : 0 < n) : ((n : Int) - 1) = ((n - 1 : Nat) : Int) := by omega
end Go.Proofs.YtkoofibhddkpiaaDoor

/-! solve: the line's Push and Pop -/
namespace Go.Proofs.YtkoofibhddkpiaaDoor
open Go.RowKit
/-- a piece of work in memory -/
def WorkB (W : World) (wb : Nat) (c0 c1 c2 c3 lv mv : Value) : Prop := W.heap[wb]? = some (.cells #[c0, c1, c2, c3, lv, mv] 43)
theorem WorkB.lt {W : World} {wb : Nat} {c0 c1 c2 c3 lv mv : Value} (h : WorkB W wb c0 c1 c2 c3 lv mv) : wb < W.heap.size := SS.heap_some_lt h
theorem WorkB.cells {W : World} {wb : Nat} {c0 c1 c2 c3 lv mv : Value} (h : WorkB W wb c0 c1 c2 c3 lv mv) : W.cell? ⟨wb, 0, none⟩ = some c0 ∧ W.cell? ⟨wb, 1, none⟩ = some c1 ∧ W.cell? ⟨wb, 2, none⟩ = some c2 ∧ W.cell? ⟨wb, 3, none⟩ = some c3 ∧ W.cell? ⟨wb, 4, none⟩ = some lv ∧ W.cell? ⟨wb, 5, none⟩ = some mv := by
  unfold WorkB at h
  refine ⟨?_, ?_, ?_, ?_, ?_, ?_⟩ <;> simp [World.cell?, h]
theorem WorkB.free {W : World} {wb : Nat} {c0 c1 c2 c3 lv mv : Value} (h : WorkB W wb c0 c1 c2 c3 lv mv) (k : Nat) : W.frozen? ⟨wb, k, none⟩ = false := by
  unfold WorkB at h
  simp [World.frozen?, h]
theorem WorkB.set {W : World} {wb : Nat} {c0 c1 c2 c3 lv mv : Value} (h : WorkB W wb c0 c1 c2 c3 lv mv) (v : Value) : WorkB (W.setCell ⟨wb, 4, none⟩ v) wb c0 c1 c2 c3 v mv := SS.set_obj (c := 4) v h
theorem WorkB.of {W V : World} {wb : Nat} {c0 c1 c2 c3 lv mv : Value} (h : WorkB W wb c0 c1 c2 c3 lv mv) (e : V.heap[wb]? = W.heap[wb]?) : WorkB V wb c0 c1 c2 c3 lv mv := e.trans h
/-- but for the work's block, all below B is as it was -/
structure LK (wb B : Nat) (W V : World) : Prop where
  os : V.os = W.os
  tape : V.tape = W.tape
  output : V.output = W.output
  size : W.heap.size ≤ V.heap.size
  block : ∀ k, k < B → k ≠ wb → V.heap[k]? = W.heap[k]?
theorem LK.refl (wb B : Nat) (W : World) : LK wb B W W := ⟨rfl, rfl, rfl, Nat.le_refl _, fun _ _ _ => rfl⟩
theorem LK.trans {wb B : Nat} {W V Z : World} (h : LK wb B W V) (g : LK wb B V Z) : LK wb B W Z := ⟨g.os.trans h.os, g.tape.trans h.tape, g.output.trans h.output, Nat.le_trans h.size g.size, fun k h1 h2 => (g.block k h1 h2).trans (h.block k h1 h2)⟩
theorem LK.grown {wb B : Nat} {W V : World} {row : Option Nat} (hB : B ≤ W.heap.size) (hg : W.grownBy V row) (hr : ∀ k, row = some k → B ≤ k) : LK wb B W V := ⟨hg.os, hg.tape, hg.output, hg.size, fun k h1 _ => hg.block k (by omega) (fun e => by have := hr k e.symm; omega)⟩
theorem LK.set {wb B : Nat} {W V : World} (h : LK wb B W V) (i : Nat) (u : Value) : LK wb B W (V.setCell ⟨wb, i, none⟩ u) := ⟨h.os, h.tape, h.output, by simpa using h.size, fun k h1 h2 => (Below.heap_setCell _ _ _ _ h2).trans (h.block k h1 h2)⟩
theorem LK.alloc {wb B : Nat} {W V : World} (h : LK wb B W V) (hB : B ≤ W.heap.size) (o : Obj) : LK wb B W (V.alloc o) := ⟨h.os, h.tape, h.output, by have := h.size; simp; omega, fun k h1 h2 => (heap_alloc_old _ _ (by have := h.size; omega)).trans (h.block k h1 h2)⟩
theorem LK.drew {wb B : Nat} {W V : World} (h : LK wb B W V) : LK wb B W V.drew := ⟨h.os, h.tape, h.output, h.size, h.block⟩
theorem LK.drewN {wb B : Nat} {W V : World} (h : LK wb B W V) (d : Nat) : LK wb B W (V.drewN d) := ⟨h.os, h.tape, h.output, h.size, h.block⟩
/-- the line, in its field -/
structure LineP (W : World) (wb B : Nat) (c0 c1 c2 c3 lv mv : Value) (l : List Int) : Prop where
  work : WorkB W wb c0 c1 c2 c3 lv mv
  own : W.ownsRow B 3 1 lv l.length (intsV l)
  lt : wb < B
  base : B ≤ W.heap.size
theorem LineP.drewN {W : World} {wb B : Nat} {c0 c1 c2 c3 lv mv : Value} {l : List Int} (h : LineP W wb B c0 c1 c2 c3 lv mv l) (d : Nat) : LineP (W.drewN d) wb B c0 c1 c2 c3 lv mv l := ⟨h.work, SS.own_of_block h.own (fun k e => rfl), h.lt, h.base⟩
theorem LineP.grown {W V : World} {wb B : Nat} {c0 c1 c2 c3 mv : Value} {g n cap : Nat} {l l' : List Int} (h : LineP W wb B c0 c1 c2 c3 (.slice (some ⟨g, 0, none⟩) n cap) mv l) (ho : V.ownsRow B 3 1 (.slice (some ⟨g, 0, none⟩) n cap) l'.length (intsV l')) (hg : W.grownBy V (some g)) : LineP V wb B c0 c1 c2 c3 (.slice (some ⟨g, 0, none⟩) n cap) mv l' := by
  have hgb := (h.own.lt g rfl).1
  have := h.lt
  exact ⟨h.work.of (hg.block _ h.work.lt (fun e => by have := Option.some.inj e; omega)), ho, h.lt, Nat.le_trans h.base hg.size⟩
theorem own_take {W : World} {B e n m cap g : Nat} {xs : List Value} (h : W.ownsRow B e 1 (.slice (some ⟨g, 0, none⟩) n cap) n xs) (hm : m ≤ n) : W.ownsRow B e 1 (.slice (some ⟨g, 0, none⟩) m cap) m (xs.take m) := by
  have hl := h.1
  rcases h.2 with ⟨e1, _⟩ | ⟨g', cap', cur, e1, hb, hg, hn, hmx, hs, htake⟩
  · cases e1
  · cases e1
    refine ⟨by rw [List.length_take]; omega, .inr ⟨g, cap, cur, rfl, hb, hg, by omega, hmx, hs, ?_⟩⟩
    rw [← htake, List.take_take]
    congr 1
    omega
theorem own_cap {W : World} {B e n cap g : Nat} {xs : List Value} (h : W.ownsRow B e 1 (.slice (some ⟨g, 0, none⟩) n cap) n xs) : n ≤ cap := by
  rcases h.2 with ⟨e1, _⟩ | ⟨g', cap', cur, e1, hb, hg, hn, _⟩
  · cases e1
  · cases e1; exact hn
def PushE (wb B : Nat) (c0 c1 c2 c3 mv : Value) (l' : List Int) (W : World) (e : Ending) (V : World) : Prop := e = .returned (.tuple #[]) ∧ LK wb B W V ∧ ∃ lv, LineP V wb B c0 c1 c2 c3 lv mv l'

set_option maxRecDepth 100000 in
set_option maxHeartbeats 6400000 in
theorem hpushL_any {W : World} {wb B : Nat} {c0 c1 c2 c3 lv mv : Value} {l : List Int} (x : Int) (h : LineP W wb B c0 c1 c2 c3 lv mv l) (hl : l.length ≤ 4294967296) :
    Calls Tryd.prog 61 #[.pointer (some ⟨wb, 4, none⟩), .iface 3 (.int .i64 x)] W fun e V => PushE wb B c0 c1 c2 c3 mv (l ++ [x]) W e V := by
  obtain ⟨la, lc, rfl⟩ := SS.ownOf h.own
  obtain ⟨i0, hi0, hy0, hy1, hy2⟩ := info_parts Tryd.infoGInt
  have hta : ∀ w, Sem.run Tryd.prog (Instr.typeAssert (.iface 3 (.int .i64 x)) 20 3 false) w = .ok (.int .i64 x) w := fun w => by kernel_rfl
  have H := Lib.hid h
  have HD := Lib.hid (show LineP W.drew wb B c0 c1 c2 c3 (.slice la l.length lc) mv l from h.drewN 1)
  have HK := Lib.hid (show LK wb B W W.drew from (LK.refl wb B W).drew)
  clear h
  go_enter Tryd.func61, Tryd.ntmps61
  go_upto_region 0 with fail
  refine wp_region_held_drew (S := (fun _ => True)) (by kernel_rfl) ?_ (fun hHeld => ?_)
  · trivial
  generalize W.drew = w7 at HD HK ⊢
  have hcA := HD.out.work.cells.2.2.2.2.1
  have HDA := Lib.hid (show WorkB (w7.alloc (.cells #[.int .i64 x] 3)) wb c0 c1 c2 c3 (.slice la l.length lc) mv from HD.out.work.of (heap_alloc_old _ _ HD.out.work.lt))
  have hcB := HDA.out.cells.2.2.2.2.1
  refine wpAnyH_take (i := 0) (v := .pointer (some ⟨wb, 4, none⟩)) rfl (by kernel_rfl) (by kernel_rfl) (by kernel_rfl) (fun _ _ _ h => h) (Or.inl ⟨by rfl, fun W hSW => ?_⟩) hHeld ?_
  · ((try dsimp only at hSW); go_split_ands; go_simp <;> with_reducible rfl)
  try simp only [List.getElem_toArray, List.getElem_cons_succ, List.getElem_cons_zero, Act.put, List.setIfInBounds_toArray, List.set_cons_zero, List.set_cons_succ]
  refine wpAnyH_take (i := 1) (v := .pointer (some ⟨wb, 4, none⟩)) rfl (by kernel_rfl) (by kernel_rfl) (by kernel_rfl) (fun _ _ _ h => h) (Or.inl ⟨by rfl, fun W hSW => ?_⟩) hHeld ?_
  · ((try dsimp only at hSW); go_split_ands; go_simp <;> with_reducible rfl)
  try simp only [List.getElem_toArray, List.getElem_cons_succ, List.getElem_cons_zero, Act.put, List.setIfInBounds_toArray, List.set_cons_zero, List.set_cons_succ]
  refine wpAnyH_take (i := 2) (v := .pointer (some ⟨wb, 4, none⟩)) rfl (by kernel_rfl) (by kernel_rfl) (by kernel_rfl) (fun _ _ _ h => h) (Or.inl ⟨by rfl, fun W hSW => ?_⟩) hHeld ?_
  · ((try dsimp only at hSW); go_split_ands; go_simp <;> with_reducible rfl)
  try simp only [List.getElem_toArray, List.getElem_cons_succ, List.getElem_cons_zero, Act.put, List.setIfInBounds_toArray, List.set_cons_zero, List.set_cons_succ]
  refine wpAnyH_take (i := 4) (v := .iface 3 (.int .i64 x)) rfl (by kernel_rfl) (by kernel_rfl) (by kernel_rfl) (fun _ _ _ h => h) (Or.inl ⟨by rfl, fun W hSW => ?_⟩) hHeld ?_
  · ((try dsimp only at hSW); go_split_ands; go_simp <;> with_reducible rfl)
  try simp only [List.getElem_toArray, List.getElem_cons_succ, List.getElem_cons_zero, Act.put, List.setIfInBounds_toArray, List.set_cons_zero, List.set_cons_succ]
  refine wpAnyH_take (i := 5) (v := .int .i64 x) rfl (by kernel_rfl) (by kernel_rfl) (by kernel_rfl) (fun _ _ _ h => h) (Or.inl ⟨by rfl, fun W hSW => ?_⟩) hHeld ?_
  · ((try dsimp only at hSW); go_split_ands; go_simp <;> with_reducible rfl)
  try simp only [List.getElem_toArray, List.getElem_cons_succ, List.getElem_cons_zero, Act.put, List.setIfInBounds_toArray, List.set_cons_zero, List.set_cons_succ]
  refine wpAnyH_ready (rs := [3, 6]) (by kernel_rfl) (by simp) ?_
  refine AllReadyH.cons rfl (fun K hK => ?_) (AllReadyH.cons rfl (fun K hK => ?_) AllReadyH.nil)
  · skip
    try simp only [List.getElem_toArray, List.getElem_cons_succ, List.getElem_cons_zero]
    go_simp
    try go_wp2_with fail
    refine hK.out _ _ ?_ (fun hHeld => ?_)
    · trivial
    clear hK K
    try simp only [List.getElem_toArray, List.getElem_cons_succ, List.getElem_cons_zero, Act.put, List.setIfInBounds_toArray, List.set_cons_zero, List.set_cons_succ]
    refine wpAnyH_ready (rs := [6]) (by kernel_rfl) (by simp) ?_
    refine AllReadyH.cons rfl (fun K hK => ?_) AllReadyH.nil
    try simp only [List.getElem_toArray, List.getElem_cons_succ, List.getElem_cons_zero]
    go_simp
    try go_wp2_with fail
    refine hK.out _ _ ?_ (fun hHeld => ?_)
    · trivial
    clear hK K
    try simp only [List.getElem_toArray, List.getElem_cons_succ, List.getElem_cons_zero, Act.put, List.setIfInBounds_toArray, List.set_cons_zero, List.set_cons_succ]
    refine wpAnyH_ready (rs := [7]) (by kernel_rfl) (by simp) ?_
    refine AllReadyH.cons rfl (fun K hK => ?_) AllReadyH.nil
    refine step_append_lies _ rfl (.tmp 7) (.tmp 10) 40 rfl B 3 i0 (.int .i64 0) 1 8 Tryd.underlying40 hi0 hy0 hy1 hy2 rfl (by decide) (.slice la l.length lc) l.length (intsV l) (by rfl) (HD.out.own.alloc _) ⟨w7.heap.size, 0, none⟩ 1 1 [.int .i64 x] (by rfl) rfl (World.news_of_block (cs := #[.int .i64 x]) (t := 3) (fr := (0, 0)) (SS.new_at rfl)) (by intro u hu; rw [List.mem_singleton.1 hu]; rfl) (by decide) (by unfold maxLen; omega) (by omega) (by have := HD.out.base; simp; omega) (w7.heap.size + 1) (by simp) ?_
    intro g2 cap2 w3 hown hg hat hlt2
    have HB3 := Lib.hid (show WorkB w3 wb c0 c1 c2 c3 (.slice la l.length lc) mv from HDA.out.of (hg.block _ HDA.out.lt (fun e => by have h1 := (HD.out.own.lt _ e.symm).1; have := HD.out.lt; omega)))
    have HF := Lib.hid (show PushE wb B c0 c1 c2 c3 mv (l ++ [x]) W (.returned (.tuple #[])) (w3.setCell ⟨wb, 4, none⟩ (.slice (some ⟨g2, 0, none⟩) (l.length + 1) cap2)) from ⟨rfl, (HK.out.trans ((LK.refl wb B w7).alloc HD.out.base _ |>.trans (LK.grown (by have := HD.out.base; simp; omega) hg (fun k e => (HD.out.own.lt k e).1)))).set 4 _, _, HB3.out.set _, by rw [List.length_append]; simpa [intsV] using SS.own_of_block hown (fun k e => Below.heap_setCell _ _ _ _ (by have h1 := (hown.lt k e).1; have := HD.out.lt; show k ≠ wb; omega)), HD.out.lt, by have h1 := hg.size; have := HD.out.base; simp at h1 ⊢; omega⟩)
    have hc6 := HB3.out.cells.2.2.2.2.1
    have hf6 := HB3.out.free 4
    clear hown hg hat hlt2
    refine hK.out _ _ ?_ (fun hHeld => ?_)
    · trivial
    clear hK K
    try simp only [List.getElem_toArray, List.getElem_cons_succ, List.getElem_cons_zero, Act.put, List.setIfInBounds_toArray, List.set_cons_zero, List.set_cons_succ]
    refine wpAnyH_take (i := 8) (v := .pointer (some ⟨wb, 4, none⟩)) rfl (by kernel_rfl) (by kernel_rfl) (by kernel_rfl) (fun _ _ _ h => h) (Or.inl ⟨by rfl, fun W hSW => ?_⟩) hHeld ?_
    · ((try dsimp only at hSW); go_split_ands; go_simp <;> with_reducible rfl)
    try simp only [List.getElem_toArray, List.getElem_cons_succ, List.getElem_cons_zero, Act.put, List.setIfInBounds_toArray, List.set_cons_zero, List.set_cons_succ]
    refine wpAnyH_ready (rs := [9]) (by kernel_rfl) (by simp) ?_
    refine AllReadyH.cons rfl (fun K hK => ?_) AllReadyH.nil
    try simp only [List.getElem_toArray, List.getElem_cons_succ, List.getElem_cons_zero]
    go_simp
    try go_wp2_with fail
    refine hK.out _ _ ?_ (fun hHeld => ?_)
    · trivial
    clear hK K
    try simp only [List.getElem_toArray, List.getElem_cons_succ, List.getElem_cons_zero, Act.put, List.setIfInBounds_toArray, List.set_cons_zero, List.set_cons_succ]
    refine wpAnyH_done (by kernel_rfl) ?_ _
    clear hHeld
    go_wp2_with fail
    go_end0
    exact HF.out
  · skip
    try simp only [List.getElem_toArray, List.getElem_cons_succ, List.getElem_cons_zero]
    go_simp
    try go_wp2_with fail
    refine hK.out _ _ ?_ (fun hHeld => ?_)
    · trivial
    clear hK K
    try simp only [List.getElem_toArray, List.getElem_cons_succ, List.getElem_cons_zero, Act.put, List.setIfInBounds_toArray, List.set_cons_zero, List.set_cons_succ]
    refine wpAnyH_ready (rs := [3]) (by kernel_rfl) (by simp) ?_
    refine AllReadyH.cons rfl (fun K hK => ?_) AllReadyH.nil
    try simp only [List.getElem_toArray, List.getElem_cons_succ, List.getElem_cons_zero]
    go_simp
    try go_wp2_with fail
    refine hK.out _ _ ?_ (fun hHeld => ?_)
    · trivial
    clear hK K
    try simp only [List.getElem_toArray, List.getElem_cons_succ, List.getElem_cons_zero, Act.put, List.setIfInBounds_toArray, List.set_cons_zero, List.set_cons_succ]
    refine wpAnyH_ready (rs := [7]) (by kernel_rfl) (by simp) ?_
    refine AllReadyH.cons rfl (fun K hK => ?_) AllReadyH.nil
    refine step_append_lies _ rfl (.tmp 7) (.tmp 10) 40 rfl B 3 i0 (.int .i64 0) 1 8 Tryd.underlying40 hi0 hy0 hy1 hy2 rfl (by decide) (.slice la l.length lc) l.length (intsV l) (by rfl) (HD.out.own.alloc _) ⟨w7.heap.size, 0, none⟩ 1 1 [.int .i64 x] (by rfl) rfl (World.news_of_block (cs := #[.int .i64 x]) (t := 3) (fr := (0, 0)) (SS.new_at rfl)) (by intro u hu; rw [List.mem_singleton.1 hu]; rfl) (by decide) (by unfold maxLen; omega) (by omega) (by have := HD.out.base; simp; omega) (w7.heap.size + 1) (by simp) ?_
    intro g2 cap2 w3 hown hg hat hlt2
    have HB3 := Lib.hid (show WorkB w3 wb c0 c1 c2 c3 (.slice la l.length lc) mv from HDA.out.of (hg.block _ HDA.out.lt (fun e => by have h1 := (HD.out.own.lt _ e.symm).1; have := HD.out.lt; omega)))
    have HF := Lib.hid (show PushE wb B c0 c1 c2 c3 mv (l ++ [x]) W (.returned (.tuple #[])) (w3.setCell ⟨wb, 4, none⟩ (.slice (some ⟨g2, 0, none⟩) (l.length + 1) cap2)) from ⟨rfl, (HK.out.trans ((LK.refl wb B w7).alloc HD.out.base _ |>.trans (LK.grown (by have := HD.out.base; simp; omega) hg (fun k e => (HD.out.own.lt k e).1)))).set 4 _, _, HB3.out.set _, by rw [List.length_append]; simpa [intsV] using SS.own_of_block hown (fun k e => Below.heap_setCell _ _ _ _ (by have h1 := (hown.lt k e).1; have := HD.out.lt; show k ≠ wb; omega)), HD.out.lt, by have h1 := hg.size; have := HD.out.base; simp at h1 ⊢; omega⟩)
    have hc6 := HB3.out.cells.2.2.2.2.1
    have hf6 := HB3.out.free 4
    clear hown hg hat hlt2
    refine hK.out _ _ ?_ (fun hHeld => ?_)
    · trivial
    clear hK K
    try simp only [List.getElem_toArray, List.getElem_cons_succ, List.getElem_cons_zero, Act.put, List.setIfInBounds_toArray, List.set_cons_zero, List.set_cons_succ]
    refine wpAnyH_take (i := 8) (v := .pointer (some ⟨wb, 4, none⟩)) rfl (by kernel_rfl) (by kernel_rfl) (by kernel_rfl) (fun _ _ _ h => h) (Or.inl ⟨by rfl, fun W hSW => ?_⟩) hHeld ?_
    · ((try dsimp only at hSW); go_split_ands; go_simp <;> with_reducible rfl)
    try simp only [List.getElem_toArray, List.getElem_cons_succ, List.getElem_cons_zero, Act.put, List.setIfInBounds_toArray, List.set_cons_zero, List.set_cons_succ]
    refine wpAnyH_ready (rs := [9]) (by kernel_rfl) (by simp) ?_
    refine AllReadyH.cons rfl (fun K hK => ?_) AllReadyH.nil
    try simp only [List.getElem_toArray, List.getElem_cons_succ, List.getElem_cons_zero]
    go_simp
    try go_wp2_with fail
    refine hK.out _ _ ?_ (fun hHeld => ?_)
    · trivial
    clear hK K
    try simp only [List.getElem_toArray, List.getElem_cons_succ, List.getElem_cons_zero, Act.put, List.setIfInBounds_toArray, List.set_cons_zero, List.set_cons_succ]
    refine wpAnyH_done (by kernel_rfl) ?_ _
    clear hHeld
    go_wp2_with fail
    go_end0
    exact HF.out
end Go.Proofs.YtkoofibhddkpiaaDoor

/-! solve: container/heap over the line -/
namespace Go.Proofs.YtkoofibhddkpiaaDoor
open Go.RowKit
theorem run_load55 {w : World} {wb : Nat} {c0 c1 c2 c3 mv : Value} {a : Option Addr} {n c : Nat} (h : WorkB w wb c0 c1 c2 c3 (.slice a n c) mv) : Sem.run Tryd.prog (loadVar 40 ⟨wb, 4, none⟩) w = .ok (.slice a n c) w := by
  have hc := h.cells.2.2.2.2.1
  go_simp
theorem infoLess : (Tryd.prog.info? 58).bind (fun i => (i.methods.find? (fun m => m.name == "Less")).map (fun m => (m.path.isEmpty, m.func))) = some (true, some (58, false)) := by kernel_rfl
theorem meth_push (wb : Nat) (w : World) (fuel : Nat) : Sem.run Tryd.prog (method (fuel + 1) 58 (.pointer (some ⟨wb, 4, none⟩)) "Push") w = .ok (61, .pointer (some ⟨wb, 4, none⟩)) w := by kernel_rfl
theorem run_nilchk (xt : TypeId) (p : Addr) (m : String) (w : World) : Sem.run Tryd.prog (Builtin.ssaWrapNilChk_ #[xt] xt #[.pointer (some p), strVal "", strVal m]) w = .ok (.pointer (some p)) w := rfl
theorem meth_val {wb : Nat} {w : World} {c0 c1 c2 c3 mv : Value} {a : Option Addr} {n c f : Nat} {name : String} (hI : (Tryd.prog.info? 58).bind (fun i => (i.methods.find? (fun m => m.name == name)).map (fun m => (m.path.isEmpty, m.func))) = some (true, some (f, false))) (h : WorkB w wb c0 c1 c2 c3 (.slice a n c) mv) (fuel : Nat) : Sem.run Tryd.prog (method (fuel + 1) 58 (.pointer (some ⟨wb, 4, none⟩)) name) w = .ok (f, .slice a n c) w := by
  have hl := run_load55 h
  cases hi : Tryd.prog.info? 58 with
  | none => rw [hi] at hI; cases hI
  | some i =>
    rw [hi] at hI
    cases hm : i.methods.find? (fun m => m.name == name) with
    | none => simp [hm] at hI
    | some m =>
      simp only [Option.bind_some, hm, Option.map_some, Option.some.injEq, Prod.mk.injEq] at hI
      obtain ⟨hp, hf⟩ := hI
      have hp2 : m.path = #[] := Array.isEmpty_iff.1 hp
      have hu := Tryd.underlying58
      unfold method
      simp [typeInfo, hi, hm, hp2, hf, follow, receiverAt, Place.get, underlying, hu, run_nilchk, asAddr, hl, Sem.run_bind, Sem.run_pure]
theorem infoLen : (Tryd.prog.info? 58).bind (fun i => (i.methods.find? (fun m => m.name == "Len")).map (fun m => (m.path.isEmpty, m.func))) = some (true, some (57, false)) := by kernel_rfl
theorem infoSwap : (Tryd.prog.info? 58).bind (fun i => (i.methods.find? (fun m => m.name == "Swap")).map (fun m => (m.path.isEmpty, m.func))) = some (true, some (59, false)) := by kernel_rfl
theorem meth_pop (wb : Nat) (w : World) (fuel : Nat) : Sem.run Tryd.prog (method (fuel + 1) 58 (.pointer (some ⟨wb, 4, none⟩)) "Pop") w = .ok (60, .pointer (some ⟨wb, 4, none⟩)) w := by kernel_rfl
def ltL (l : List Int) (i j : Nat) : Bool := decide (l[i]?.getD 0 < l[j]?.getD 0)
set_option maxRecDepth 100000 in
set_option maxHeartbeats 1600000 in
theorem hless_is {W : World} {B cap g : Nat} {l : List Int} {i j : Nat} (h : W.ownsRow B 3 1 (.slice (some ⟨g, 0, none⟩) l.length cap) l.length (intsV l)) (hi : i < l.length) (hj : j < l.length) :
    Calls Tryd.prog 58 #[.slice (some ⟨g, 0, none⟩) l.length cap, .int .i64 i, .int .i64 j] W fun e w' => e = .returned (.bool (ltL l i j)) ∧ ∃ d, w' = W.drewN d := by
  have h1 := SS.own_cell h (intsV_at hi)
  have h2 := SS.own_cell h (intsV_at hj)
  have i1 : (0 : Int) ≤ i ∧ (i : Int) < l.length := by omega
  have i2 : (0 : Int) ≤ j ∧ (j : Int) < l.length := by omega
  unfold ltL
  obtain ⟨x, hx⟩ : ∃ x, x = l[i]?.getD 0 := ⟨_, rfl⟩
  obtain ⟨y, hy⟩ : ∃ y, y = l[j]?.getD 0 := ⟨_, rfl⟩
  rw [← hx, ← hy]
  rw [← hx] at h1
  rw [← hy] at h2
  clear hx hy h
  go_enter Tryd.func58, Tryd.ntmps58
  go_wp2_with fail
  go_quiet (fail)
  go_wp2_with fail
  go_ret
  exact ⟨rfl, _, rfl⟩
/-- the work with its line, and what was below B before -/
structure HP (W0 : World) (wb B : Nat) (c0 c1 c2 c3 lv mv : Value) (l0 : List Int) (W : World) (l : List Int) : Prop where
  line : LineP W wb B c0 c1 c2 c3 lv mv l
  kept : LK wb B W0 W
  perm : l.Perm l0
theorem lessC {W0 W : World} {wb B g n cap : Nat} {c0 c1 c2 c3 mv : Value} {l0 l : List Int} (h : HP W0 wb B c0 c1 c2 c3 (.slice (some ⟨g, 0, none⟩) n cap) mv l0 W l) (hn : l.length = n) {i j : Nat} (hi : i < n) (hj : j < n) :
    Calls Tryd.prog 58 #[.slice (some ⟨g, 0, none⟩) n cap, .int .i64 i, .int .i64 j] W fun e w' => e = .returned (.bool (ltL l i j)) ∧ HP W0 wb B c0 c1 c2 c3 (.slice (some ⟨g, 0, none⟩) n cap) mv l0 w' l := by
  subst hn
  exact (hless_is h.line.own hi hj).mono fun e w' ⟨he, d, hd⟩ => ⟨he, by subst hd; exact ⟨h.line.drewN d, h.kept.drewN d, h.perm⟩⟩
theorem lessC2 {W0 W : World} {wb B g n cap : Nat} {c0 c1 c2 c3 mv : Value} {l0 l : List Int} (h : HP W0 wb B c0 c1 c2 c3 (.slice (some ⟨g, 0, none⟩) n cap) mv l0 W l) (hn : l.length = n) {i j : Nat} (hi : i < n) (hj : j < n) {x y : Int} (ex : x = i) (ey : y = j) :
    Calls Tryd.prog 58 #[.slice (some ⟨g, 0, none⟩) n cap, .int .i64 x, .int .i64 y] W fun e w' => e = .returned (.bool (ltL l i j)) ∧ HP W0 wb B c0 c1 c2 c3 (.slice (some ⟨g, 0, none⟩) n cap) mv l0 w' l := by
  subst ex ey
  exact lessC h hn hi hj
theorem swapC {W0 W : World} {wb B g n cap : Nat} {c0 c1 c2 c3 mv : Value} {l0 l : List Int} (h : HP W0 wb B c0 c1 c2 c3 (.slice (some ⟨g, 0, none⟩) n cap) mv l0 W l) (hn : l.length = n) {i j : Nat} (hi : i < n) (hj : j < n) (hB : B ≤ W0.heap.size) :
    Calls Tryd.prog 59 #[.slice (some ⟨g, 0, none⟩) n cap, .int .i64 i, .int .i64 j] W fun e w' => e = .returned (.tuple #[]) ∧ HP W0 wb B c0 c1 c2 c3 (.slice (some ⟨g, 0, none⟩) n cap) mv l0 w' (swapL l i j) := by
  subst hn
  refine (hswap_any h.line.own hi hj).mono fun e w' ⟨he, ho, hg⟩ => ⟨he, ?_, ?_, (swapL_perm hi hj).trans h.perm⟩
  · exact h.line.grown (by rw [swapL_len]; exact ho) hg
  · exact h.kept.trans (LK.grown h.line.base hg (fun k e => by cases e; exact (h.line.own.lt g rfl).1))
theorem swapC2 {W0 W : World} {wb B g n cap : Nat} {c0 c1 c2 c3 mv : Value} {l0 l : List Int} (h : HP W0 wb B c0 c1 c2 c3 (.slice (some ⟨g, 0, none⟩) n cap) mv l0 W l) (hn : l.length = n) {i j : Nat} (hi : i < n) (hj : j < n) (hB : B ≤ W0.heap.size) {x y : Int} (ex : x = i) (ey : y = j) :
    Calls Tryd.prog 59 #[.slice (some ⟨g, 0, none⟩) n cap, .int .i64 x, .int .i64 y] W fun e w' => e = .returned (.tuple #[]) ∧ HP W0 wb B c0 c1 c2 c3 (.slice (some ⟨g, 0, none⟩) n cap) mv l0 w' (swapL l i j) := by
  subst ex ey
  exact swapC h hn hi hj hB
end Go.Proofs.YtkoofibhddkpiaaDoor
