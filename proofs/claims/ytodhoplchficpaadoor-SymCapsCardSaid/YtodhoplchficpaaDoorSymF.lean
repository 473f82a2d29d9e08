import Derived.Test.YtodhoplchficpaaDoorSymP
import Derived.Test.YtodhoplchficpaaDoorSolY
import Derived.Lib.AppendZerosOnto
set_option linter.unusedSimpArgs false
set_option linter.unusedVariables false
/-! sym: fits, joined, Join -/
namespace Go.Proofs.YtodhoplchficpaaDoor
open Go.RowKit
open SV (Lab SysOk Least labs sumOf mu sumP at' natsL askT askI fanN lok ljoin val le)
theorem below_bd6 : ∀ n : Nat, n ≤ 6 → 0 ≤ MM.belowI n ∧ MM.belowI n ≤ 18446744073709551615 := by decide +kernel
set_option maxRecDepth 100000 in
set_option maxHeartbeats 1600000 in
theorem sfits_any (a m : Int) (n : Nat) (W : World) (m0 : 0 ≤ m) (m1 : m ≤ 18446744073709551615) (hn : n ≤ 17592186044416) :
    Calls Tryd.prog 45 #[.agg #[.int .i64 a, .int .u64 m], .int .i64 n] W fun e V => e = .returned (.bool (fitB m n)) ∧ Below W.heap.size W V := by
  obtain ⟨W0, eW0⟩ : ∃ W0, W0 = W.alloc (.cells #[.int .i64 a, .int .u64 m] 38) := ⟨_, rfl⟩
  have HB0 := Lib.hid (show Below W.heap.size W W0 by rw [eW0]; exact (Below.refl _ _).alloc (Nat.le_refl _) _)
  have HH1 := Lib.hid (show W0.heap[W.heap.size]? = some (.cells #[.int .i64 a, .int .u64 m] 38) by rw [eW0, heap_alloc_new])
  obtain ⟨z, ez⟩ : ∃ z, z = fitB m n := ⟨_, rfl⟩
  have HZ := Lib.hid ez
  rw [← ez]
  clear ez
  by_cases h6 : n ≤ 6
  · have HBB := Lib.hid (below_bd6 n h6)
    have HF := Lib.hid (andNot_fit m0 m1 h6)
    have HZT := Lib.hid (show z = bitsIn m n by rw [HZ.out]; unfold fitB; rw [decide_eq_true h6, Bool.true_and])
    have i6 : (n : Int) ≤ 6 := by omega
    have j6 : decide ((n : Int) ≤ 6) = true := decide_eq_true i6
    go_enter Tryd.func45, Tryd.ntmps45
    go_upto_region 1 with fail
    rw [← eW0]
    clear eW0
    refine wp_region_held_drew (S := (fun V => V.cell? ⟨W.heap.size, 1, none⟩ = some (.int .u64 m))) (by kernel_rfl) ?_ (fun hHeld => ?_)
    · exact cell_of_row _ _ 1 _ _ _ HH1.out
    have HB4 := Lib.hid (show Below W.heap.size W W0.drew from HB0.out.drew)
    generalize W0.drew = w7 at HB4 hHeld ⊢
    refine wpAnyH_take (i := 0) (v := .int .i64 n) rfl (by kernel_rfl) (by kernel_rfl) (by kernel_rfl) (fun _ _ _ h => h) (Or.inl ⟨by rfl, fun W hSW => ?_⟩) hHeld ?_
    · ((try dsimp only at hSW); go_split_ands; go_simp <;> with_reducible rfl)
    try simp only [List.getElem_toArray, List.getElem_cons_succ, List.getElem_cons_zero, Act.put, List.setIfInBounds_toArray, List.set_cons_zero, List.set_cons_succ]
    refine wpAnyH_take (i := 1) (v := .bool true) rfl (by kernel_rfl) (by kernel_rfl) (by kernel_rfl) (fun _ _ _ h => h) (Or.inl ⟨by rfl, fun W hSW => ?_⟩) hHeld ?_
    · ((try dsimp only at hSW); go_split_ands; go_simp <;> with_reducible rfl)
    try simp only [List.getElem_toArray, List.getElem_cons_succ, List.getElem_cons_zero, Act.put, List.setIfInBounds_toArray, List.set_cons_zero, List.set_cons_succ]
    refine wpAnyH_take (i := 2) (v := .bool true) rfl (by kernel_rfl) (by kernel_rfl) (by kernel_rfl) (fun _ _ _ h => h) (Or.inl ⟨by rfl, fun W hSW => ?_⟩) hHeld ?_
    · ((try dsimp only at hSW); go_split_ands; go_simp <;> with_reducible rfl)
    try simp only [List.getElem_toArray, List.getElem_cons_succ, List.getElem_cons_zero, Act.put, List.setIfInBounds_toArray, List.set_cons_zero, List.set_cons_succ]
    refine wpAnyH_take (i := 3) (v := .pointer (some ⟨W.heap.size, 1, none⟩)) rfl (by kernel_rfl) (by kernel_rfl) (by kernel_rfl) (fun _ _ _ h => h) (Or.inl ⟨by rfl, fun W hSW => ?_⟩) hHeld ?_
    · ((try dsimp only at hSW); go_split_ands; go_simp <;> with_reducible rfl)
    try simp only [List.getElem_toArray, List.getElem_cons_succ, List.getElem_cons_zero, Act.put, List.setIfInBounds_toArray, List.set_cons_zero, List.set_cons_succ]
    refine wpAnyH_take (i := 4) (v := .int .u64 m) rfl (by kernel_rfl) (by kernel_rfl) (by kernel_rfl) (fun _ _ _ h => h) (Or.inl ⟨by rfl, fun W hSW => ?_⟩) hHeld ?_
    · ((try dsimp only at hSW); go_split_ands; go_simp <;> with_reducible rfl)
    try simp only [List.getElem_toArray, List.getElem_cons_succ, List.getElem_cons_zero, Act.put, List.setIfInBounds_toArray, List.set_cons_zero, List.set_cons_succ]
    refine wpAnyH_take (i := 5) (v := .int .i64 n) rfl (by kernel_rfl) (by kernel_rfl) (by kernel_rfl) (fun _ _ _ h => h) (Or.inl ⟨by rfl, fun W hSW => ?_⟩) hHeld ?_
    · ((try dsimp only at hSW); go_split_ands; go_simp <;> with_reducible rfl)
    try simp only [List.getElem_toArray, List.getElem_cons_succ, List.getElem_cons_zero, Act.put, List.setIfInBounds_toArray, List.set_cons_zero, List.set_cons_succ]
    refine wpAnyH_ready (rs := [6]) (by kernel_rfl) (by simp) ?_
    refine AllReadyH.cons rfl (fun K hK => ?_) AllReadyH.nil
    try simp only [List.getElem_toArray, List.getElem_cons_succ, List.getElem_cons_zero]
    go_simp
    (go_at_call 67; refine (below_any _ _ (by omega) (by omega)).mono ?_; rintro e w8 ⟨rfl, rfl⟩)
    try go_wp2_with fail
    refine hK.out _ _ ?_ (fun hHeld => ?_)
    · exact hHeld
    clear hK K
    try simp only [List.getElem_toArray, List.getElem_cons_succ, List.getElem_cons_zero, Act.put, List.setIfInBounds_toArray, List.set_cons_zero, List.set_cons_succ]
    refine wpAnyH_ready (rs := [7]) (by kernel_rfl) (by simp) ?_
    refine AllReadyH.cons rfl (fun K hK => ?_) AllReadyH.nil
    try simp only [List.getElem_toArray, List.getElem_cons_succ, List.getElem_cons_zero]
    go_simp
    (go_at_call 66; refine (with_any _ _ _ HBB.out.1 HBB.out.2).mono ?_; rintro e w8 ⟨rfl, rfl⟩)
    try go_wp2_with fail
    refine hK.out _ _ ?_ (fun hHeld => ?_)
    · exact hHeld
    clear hK K
    try simp only [List.getElem_toArray, List.getElem_cons_succ, List.getElem_cons_zero, Act.put, List.setIfInBounds_toArray, List.set_cons_zero, List.set_cons_succ]
    have hE : (bits .andNot .u64 m (MM.withI (MM.belowI n) 6) == 0) = z := by rw [HZT.out]; exact HF.out
    obtain ⟨km, ek⟩ : ∃ km, km = MM.withI (MM.belowI n) 6 := ⟨_, rfl⟩
    rw [← ek] at hE ⊢
    clear ek
    refine wpAnyH_take (i := 8) (v := .int .u64 (bits .andNot .u64 m km)) rfl (by kernel_rfl) (by kernel_rfl) (by kernel_rfl) (fun _ _ _ h => h) (Or.inl ⟨by rfl, fun W hSW => ?_⟩) hHeld ?_
    · ((try dsimp only at hSW); go_split_ands; go_simp <;> with_reducible rfl)
    try simp only [List.getElem_toArray, List.getElem_cons_succ, List.getElem_cons_zero, Act.put, List.setIfInBounds_toArray, List.set_cons_zero, List.set_cons_succ]
    refine wpAnyH_take (i := 9) (v := .bool z) rfl (by kernel_rfl) (by kernel_rfl) (by kernel_rfl) (fun _ _ _ h => h) (Or.inl ⟨by rfl, fun W hSW => ?_⟩) hHeld ?_
    · ((try dsimp only at hSW); go_split_ands; go_simp <;> with_reducible rfl)
    try simp only [List.getElem_toArray, List.getElem_cons_succ, List.getElem_cons_zero, Act.put, List.setIfInBounds_toArray, List.set_cons_zero, List.set_cons_succ]
    refine wpAnyH_take (i := 10) (v := .bool z) rfl (by kernel_rfl) (by kernel_rfl) (by kernel_rfl) (fun _ _ _ h => h) (Or.inl ⟨by rfl, fun W hSW => ?_⟩) hHeld ?_
    · ((try dsimp only at hSW); go_split_ands; go_simp <;> with_reducible rfl)
    try simp only [List.getElem_toArray, List.getElem_cons_succ, List.getElem_cons_zero, Act.put, List.setIfInBounds_toArray, List.set_cons_zero, List.set_cons_succ]
    refine wpAnyH_take (i := 11) (v := .bool z) rfl (by kernel_rfl) (by kernel_rfl) (by kernel_rfl) (fun _ _ _ h => h) (Or.inl ⟨by rfl, fun W hSW => ?_⟩) hHeld ?_
    · ((try dsimp only at hSW); go_split_ands; go_simp <;> with_reducible rfl)
    try simp only [List.getElem_toArray, List.getElem_cons_succ, List.getElem_cons_zero, Act.put, List.setIfInBounds_toArray, List.set_cons_zero, List.set_cons_succ]
    refine wpAnyH_done (by kernel_rfl) ?_ _
    clear hHeld hE
    go_wp2_with fail
    go_ret
    exact ⟨rfl, HB4.out⟩
  · have hz : z = false := by rw [HZ.out]; unfold fitB; rw [decide_eq_false h6]; rfl
    have i6 : ¬ (n : Int) ≤ 6 := by omega
    have j6 : decide ((n : Int) ≤ 6) = false := decide_eq_false i6
    go_enter Tryd.func45, Tryd.ntmps45
    go_upto_region 1 with fail
    rw [← eW0]
    clear eW0
    refine wp_region_held_drew (S := (fun V => V.cell? ⟨W.heap.size, 1, none⟩ = some (.int .u64 m))) (by kernel_rfl) ?_ (fun hHeld => ?_)
    · exact cell_of_row _ _ 1 _ _ _ HH1.out
    have HB4 := Lib.hid (show Below W.heap.size W W0.drew from HB0.out.drew)
    generalize W0.drew = w7 at HB4 hHeld ⊢
    refine wpAnyH_take (i := 0) (v := .int .i64 n) rfl (by kernel_rfl) (by kernel_rfl) (by kernel_rfl) (fun _ _ _ h => h) (Or.inl ⟨by rfl, fun W hSW => ?_⟩) hHeld ?_
    · ((try dsimp only at hSW); go_split_ands; go_simp <;> with_reducible rfl)
    try simp only [List.getElem_toArray, List.getElem_cons_succ, List.getElem_cons_zero, Act.put, List.setIfInBounds_toArray, List.set_cons_zero, List.set_cons_succ]
    refine wpAnyH_take (i := 1) (v := .bool false) rfl (by kernel_rfl) (by kernel_rfl) (by kernel_rfl) (fun _ _ _ h => h) (Or.inl ⟨by rfl, fun W hSW => ?_⟩) hHeld ?_
    · ((try dsimp only at hSW); go_split_ands; go_simp <;> with_reducible rfl)
    try simp only [List.getElem_toArray, List.getElem_cons_succ, List.getElem_cons_zero, Act.put, List.setIfInBounds_toArray, List.set_cons_zero, List.set_cons_succ]
    refine wpAnyH_take (i := 2) (v := .bool false) rfl (by kernel_rfl) (by kernel_rfl) (by kernel_rfl) (fun _ _ _ h => h) (Or.inl ⟨by rfl, fun W hSW => ?_⟩) hHeld ?_
    · ((try dsimp only at hSW); go_split_ands; go_simp <;> with_reducible rfl)
    try simp only [List.getElem_toArray, List.getElem_cons_succ, List.getElem_cons_zero, Act.put, List.setIfInBounds_toArray, List.set_cons_zero, List.set_cons_succ]
    refine wpAnyH_take (i := 3) (v := undef) rfl (by kernel_rfl) (by kernel_rfl) (by kernel_rfl) (fun _ _ _ h => h) (Or.inr ⟨by rfl, rfl⟩) hHeld ?_
    try simp only [List.getElem_toArray, List.getElem_cons_succ, List.getElem_cons_zero, Act.put, List.setIfInBounds_toArray, List.set_cons_zero, List.set_cons_succ]
    refine wpAnyH_take (i := 4) (v := undef) rfl (by kernel_rfl) (by kernel_rfl) (by kernel_rfl) (fun _ _ _ h => h) (Or.inr ⟨by rfl, rfl⟩) hHeld ?_
    try simp only [List.getElem_toArray, List.getElem_cons_succ, List.getElem_cons_zero, Act.put, List.setIfInBounds_toArray, List.set_cons_zero, List.set_cons_succ]
    refine wpAnyH_take (i := 5) (v := undef) rfl (by kernel_rfl) (by kernel_rfl) (by kernel_rfl) (fun _ _ _ h => h) (Or.inr ⟨by rfl, rfl⟩) hHeld ?_
    try simp only [List.getElem_toArray, List.getElem_cons_succ, List.getElem_cons_zero, Act.put, List.setIfInBounds_toArray, List.set_cons_zero, List.set_cons_succ]
    refine wpAnyH_take (i := 6) (v := undef) rfl (by kernel_rfl) (by kernel_rfl) (by kernel_rfl) (fun _ _ _ h => h) (Or.inr ⟨by rfl, rfl⟩) hHeld ?_
    try simp only [List.getElem_toArray, List.getElem_cons_succ, List.getElem_cons_zero, Act.put, List.setIfInBounds_toArray, List.set_cons_zero, List.set_cons_succ]
    refine wpAnyH_take (i := 7) (v := undef) rfl (by kernel_rfl) (by kernel_rfl) (by kernel_rfl) (fun _ _ _ h => h) (Or.inr ⟨by rfl, rfl⟩) hHeld ?_
    try simp only [List.getElem_toArray, List.getElem_cons_succ, List.getElem_cons_zero, Act.put, List.setIfInBounds_toArray, List.set_cons_zero, List.set_cons_succ]
    refine wpAnyH_take (i := 8) (v := undef) rfl (by kernel_rfl) (by kernel_rfl) (by kernel_rfl) (fun _ _ _ h => h) (Or.inr ⟨by rfl, rfl⟩) hHeld ?_
    try simp only [List.getElem_toArray, List.getElem_cons_succ, List.getElem_cons_zero, Act.put, List.setIfInBounds_toArray, List.set_cons_zero, List.set_cons_succ]
    refine wpAnyH_take (i := 9) (v := undef) rfl (by kernel_rfl) (by kernel_rfl) (by kernel_rfl) (fun _ _ _ h => h) (Or.inr ⟨by rfl, rfl⟩) hHeld ?_
    try simp only [List.getElem_toArray, List.getElem_cons_succ, List.getElem_cons_zero, Act.put, List.setIfInBounds_toArray, List.set_cons_zero, List.set_cons_succ]
    refine wpAnyH_take (i := 10) (v := .bool false) rfl (by kernel_rfl) (by kernel_rfl) (by kernel_rfl) (fun _ _ _ h => h) (Or.inl ⟨by rfl, fun W hSW => ?_⟩) hHeld ?_
    · ((try dsimp only at hSW); go_split_ands; go_simp <;> with_reducible rfl)
    try simp only [List.getElem_toArray, List.getElem_cons_succ, List.getElem_cons_zero, Act.put, List.setIfInBounds_toArray, List.set_cons_zero, List.set_cons_succ]
    refine wpAnyH_take (i := 11) (v := .bool false) rfl (by kernel_rfl) (by kernel_rfl) (by kernel_rfl) (fun _ _ _ h => h) (Or.inl ⟨by rfl, fun W hSW => ?_⟩) hHeld ?_
    · ((try dsimp only at hSW); go_split_ands; go_simp <;> with_reducible rfl)
    try simp only [List.getElem_toArray, List.getElem_cons_succ, List.getElem_cons_zero, Act.put, List.setIfInBounds_toArray, List.set_cons_zero, List.set_cons_succ]
    refine wpAnyH_done (by kernel_rfl) ?_ _
    clear hHeld
    go_wp2_with fail
    go_ret
    exact ⟨by first | (rw [hz]; rfl) | rfl | (subst hz; rfl), HB4.out⟩
/-- some labels as a system: the first needs those of some numbers -/
def toJ (n : Nat) (ws : List Int) : List (List Int) := ws :: List.replicate n []
def joinVal (xs : List Int) (l : List (Int × Int)) (ws : List Int) : Lab := foldJ xs (natL l) (ws.map Int.toNat) (at' (natL l) 0)
def jB (xs : List Int) (l : List (Int × Int)) : Bool := LL.rightB xs && l.all (labOk xs.length)
def jRet (b : Bool) (a : Lab) : Value := .tuple #[.agg #[.int .i64 (if b = true then (a.1 : Int) else 0), .int .u64 (if b = true then a.2 else 0)], .bool b]
theorem toJ_at (n : Nat) (ws : List Int) (i : Nat) : (toJ n ws)[i]?.getD [] = if i = 0 then ws else [] := by
  unfold toJ
  cases i with
  | zero => rfl
  | succ i =>
    rw [List.getElem?_cons_succ, List.getElem?_replicate, if_neg (by omega : ¬ i + 1 = 0)]
    by_cases h : i < n <;> simp [h]
theorem toJ_len (n : Nat) (ws : List Int) : (toJ n ws).length = n + 1 := by simp [toJ]
theorem toJ_sys {xs : List Int} {l : List (Int × Int)} {ws : List Int} (h0 : 0 < l.length) (h1 : l.length ≤ 1000) (hws : ∀ w ∈ ws, 0 < w ∧ w < l.length) : sysB xs l (toJ (l.length - 1) ws) = jB xs l := by
  have h2 : (toJ (l.length - 1) ws).all (rowIn l.length) = true := by
    rw [List.all_eq_true]
    intro r hr
    unfold toJ at hr
    rcases List.mem_cons.1 hr with rfl | hr
    · unfold rowIn
      rw [List.all_eq_true]
      intro x hx
      have := hws x hx
      exact decide_eq_true ⟨by omega, this.2⟩
    · rw [List.eq_of_mem_replicate hr]; rfl
  unfold sysB jB
  rw [h2, toJ_len, decide_eq_true (show l.length ≤ 16384 by omega), decide_eq_true (show l.length - 1 + 1 = l.length by omega)]
  simp
theorem toJ_least {xs : List Int} {l : List (Int × Int)} {ws : List Int} (hr : LL.rightB xs = true) (hw : Wide xs) (hwl : WideL l) (h0 : 0 < l.length) (h1 : l.length ≤ 1000) (hws : ∀ w ∈ ws, 0 < w ∧ w < l.length) (hs : sysB xs l (toJ (l.length - 1) ws) = true) {sol : List Lab} (h : Least (labs xs hr hw) (sysL l (toJ (l.length - 1) ws)) sol) : at' sol 0 = joinVal xs l ws := by
  obtain ⟨_, h2, _, h4, h5⟩ := sys_parts hs
  have hS := sys_ok hr hw hwl h2 h4 h5
  have hnd : ∀ i, (sysL l (toJ (l.length - 1) ws)).nd i = if i = 0 then ws.map Int.toNat else [] := fun i => by
    rw [nd_at, toJ_at]
    by_cases e : i = 0
    · rw [if_pos e, if_pos e]
    · rw [if_neg e, if_neg e]; rfl
  have e := SV.pick_least hS (by show 0 < (natL l).length; rw [natL_len]; exact h0) (fun j hj => by
    rw [hnd, if_pos rfl] at hj
    obtain ⟨x, hx, rfl⟩ := List.mem_map.1 hj
    have := hws x hx
    omega) (fun i hi => by rw [hnd, if_neg (by omega)]) h
  rw [e]
  unfold SV.val joinVal foldJ
  rw [hnd, if_pos rfl]
  rfl
/-- a table of rows of which the first alone is one -/
theorem toJ_mem {W : World} {g n : Nat} {wv : Value} {ws : List Int} (h : W.heap[g]? = some (.cells ((madeCells #[.slice none 0 0] (n + 1)).setIfInBounds 0 wv) 29)) (hw : Row W.heap.size W wv ws) : GraphM W.heap.size W (.slice (some ⟨g, 0, none⟩) (n + 1) (n + 1)) (toJ n ws) := by
  have hlt : g < W.heap.size := (Array.getElem?_eq_some_iff.1 h).1
  have hat : ∀ j, j < n + 1 → ((madeCells #[.slice none 0 0] (n + 1)).setIfInBounds 0 wv)[j]? = some (if j = 0 then wv else .slice none 0 0) := fun j hj => by
    rw [Array.getElem?_setIfInBounds]
    by_cases e : j = 0
    · subst e
      simp [madeCells]
    · rw [if_neg (fun h => e h.symm), if_neg e]
      simp [madeCells, hj, Nat.mod_one]
  refine ⟨wv :: List.replicate n (.slice none 0 0), .inr ⟨g, 0, n + 1, by simp, hlt, by simp, fun j u hj => ?_⟩, by simp [toJ], fun j hj => ?_⟩
  · have hj1 : j < n + 1 := by have := (List.getElem?_eq_some_iff.1 hj).1; simpa using this
    simp only [World.cell?, h, Nat.zero_add]
    rw [hat j hj1]
    cases j with
    | zero => simpa using hj
    | succ j =>
      rw [List.getElem?_cons_succ, List.getElem?_replicate, if_pos (by omega : j < n)] at hj
      rw [if_neg (by omega : ¬ j + 1 = 0)]
      exact hj
  · rw [toJ_at]
    cases j with
    | zero => exact ⟨wv, rfl, hw⟩
    | succ j =>
      refine ⟨.slice none 0 0, by rw [List.getElem?_cons_succ, List.getElem?_replicate, if_pos (by simp [toJ] at hj; omega : j < n)], ?_⟩
      rw [if_neg (by omega : ¬ j + 1 = 0)]
      exact cells_empty _ _ _ _ (fun _ => rfl)
end Go.Proofs.YtodhoplchficpaaDoor
