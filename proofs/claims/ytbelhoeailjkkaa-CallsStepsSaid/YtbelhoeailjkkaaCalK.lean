import Derived.Test.YtbelhoeailjkkaaCalJ
set_option linter.unusedSimpArgs false
set_option linter.unusedVariables false
/-! calls: slices.Reverse of rows, lead -/
namespace Go.Proofs.Ytbelhoeailjkkaa
open Go.RowKit CC
/-- turned round as far as p -/
def TurnAt (vs us : List Value) (p : Nat) : Prop := us.length = vs.length ∧ ∀ k, k < vs.length → us[k]? = if k < p ∨ vs.length - p ≤ k then vs[vs.length - 1 - k]? else vs[k]?
theorem turn_start (vs : List Value) : TurnAt vs vs 0 := ⟨rfl, fun k hk => by rw [if_neg (by omega)]⟩
theorem turn_step {vs us : List Value} {p : Nat} (h : TurnAt vs us p) (hp : p < vs.length - 1 - p) {x y : Value} (hx : vs[p]? = some x) (hy : vs[vs.length - 1 - p]? = some y) : TurnAt vs ((us.set p y).set (vs.length - 1 - p) x) (p + 1) := by
  obtain ⟨hl, h⟩ := h
  refine ⟨by simp [hl], fun k hk => ?_⟩
  rw [List.getElem?_set, List.length_set, hl, List.getElem?_set, hl]
  by_cases e1 : vs.length - 1 - p = k
  · rw [if_pos e1, if_pos (by omega), if_pos (by omega), ← e1, show vs.length - 1 - (vs.length - 1 - p) = p by omega, hx]
  · rw [if_neg e1]
    by_cases e2 : p = k
    · rw [if_pos e2, if_pos (by omega), if_pos (by omega), ← e2, hy]
    · rw [if_neg e2, h k hk]
      by_cases e3 : k < p ∨ vs.length - p ≤ k
      · rw [if_pos e3, if_pos (by omega)]
      · rw [if_neg e3, if_neg (by omega)]
theorem turn_end {vs us : List Value} {p : Nat} (h : TurnAt vs us p) (hp : vs.length ≤ 2 * p + 1) : us = vs.reverse := by
  apply List.ext_getElem?
  intro k
  by_cases hk : k < vs.length
  · rw [h.2 k hk, List.getElem?_reverse hk]
    by_cases e : k < p ∨ vs.length - p ≤ k
    · rw [if_pos e]
    · rw [if_neg e, show vs.length - 1 - k = k by omega]
  · rw [List.getElem?_eq_none (by rw [h.1]; omega), List.getElem?_eq_none (by rw [List.length_reverse]; omega)]
theorem own_cell {W : World} {B e n cap g : Nat} {xs : List Value} (h : W.ownsRow B e 1 (.slice (some ⟨g, 0, none⟩) n cap) n xs) {k : Nat} {u : Value} (hk : xs[k]? = some u) : W.cell? ⟨g, k, none⟩ = some u := by
  rcases cells_of_row h with ⟨⟨a, c, e1, _⟩, e2⟩ | ⟨b, off, c, e1, _, _, hc⟩
  · rw [e2] at hk; cases hk
  · cases e1
    simpa using hc k u hk
theorem own_free {W : World} {B e size n cap g : Nat} {xs : List Value} (h : W.ownsRow B e size (.slice (some ⟨g, 0, none⟩) n cap) n xs) (k : Nat) : W.frozen? ⟨g, k, none⟩ = false := by
  rcases h.2 with ⟨e1, _⟩ | ⟨g', cap', cur, e1, _, hg, _⟩
  · cases e1
  · cases e1
    simp [World.frozen?, hg]

set_option maxRecDepth 100000 in
set_option maxHeartbeats 3200000 in
theorem creverse_any {B n : Nat} {W : World} {v : Value} {vs : List Value} (h : W.ownsRow B 28 1 v n vs) (hn : n ≤ 4294967296) (hv : ∀ k, k < n → ∃ a l c, vs[k]? = some (.slice a l c)) :
    Calls Try.prog 27 #[v] W fun e W' => e = .returned (.tuple #[]) ∧ W'.ownsRow B 28 1 v n vs.reverse ∧ W.grownBy W' v.ownBlock := by
  have hvl : vs.length = n := by have := h.1; omega
  obtain ⟨va, vc, rfl⟩ := CC.ownOf h
  have H := Lib.hid h
  have HV := Lib.hid hv
  have HL := Lib.hid hvl
  clear h hv hvl
  go_enter Try.func27, Try.ntmps27
  go_wp2_with fail
  go_loopw [2, 3] (fun i j wr => ∃ (p : Nat) (us : List Value), 2 * p ≤ n ∧ i = .int .i64 (p : Int) ∧ j = .int .i64 ((n : Int) - 1 - p) ∧ RowKit.Hid (wr.ownsRow B 28 1 (.slice va n vc) n us ∧ W.grownBy wr (Value.slice va n vc).ownBlock ∧ TurnAt vs us p)) (fun i _ _ => n - (intOf i).toNat)
  case atStart => exact ⟨0, vs, by omega, rfl, by go_num, Lib.hid ⟨H.out, ⟨rfl, rfl, rfl, Nat.le_refl _, fun _ _ _ => rfl⟩, turn_start vs⟩⟩
  case round =>
    obtain ⟨p, us, hp, rfl, rfl, HH⟩ := hrel
    by_cases hlt : 2 * p + 1 < n
    · have j1 : decide ((p : Int) < (n : Int) - 1 - p) = true := decide_eq_true (by omega)
      obtain ⟨ax, lx, cx, hx⟩ := HV.out p (by omega)
      obtain ⟨ay, ly, cy, hy⟩ := HV.out (n - 1 - p) (by omega)
      have hq : (n : Int) - 1 - p = ((n - 1 - p : Nat) : Int) := by omega
      rw [hq] at j1
      rw [hq]
      obtain ⟨q, eq⟩ : ∃ q, q = n - 1 - p := ⟨_, rfl⟩
      have HQ := Lib.hid eq
      rw [← eq] at j1 hy
      rw [← eq]
      have j2 : decide (p < q) = true := decide_eq_true (by omega)
      clear hq
      have hux : us[p]? = some (.slice ax lx cx) := by rw [HH.out.2.2.2 p (by rw [HL.out]; omega), if_neg (by rw [HL.out]; omega)]; exact hx
      have huy : us[q]? = some (.slice ay ly cy) := by rw [HH.out.2.2.2 q (by rw [HL.out]; omega), if_neg (by rw [HL.out]; omega)]; exact hy
      obtain ⟨g, e1⟩ : ∃ g, va = some ⟨g, 0, none⟩ := by
        rcases HH.out.1.2 with ⟨_, e2⟩ | ⟨g, cap, cur, e2, _⟩
        · omega
        · cases e2; exact ⟨g, rfl⟩
      subst e1
      have hcx := own_cell HH.out.1 hux
      have hcy := own_cell HH.out.1 huy
      have i1 : (0 : Int) ≤ p ∧ (p : Int) < n := by omega
      have i2 : (0 : Int) ≤ q ∧ (q : Int) < n := by omega
      have hf1 := own_free HH.out.1 p
      have HS1 := Lib.hid (World.ownsRow.stored HH.out.1 p (.slice ay ly cy))
      have HS2 := Lib.hid (World.ownsRow.stored HS1.out.1 q (.slice ax lx cx))
      have hf2 := own_free HS1.out.1 q
      have HT := Lib.hid (show TurnAt vs ((us.set p (.slice ay ly cy)).set q (.slice ax lx cx)) (p + 1) by
        have h1 := turn_step HH.out.2.2 (by rw [HL.out]; omega) hx (by rw [HL.out, ← eq]; exact hy)
        rwa [HL.out, ← eq] at h1)
      have HR := Lib.hid hux
      have hcq : (wr.setCell ⟨g, p, none⟩ (.slice ay ly cy)).cell? ⟨g, q, none⟩ = some (.slice ay ly cy) := own_cell HS1.out.1 (by rw [List.getElem?_set, if_neg (by omega)]; exact huy)
      clear eq hx hy hux huy
      have hfA : wr.drew.frozen? ⟨g, p, none⟩ = false := hf1
      have hfB : (wr.drew.setCell ⟨g, p, none⟩ (.slice ay ly cy)).frozen? ⟨g, q, none⟩ = false := hf2
      have hcA : wr.drew.cell? ⟨g, p, none⟩ = some (.slice ax lx cx) := hcx
      have hcB : (wr.drew.setCell ⟨g, p, none⟩ (.slice ay ly cy)).cell? ⟨g, q, none⟩ = some (.slice ay ly cy) := hcq
      have HF := Lib.hid (show ((wr.drew.setCell ⟨g, p, none⟩ (.slice ay ly cy)).setCell ⟨g, q, none⟩ (.slice ax lx cx)).ownsRow B 28 1 (.slice (some ⟨g, 0, none⟩) n vc) n ((us.set p (.slice ay ly cy)).set q (.slice ax lx cx)) ∧ W.grownBy ((wr.drew.setCell ⟨g, p, none⟩ (.slice ay ly cy)).setCell ⟨g, q, none⟩ (.slice ax lx cx)) (some g) by
        have h0 := HH.out.2.1
        have h1 := HS1.out.2
        have h2 := HS2.out.2
        exact ⟨own_of_block HS2.out.1 (fun k e => rfl), ⟨h2.os.trans (h1.os.trans h0.os), h2.tape.trans (h1.tape.trans h0.tape), h2.output.trans (h1.output.trans h0.output), Nat.le_trans h0.size (Nat.le_trans h1.size h2.size), fun k hk hn => (h2.block k (Nat.lt_of_lt_of_le hk (Nat.le_trans h0.size h1.size)) hn).trans ((h1.block k (Nat.lt_of_lt_of_le hk h0.size) hn).trans (h0.block k hk hn))⟩⟩)
      go_upto_region 3 with fail
      refine wp_region_held_drew (S := (fun _ => True)) (by kernel_rfl) ?_ (fun hHeld => ?_)
      · trivial
      refine wpAnyH_take (i := 0) (v := .slice (some ⟨g, 0, none⟩) n vc) rfl (by kernel_rfl) (by kernel_rfl) (by kernel_rfl) (fun _ _ _ h => h) (Or.inl ⟨by rfl, fun W hSW => ?_⟩) hHeld ?_
      · ((try dsimp only at hSW); go_split_ands; go_simp <;> with_reducible rfl)
      try simp only [List.getElem_toArray, List.getElem_cons_succ, List.getElem_cons_zero, Act.put, List.setIfInBounds_toArray, List.set_cons_zero, List.set_cons_succ]
      refine wpAnyH_take (i := 1) (v := .int .i64 p) rfl (by kernel_rfl) (by kernel_rfl) (by kernel_rfl) (fun _ _ _ h => h) (Or.inl ⟨by rfl, fun W hSW => ?_⟩) hHeld ?_
      · ((try dsimp only at hSW); go_split_ands; go_simp <;> with_reducible rfl)
      try simp only [List.getElem_toArray, List.getElem_cons_succ, List.getElem_cons_zero, Act.put, List.setIfInBounds_toArray, List.set_cons_zero, List.set_cons_succ]
      refine wpAnyH_take (i := 2) (v := .slice (some ⟨g, 0, none⟩) n vc) rfl (by kernel_rfl) (by kernel_rfl) (by kernel_rfl) (fun _ _ _ h => h) (Or.inl ⟨by rfl, fun W hSW => ?_⟩) hHeld ?_
      · ((try dsimp only at hSW); go_split_ands; go_simp <;> with_reducible rfl)
      try simp only [List.getElem_toArray, List.getElem_cons_succ, List.getElem_cons_zero, Act.put, List.setIfInBounds_toArray, List.set_cons_zero, List.set_cons_succ]
      refine wpAnyH_take (i := 3) (v := .int .i64 q) rfl (by kernel_rfl) (by kernel_rfl) (by kernel_rfl) (fun _ _ _ h => h) (Or.inl ⟨by rfl, fun W hSW => ?_⟩) hHeld ?_
      · ((try dsimp only at hSW); go_split_ands; go_simp <;> with_reducible rfl)
      try simp only [List.getElem_toArray, List.getElem_cons_succ, List.getElem_cons_zero, Act.put, List.setIfInBounds_toArray, List.set_cons_zero, List.set_cons_succ]
      refine wpAnyH_take (i := 4) (v := .slice (some ⟨g, 0, none⟩) n vc) rfl (by kernel_rfl) (by kernel_rfl) (by kernel_rfl) (fun _ _ _ h => h) (Or.inl ⟨by rfl, fun W hSW => ?_⟩) hHeld ?_
      · ((try dsimp only at hSW); go_split_ands; go_simp <;> with_reducible rfl)
      try simp only [List.getElem_toArray, List.getElem_cons_succ, List.getElem_cons_zero, Act.put, List.setIfInBounds_toArray, List.set_cons_zero, List.set_cons_succ]
      refine wpAnyH_take (i := 5) (v := .int .i64 q) rfl (by kernel_rfl) (by kernel_rfl) (by kernel_rfl) (fun _ _ _ h => h) (Or.inl ⟨by rfl, fun W hSW => ?_⟩) hHeld ?_
      · ((try dsimp only at hSW); go_split_ands; go_simp <;> with_reducible rfl)
      try simp only [List.getElem_toArray, List.getElem_cons_succ, List.getElem_cons_zero, Act.put, List.setIfInBounds_toArray, List.set_cons_zero, List.set_cons_succ]
      refine wpAnyH_take (i := 6) (v := .pointer (some ⟨g, q, none⟩)) rfl (by kernel_rfl) (by kernel_rfl) (by kernel_rfl) (fun _ _ _ h => h) (Or.inl ⟨by rfl, fun W hSW => ?_⟩) hHeld ?_
      · ((try dsimp only at hSW); go_split_ands; go_simp <;> with_reducible rfl)
      try simp only [List.getElem_toArray, List.getElem_cons_succ, List.getElem_cons_zero, Act.put, List.setIfInBounds_toArray, List.set_cons_zero, List.set_cons_succ]
      refine wpAnyH_take (i := 8) (v := .slice (some ⟨g, 0, none⟩) n vc) rfl (by kernel_rfl) (by kernel_rfl) (by kernel_rfl) (fun _ _ _ h => h) (Or.inl ⟨by rfl, fun W hSW => ?_⟩) hHeld ?_
      · ((try dsimp only at hSW); go_split_ands; go_simp <;> with_reducible rfl)
      try simp only [List.getElem_toArray, List.getElem_cons_succ, List.getElem_cons_zero, Act.put, List.setIfInBounds_toArray, List.set_cons_zero, List.set_cons_succ]
      refine wpAnyH_take (i := 9) (v := .int .i64 p) rfl (by kernel_rfl) (by kernel_rfl) (by kernel_rfl) (fun _ _ _ h => h) (Or.inl ⟨by rfl, fun W hSW => ?_⟩) hHeld ?_
      · ((try dsimp only at hSW); go_split_ands; go_simp <;> with_reducible rfl)
      try simp only [List.getElem_toArray, List.getElem_cons_succ, List.getElem_cons_zero, Act.put, List.setIfInBounds_toArray, List.set_cons_zero, List.set_cons_succ]
      refine wpAnyH_take (i := 10) (v := .pointer (some ⟨g, p, none⟩)) rfl (by kernel_rfl) (by kernel_rfl) (by kernel_rfl) (fun _ _ _ h => h) (Or.inl ⟨by rfl, fun W hSW => ?_⟩) hHeld ?_
      · ((try dsimp only at hSW); go_split_ands; go_simp <;> with_reducible rfl)
      try simp only [List.getElem_toArray, List.getElem_cons_succ, List.getElem_cons_zero, Act.put, List.setIfInBounds_toArray, List.set_cons_zero, List.set_cons_succ]
      refine wpAnyH_ready (rs := [7, 11]) (by kernel_rfl) (by simp) ?_
      refine AllReadyH.cons rfl (fun K hK => ?_) (AllReadyH.cons rfl (fun K hK => ?_) AllReadyH.nil)
      · skip
        try simp only [List.getElem_toArray, List.getElem_cons_succ, List.getElem_cons_zero]
        go_simp
        try go_wp2_with fail
        refine hK.out _ _ ?_ (fun hHeld => ?_)
        · trivial
        clear hK K
        try simp only [List.getElem_toArray, List.getElem_cons_succ, List.getElem_cons_zero, Act.put, List.setIfInBounds_toArray, List.set_cons_zero, List.set_cons_succ]
        refine wpAnyH_ready (rs := [11]) (by kernel_rfl) (by simp) ?_
        refine AllReadyH.cons rfl (fun K hK => ?_) AllReadyH.nil
        try simp only [List.getElem_toArray, List.getElem_cons_succ, List.getElem_cons_zero]
        go_simp
        try go_wp2_with fail
        refine hK.out _ _ ?_ (fun hHeld => ?_)
        · trivial
        clear hK K
        try simp only [List.getElem_toArray, List.getElem_cons_succ, List.getElem_cons_zero, Act.put, List.setIfInBounds_toArray, List.set_cons_zero, List.set_cons_succ]
        refine wpAnyH_take (i := 12) (v := .pointer (some ⟨g, p, none⟩)) rfl (by kernel_rfl) (by kernel_rfl) (by kernel_rfl) (fun _ _ _ h => h) (Or.inl ⟨by rfl, fun W hSW => ?_⟩) hHeld ?_
        · ((try dsimp only at hSW); go_split_ands; go_simp <;> with_reducible rfl)
        try simp only [List.getElem_toArray, List.getElem_cons_succ, List.getElem_cons_zero, Act.put, List.setIfInBounds_toArray, List.set_cons_zero, List.set_cons_succ]
        refine wpAnyH_ready (rs := [13]) (by kernel_rfl) (by simp) ?_
        refine AllReadyH.cons rfl (fun K hK => ?_) AllReadyH.nil
        try simp only [List.getElem_toArray, List.getElem_cons_succ, List.getElem_cons_zero]
        go_simp
        try go_wp2_with fail
        refine hK.out _ _ ?_ (fun hHeld => ?_)
        · trivial
        clear hK K
        try simp only [List.getElem_toArray, List.getElem_cons_succ, List.getElem_cons_zero, Act.put, List.setIfInBounds_toArray, List.set_cons_zero, List.set_cons_succ]
        refine wpAnyH_take (i := 14) (v := .pointer (some ⟨g, q, none⟩)) rfl (by kernel_rfl) (by kernel_rfl) (by kernel_rfl) (fun _ _ _ h => h) (Or.inl ⟨by rfl, fun W hSW => ?_⟩) hHeld ?_
        · ((try dsimp only at hSW); go_split_ands; go_simp <;> with_reducible rfl)
        try simp only [List.getElem_toArray, List.getElem_cons_succ, List.getElem_cons_zero, Act.put, List.setIfInBounds_toArray, List.set_cons_zero, List.set_cons_succ]
        refine wpAnyH_ready (rs := [15]) (by kernel_rfl) (by simp) ?_
        refine AllReadyH.cons rfl (fun K hK => ?_) AllReadyH.nil
        try simp only [List.getElem_toArray, List.getElem_cons_succ, List.getElem_cons_zero]
        go_simp
        try go_wp2_with fail
        refine hK.out _ _ ?_ (fun hHeld => ?_)
        · trivial
        clear hK K
        try simp only [List.getElem_toArray, List.getElem_cons_succ, List.getElem_cons_zero, Act.put, List.setIfInBounds_toArray, List.set_cons_zero, List.set_cons_succ]
        refine wpAnyH_done (by kernel_rfl) ?_ _
        clear hHeld
        go_wp2_with fail
        go_roundw
        case rel => exact ⟨p + 1, _, by omega, by go_num, by have := HQ.out; go_num, Lib.hid ⟨HF.out.1, HF.out.2, HT.out⟩⟩
        case measure => simp [intOf]; omega
      · skip
        try simp only [List.getElem_toArray, List.getElem_cons_succ, List.getElem_cons_zero]
        go_simp
        try go_wp2_with fail
        refine hK.out _ _ ?_ (fun hHeld => ?_)
        · trivial
        clear hK K
        try simp only [List.getElem_toArray, List.getElem_cons_succ, List.getElem_cons_zero, Act.put, List.setIfInBounds_toArray, List.set_cons_zero, List.set_cons_succ]
        refine wpAnyH_ready (rs := [7]) (by kernel_rfl) (by simp) ?_
        refine AllReadyH.cons rfl (fun K hK => ?_) AllReadyH.nil
        try simp only [List.getElem_toArray, List.getElem_cons_succ, List.getElem_cons_zero]
        go_simp
        try go_wp2_with fail
        refine hK.out _ _ ?_ (fun hHeld => ?_)
        · trivial
        clear hK K
        try simp only [List.getElem_toArray, List.getElem_cons_succ, List.getElem_cons_zero, Act.put, List.setIfInBounds_toArray, List.set_cons_zero, List.set_cons_succ]
        refine wpAnyH_take (i := 12) (v := .pointer (some ⟨g, p, none⟩)) rfl (by kernel_rfl) (by kernel_rfl) (by kernel_rfl) (fun _ _ _ h => h) (Or.inl ⟨by rfl, fun W hSW => ?_⟩) hHeld ?_
        · ((try dsimp only at hSW); go_split_ands; go_simp <;> with_reducible rfl)
        try simp only [List.getElem_toArray, List.getElem_cons_succ, List.getElem_cons_zero, Act.put, List.setIfInBounds_toArray, List.set_cons_zero, List.set_cons_succ]
        refine wpAnyH_ready (rs := [13]) (by kernel_rfl) (by simp) ?_
        refine AllReadyH.cons rfl (fun K hK => ?_) AllReadyH.nil
        try simp only [List.getElem_toArray, List.getElem_cons_succ, List.getElem_cons_zero]
        go_simp
        try go_wp2_with fail
        refine hK.out _ _ ?_ (fun hHeld => ?_)
        · trivial
        clear hK K
        try simp only [List.getElem_toArray, List.getElem_cons_succ, List.getElem_cons_zero, Act.put, List.setIfInBounds_toArray, List.set_cons_zero, List.set_cons_succ]
        refine wpAnyH_take (i := 14) (v := .pointer (some ⟨g, q, none⟩)) rfl (by kernel_rfl) (by kernel_rfl) (by kernel_rfl) (fun _ _ _ h => h) (Or.inl ⟨by rfl, fun W hSW => ?_⟩) hHeld ?_
        · ((try dsimp only at hSW); go_split_ands; go_simp <;> with_reducible rfl)
        try simp only [List.getElem_toArray, List.getElem_cons_succ, List.getElem_cons_zero, Act.put, List.setIfInBounds_toArray, List.set_cons_zero, List.set_cons_succ]
        refine wpAnyH_ready (rs := [15]) (by kernel_rfl) (by simp) ?_
        refine AllReadyH.cons rfl (fun K hK => ?_) AllReadyH.nil
        try simp only [List.getElem_toArray, List.getElem_cons_succ, List.getElem_cons_zero]
        go_simp
        try go_wp2_with fail
        refine hK.out _ _ ?_ (fun hHeld => ?_)
        · trivial
        clear hK K
        try simp only [List.getElem_toArray, List.getElem_cons_succ, List.getElem_cons_zero, Act.put, List.setIfInBounds_toArray, List.set_cons_zero, List.set_cons_succ]
        refine wpAnyH_done (by kernel_rfl) ?_ _
        clear hHeld
        go_wp2_with fail
        go_roundw
        case rel => exact ⟨p + 1, _, by omega, by go_num, by have := HQ.out; go_num, Lib.hid ⟨HF.out.1, HF.out.2, HT.out⟩⟩
        case measure => simp [intOf]; omega
    · have j1 : decide ((p : Int) < (n : Int) - 1 - p) = false := decide_eq_false (by omega)
      have HE := Lib.hid (turn_end HH.out.2.2 (by rw [HL.out]; omega))
      go_wp2_with fail
      go_end0
      exact ⟨rfl, by rw [← HE.out]; exact HH.out.1, HH.out.2.1⟩
end Go.Proofs.Ytbelhoeailjkkaa
