import Derived.Test.YtbelhoeailjkkaaCalK
set_option linter.unusedSimpArgs false
set_option linter.unusedVariables false
/-! calls: lead -/
namespace Go.Proofs.Ytbelhoeailjkkaa
open Go.RowKit CC
theorem CC.leadF_snoc (e : Nat → Int) (i : Nat) (l : List Nat) (j : Nat) : CC.leadF e i (l ++ [j]) = CC.leadS (CC.leadF e i l) i j := by unfold CC.leadF; rw [List.foldl_append]; rfl
theorem CC.leadS_bd {e : Nat → Int} {n i j : Nat} {M : Int} (hi : i < n) (h : ∀ x, x < n → -1 ≤ e x ∧ e x ≤ M) (hM : 0 ≤ M) : ∀ x, x < n → -1 ≤ CC.leadS e i j x ∧ CC.leadS e i j x ≤ M + 1 := by
  intro x hx
  rw [CC.leadS_at]
  have h1 := h x hx
  have h2 := h i hi
  by_cases e1 : x = j
  · rw [if_pos e1, ← e1]
    unfold CC.comb
    by_cases c1 : e i = 0 ∨ e x = -1
    · rw [if_pos c1]; omega
    · rw [if_neg c1]
      by_cases c2 : e i = -1
      · rw [if_pos c2]; omega
      · rw [if_neg c2]; omega
  · rw [if_neg e1]; omega
theorem CC.leadF_bd {e : Nat → Int} {n i : Nat} {M : Int} (hi : i < n) (hM : 0 ≤ M) (h : ∀ x, x < n → -1 ≤ e x ∧ e x ≤ M) : ∀ (l : List Nat) (x : Nat), x < n → -1 ≤ CC.leadF e i l x ∧ CC.leadF e i l x ≤ M + l.length := by
  intro l
  induction l generalizing e M with
  | nil => intro x hx; have := h x hx; show -1 ≤ e x ∧ e x ≤ M + (0 : Nat); omega
  | cons j t ih =>
    intro x hx
    have := ih (e := CC.leadS e i j) (M := M + 1) (by omega) (CC.leadS_bd hi h hM) x hx
    rw [List.length_cons]
    show -1 ≤ CC.leadF (CC.leadS e i j) i t x ∧ CC.leadF (CC.leadS e i j) i t x ≤ M + ((t.length + 1 : Nat) : Int)
    omega

set_option maxRecDepth 100000 in
set_option maxHeartbeats 6400000 in
theorem clead_any {n₀ : Nat} {W : World} {eb n i : Nat} {e : Nat → Int} {M : Int} {rv : Value} {row : List Int} (h : IntsC W eb n e) (hi : i < n) (hrow : Row n₀ W rv row) (hn0 : n₀ ≤ eb) (hr : ∀ x ∈ row, 0 ≤ x ∧ x < n) (hl : row.length ≤ 256) (hn : n ≤ 256) (hb : ∀ x, x < n → -1 ≤ e x ∧ e x ≤ M) (hM0 : 0 ≤ M) (hM : M ≤ 1099511627776) :
    Calls Try.prog 30 #[.slice (some ⟨eb, 0, none⟩) n n, .int .i64 i, rv] W fun e' W' => e' = .returned (.tuple #[]) ∧ IntsC W' eb n (CC.leadF e i (row.map Int.toNat)) ∧ Kept eb W W' := by
  have HRW := Lib.hid hrow
  have HB := Lib.hid (fun (l : List Nat) => CC.leadF_bd hi hM0 hb l)
  have HR := Lib.hid hr
  have HI := Lib.hid h
  have heb := World.rowIs.lt h
  obtain ⟨ra, rc, rfl⟩ := hrow.form
  clear h hrow hr hb
  go_enter Try.func30, Try.ntmps30
  go_wp2_with fail
  go_loopw [10] (fun k wr => ∃ q : Nat, q ≤ row.length ∧ k = .int .i64 (q : Int) ∧ RowKit.Hid (IntsC wr eb n (CC.leadF e i ((row.take q).map Int.toNat)) ∧ Kept eb W wr)) (fun k _ => row.length - (intOf k).toNat)
  case atStart => exact ⟨0, by omega, rfl, Lib.hid ⟨HI.out, Kept.refl _ _⟩⟩
  case round =>
    obtain ⟨q, hq, rfl, HH⟩ := hrel
    by_cases hlt : q < row.length
    · have HW := Lib.hid (HRW.out.below (HH.out.2.below (Below.refl n₀ W) hn0 (by omega)))
      obtain ⟨rb, rf, e1, hrc⟩ := HW.out.cellAt hlt
      cases e1
      have hrin := HR.out _ (GG.getD_mem (d := 0) hlt)
      have htk : (row.take (q + 1)).map Int.toNat = (row.take q).map Int.toNat ++ [(row[q]?.getD 0).toNat] := by
        rw [List.take_succ_eq_append_getElem hlt, List.map_append, List.getElem?_eq_getElem hlt]; rfl
      obtain ⟨x, ex⟩ : ∃ x, x = row[q]?.getD 0 := ⟨_, rfl⟩
      rw [← ex] at hrc hrin htk
      obtain ⟨j, rfl⟩ : ∃ j : Nat, x = (j : Int) := ⟨x.toNat, by omega⟩
      have hjn : j < n := by omega
      have HN := Lib.hid (show CC.leadF e i ((row.take (q + 1)).map Int.toNat) = CC.leadS (CC.leadF e i ((row.take q).map Int.toNat)) i j by rw [htk, CC.leadF_snoc]; rfl)
      obtain ⟨E, hE⟩ : ∃ E, E = CC.leadF e i ((row.take q).map Int.toNat) := ⟨_, rfl⟩
      have hbj := HB.out ((row.take q).map Int.toNat)
      rw [← hE] at HN HH hbj
      have hbi := hbj i hi
      have hbj := hbj j hjn
      rw [List.length_map, List.length_take] at hbi hbj
      clear hE ex htk hrin
      have hci := World.rowIs.cell HH.out.1 hi
      have hcj := World.rowIs.cell HH.out.1 hjn
      obtain ⟨z, hz⟩ : ∃ z, z = E i := ⟨_, rfl⟩
      obtain ⟨y, hy⟩ : ∃ y, y = E j := ⟨_, rfl⟩
      rw [← hz] at hci hbi
      rw [← hy] at hcj hbj
      have i1 : (0 : Int) ≤ i ∧ (i : Int) < n := by omega
      have i2 : (0 : Int) ≤ j ∧ (j : Int) < n := by omega
      have i3 : (0 : Int) ≤ q ∧ (q : Int) < row.length := by omega
      by_cases c1 : z = 0
      · have HE := Lib.hid (show IntsC wr eb n (CC.leadF e i ((row.take (q + 1)).map Int.toNat)) by rw [HN.out]; unfold CC.leadS; rw [if_pos (.inl (by rw [← hz]; exact c1))]; exact HH.out.1)
        subst c1
        clear hz hy
        go_wp2_with fail
        go_roundw
        case rel => exact ⟨q + 1, by omega, by go_num, Lib.hid ⟨HE.out, HH.out.2⟩⟩
        case measure => simp [intOf]; omega
      · have t1 : (z == (0 : Int)) = false := beq_eq_false_iff_ne.2 c1
        by_cases c2 : y = -1
        · have HE := Lib.hid (show IntsC wr eb n (CC.leadF e i ((row.take (q + 1)).map Int.toNat)) by rw [HN.out]; unfold CC.leadS; rw [if_pos (.inr (by rw [← hy]; exact c2))]; exact HH.out.1)
          subst c2
          clear hz hy c1
          go_wp2_with fail
          go_roundw
          case rel => exact ⟨q + 1, by omega, by go_num, Lib.hid ⟨HE.out, HH.out.2⟩⟩
          case measure => simp [intOf]; omega
        · have t2 : (y == (-1 : Int)) = false := beq_eq_false_iff_ne.2 c2
          have hfj := World.rowIs.frozen HH.out.1 j
          by_cases c3 : z = -1
          · have HE := Lib.hid (show IntsC (wr.setCell ⟨eb, j, none⟩ (.int .i64 (-1))) eb n (CC.leadF e i ((row.take (q + 1)).map Int.toNat)) from HH.out.1.set j (-1) (fun k => by
              rw [HN.out]; unfold CC.leadS
              rw [if_neg (by rw [← hz, ← hy]; omega), if_pos (by rw [← hz]; exact c3)]))
            have HK := Lib.hid (HH.out.2.set j (.int .i64 (-1)))
            subst c3
            clear hz hy c1 c2
            go_wp2_with fail
            go_roundw
            case rel => exact ⟨q + 1, by omega, by go_num, Lib.hid ⟨HE.out, HK.out⟩⟩
            case measure => simp [intOf]; omega
          · have t3 : (z == (-1 : Int)) = false := beq_eq_false_iff_ne.2 c3
            have HE := Lib.hid (show IntsC (wr.drew.setCell ⟨eb, j, none⟩ (.int .i64 (max y (z + 1)))) eb n (CC.leadF e i ((row.take (q + 1)).map Int.toNat)) from (show IntsC wr.drew eb n E from HH.out.1.of rfl).set j _ (fun k => by
              rw [HN.out]; unfold CC.leadS
              rw [if_neg (by rw [← hz, ← hy]; omega), if_neg (by rw [← hz]; exact c3), ← hz, ← hy]))
            have HK := Lib.hid (HH.out.2.drew.set j (.int .i64 (max y (z + 1))))
            have hcA : wr.drew.cell? ⟨eb, i, none⟩ = some (.int .i64 z) := hci
            have hcB : wr.drew.cell? ⟨eb, j, none⟩ = some (.int .i64 y) := hcj
            have hfA : wr.drew.frozen? ⟨eb, j, none⟩ = false := hfj
            have hw : IntKind.i64.wrap (z + 1) = z + 1 := by rw [IntKind.wrap_i64]; omega
            have hw2 : wrap64 (z + 1) = z + 1 := by unfold wrap64; omega
            clear hz hy c1 c2 c3
            go_upto_region 3 with fail
            refine wp_region_held_drew (S := (fun _ => True)) (by kernel_rfl) ?_ (fun hHeld => ?_)
            · trivial
            refine wpAnyH_take (i := 0) (v := .slice (some ⟨eb, 0, none⟩) n n) rfl (by kernel_rfl) (by kernel_rfl) (by kernel_rfl) (fun _ _ _ h => h) (Or.inl ⟨by rfl, fun W hSW => ?_⟩) hHeld ?_
            · ((try dsimp only at hSW); go_split_ands; go_simp <;> with_reducible rfl)
            try simp only [List.getElem_toArray, List.getElem_cons_succ, List.getElem_cons_zero, Act.put, List.setIfInBounds_toArray, List.set_cons_zero, List.set_cons_succ]
            refine wpAnyH_take (i := 1) (v := .int .i64 j) rfl (by kernel_rfl) (by kernel_rfl) (by kernel_rfl) (fun _ _ _ h => h) (Or.inl ⟨by rfl, fun W hSW => ?_⟩) hHeld ?_
            · ((try dsimp only at hSW); go_split_ands; go_simp <;> with_reducible rfl)
            try simp only [List.getElem_toArray, List.getElem_cons_succ, List.getElem_cons_zero, Act.put, List.setIfInBounds_toArray, List.set_cons_zero, List.set_cons_succ]
            refine wpAnyH_take (i := 2) (v := .slice (some ⟨eb, 0, none⟩) n n) rfl (by kernel_rfl) (by kernel_rfl) (by kernel_rfl) (fun _ _ _ h => h) (Or.inl ⟨by rfl, fun W hSW => ?_⟩) hHeld ?_
            · ((try dsimp only at hSW); go_split_ands; go_simp <;> with_reducible rfl)
            try simp only [List.getElem_toArray, List.getElem_cons_succ, List.getElem_cons_zero, Act.put, List.setIfInBounds_toArray, List.set_cons_zero, List.set_cons_succ]
            refine wpAnyH_take (i := 3) (v := .int .i64 j) rfl (by kernel_rfl) (by kernel_rfl) (by kernel_rfl) (fun _ _ _ h => h) (Or.inl ⟨by rfl, fun W hSW => ?_⟩) hHeld ?_
            · ((try dsimp only at hSW); go_split_ands; go_simp <;> with_reducible rfl)
            try simp only [List.getElem_toArray, List.getElem_cons_succ, List.getElem_cons_zero, Act.put, List.setIfInBounds_toArray, List.set_cons_zero, List.set_cons_succ]
            refine wpAnyH_take (i := 4) (v := .pointer (some ⟨eb, j, none⟩)) rfl (by kernel_rfl) (by kernel_rfl) (by kernel_rfl) (fun _ _ _ h => h) (Or.inl ⟨by rfl, fun W hSW => ?_⟩) hHeld ?_
            · ((try dsimp only at hSW); go_split_ands; go_simp <;> with_reducible rfl)
            try simp only [List.getElem_toArray, List.getElem_cons_succ, List.getElem_cons_zero, Act.put, List.setIfInBounds_toArray, List.set_cons_zero, List.set_cons_succ]
            refine wpAnyH_take (i := 6) (v := .slice (some ⟨eb, 0, none⟩) n n) rfl (by kernel_rfl) (by kernel_rfl) (by kernel_rfl) (fun _ _ _ h => h) (Or.inl ⟨by rfl, fun W hSW => ?_⟩) hHeld ?_
            · ((try dsimp only at hSW); go_split_ands; go_simp <;> with_reducible rfl)
            try simp only [List.getElem_toArray, List.getElem_cons_succ, List.getElem_cons_zero, Act.put, List.setIfInBounds_toArray, List.set_cons_zero, List.set_cons_succ]
            refine wpAnyH_take (i := 7) (v := .int .i64 i) rfl (by kernel_rfl) (by kernel_rfl) (by kernel_rfl) (fun _ _ _ h => h) (Or.inl ⟨by rfl, fun W hSW => ?_⟩) hHeld ?_
            · ((try dsimp only at hSW); go_split_ands; go_simp <;> with_reducible rfl)
            try simp only [List.getElem_toArray, List.getElem_cons_succ, List.getElem_cons_zero, Act.put, List.setIfInBounds_toArray, List.set_cons_zero, List.set_cons_succ]
            refine wpAnyH_take (i := 8) (v := .pointer (some ⟨eb, i, none⟩)) rfl (by kernel_rfl) (by kernel_rfl) (by kernel_rfl) (fun _ _ _ h => h) (Or.inl ⟨by rfl, fun W hSW => ?_⟩) hHeld ?_
            · ((try dsimp only at hSW); go_split_ands; go_simp <;> with_reducible rfl)
            try simp only [List.getElem_toArray, List.getElem_cons_succ, List.getElem_cons_zero, Act.put, List.setIfInBounds_toArray, List.set_cons_zero, List.set_cons_succ]
            refine wpAnyH_ready (rs := [5, 9]) (by kernel_rfl) (by simp) ?_
            refine AllReadyH.cons rfl (fun K hK => ?_) (AllReadyH.cons rfl (fun K hK => ?_) AllReadyH.nil)
            · skip
              try simp only [List.getElem_toArray, List.getElem_cons_succ, List.getElem_cons_zero]
              go_simp
              try go_wp2_with fail
              refine hK.out _ _ ?_ (fun hHeld => ?_)
              · trivial
              clear hK K
              try simp only [List.getElem_toArray, List.getElem_cons_succ, List.getElem_cons_zero, Act.put, List.setIfInBounds_toArray, List.set_cons_zero, List.set_cons_succ]
              refine wpAnyH_ready (rs := [9]) (by kernel_rfl) (by simp) ?_
              refine AllReadyH.cons rfl (fun K hK => ?_) AllReadyH.nil
              try simp only [List.getElem_toArray, List.getElem_cons_succ, List.getElem_cons_zero]
              go_simp
              try go_wp2_with fail
              refine hK.out _ _ ?_ (fun hHeld => ?_)
              · trivial
              clear hK K
              try simp only [List.getElem_toArray, List.getElem_cons_succ, List.getElem_cons_zero, Act.put, List.setIfInBounds_toArray, List.set_cons_zero, List.set_cons_succ]
              refine wpAnyH_take (i := 10) (v := .int .i64 (z + 1)) rfl (by kernel_rfl) (by kernel_rfl) (by kernel_rfl) (fun _ _ _ h => h) (Or.inl ⟨by rfl, fun W hSW => ?_⟩) hHeld ?_
              · ((try dsimp only at hSW); go_split_ands; go_simp <;> with_reducible rfl)
              try simp only [List.getElem_toArray, List.getElem_cons_succ, List.getElem_cons_zero, Act.put, List.setIfInBounds_toArray, List.set_cons_zero, List.set_cons_succ]
              refine wpAnyH_take (i := 11) (v := .int .i64 (max y (z + 1))) rfl (by kernel_rfl) (by kernel_rfl) (by kernel_rfl) (fun _ _ _ h => h) (Or.inl ⟨by rfl, fun W hSW => ?_⟩) hHeld ?_
              · ((try dsimp only at hSW); go_split_ands; go_simp <;> with_reducible rfl)
              try simp only [List.getElem_toArray, List.getElem_cons_succ, List.getElem_cons_zero, Act.put, List.setIfInBounds_toArray, List.set_cons_zero, List.set_cons_succ]
              refine wpAnyH_take (i := 12) (v := .pointer (some ⟨eb, j, none⟩)) rfl (by kernel_rfl) (by kernel_rfl) (by kernel_rfl) (fun _ _ _ h => h) (Or.inl ⟨by rfl, fun W hSW => ?_⟩) hHeld ?_
              · ((try dsimp only at hSW); go_split_ands; go_simp <;> with_reducible rfl)
              try simp only [List.getElem_toArray, List.getElem_cons_succ, List.getElem_cons_zero, Act.put, List.setIfInBounds_toArray, List.set_cons_zero, List.set_cons_succ]
              refine wpAnyH_ready (rs := [13]) (by kernel_rfl) (by simp) ?_
              refine AllReadyH.cons rfl (fun K hK => ?_) AllReadyH.nil
              try simp only [List.getElem_toArray, List.getElem_cons_succ, List.getElem_cons_zero]
              go_simp
              try go_wp2_with fail
              refine hK.out _ _ ?_ (fun hHeld => ?_)
              · trivial
              clear hK K
              try simp only [List.getElem_toArray, List.getElem_cons_succ, List.getElem_cons_zero, Act.put, List.setIfInBounds_toArray, List.set_cons_zero, List.set_cons_succ]
              refine wpAnyH_done (by kernel_rfl) ?_ _
              clear hHeld
              go_wp2_with fail
              go_roundw
              case rel => exact ⟨q + 1, by omega, by go_num, Lib.hid ⟨HE.out, HK.out⟩⟩
              case measure => simp [intOf]; omega
            · skip
              try simp only [List.getElem_toArray, List.getElem_cons_succ, List.getElem_cons_zero]
              go_simp
              try go_wp2_with fail
              refine hK.out _ _ ?_ (fun hHeld => ?_)
              · trivial
              clear hK K
              try simp only [List.getElem_toArray, List.getElem_cons_succ, List.getElem_cons_zero, Act.put, List.setIfInBounds_toArray, List.set_cons_zero, List.set_cons_succ]
              refine wpAnyH_take (i := 10) (v := .int .i64 (z + 1)) rfl (by kernel_rfl) (by kernel_rfl) (by kernel_rfl) (fun _ _ _ h => h) (Or.inl ⟨by rfl, fun W hSW => ?_⟩) hHeld ?_
              · ((try dsimp only at hSW); go_split_ands; go_simp <;> with_reducible rfl)
              try simp only [List.getElem_toArray, List.getElem_cons_succ, List.getElem_cons_zero, Act.put, List.setIfInBounds_toArray, List.set_cons_zero, List.set_cons_succ]
              refine wpAnyH_ready (rs := [5]) (by kernel_rfl) (by simp) ?_
              refine AllReadyH.cons rfl (fun K hK => ?_) AllReadyH.nil
              try simp only [List.getElem_toArray, List.getElem_cons_succ, List.getElem_cons_zero]
              go_simp
              try go_wp2_with fail
              refine hK.out _ _ ?_ (fun hHeld => ?_)
              · trivial
              clear hK K
              try simp only [List.getElem_toArray, List.getElem_cons_succ, List.getElem_cons_zero, Act.put, List.setIfInBounds_toArray, List.set_cons_zero, List.set_cons_succ]
              refine wpAnyH_take (i := 11) (v := .int .i64 (max y (z + 1))) rfl (by kernel_rfl) (by kernel_rfl) (by kernel_rfl) (fun _ _ _ h => h) (Or.inl ⟨by rfl, fun W hSW => ?_⟩) hHeld ?_
              · ((try dsimp only at hSW); go_split_ands; go_simp <;> with_reducible rfl)
              try simp only [List.getElem_toArray, List.getElem_cons_succ, List.getElem_cons_zero, Act.put, List.setIfInBounds_toArray, List.set_cons_zero, List.set_cons_succ]
              refine wpAnyH_take (i := 12) (v := .pointer (some ⟨eb, j, none⟩)) rfl (by kernel_rfl) (by kernel_rfl) (by kernel_rfl) (fun _ _ _ h => h) (Or.inl ⟨by rfl, fun W hSW => ?_⟩) hHeld ?_
              · ((try dsimp only at hSW); go_split_ands; go_simp <;> with_reducible rfl)
              try simp only [List.getElem_toArray, List.getElem_cons_succ, List.getElem_cons_zero, Act.put, List.setIfInBounds_toArray, List.set_cons_zero, List.set_cons_succ]
              refine wpAnyH_ready (rs := [13]) (by kernel_rfl) (by simp) ?_
              refine AllReadyH.cons rfl (fun K hK => ?_) AllReadyH.nil
              try simp only [List.getElem_toArray, List.getElem_cons_succ, List.getElem_cons_zero]
              go_simp
              try go_wp2_with fail
              refine hK.out _ _ ?_ (fun hHeld => ?_)
              · trivial
              clear hK K
              try simp only [List.getElem_toArray, List.getElem_cons_succ, List.getElem_cons_zero, Act.put, List.setIfInBounds_toArray, List.set_cons_zero, List.set_cons_succ]
              refine wpAnyH_done (by kernel_rfl) ?_ _
              clear hHeld
              go_wp2_with fail
              go_roundw
              case rel => exact ⟨q + 1, by omega, by go_num, Lib.hid ⟨HE.out, HK.out⟩⟩
              case measure => simp [intOf]; omega
    · have HE := Lib.hid (show IntsC wr eb n (CC.leadF e i (row.map Int.toNat)) by
        have h1 := HH.out.1
        rwa [List.take_of_length_le (by omega)] at h1)
      go_wp2_with fail
      go_end0
      exact ⟨rfl, HE.out, HH.out.2⟩
end Go.Proofs.Ytbelhoeailjkkaa
