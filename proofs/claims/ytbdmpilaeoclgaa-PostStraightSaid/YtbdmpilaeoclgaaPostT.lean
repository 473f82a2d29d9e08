import Derived.Test.YtbdmpilaeoclgaaPostA
set_option linter.unusedSimpArgs false
set_option linter.unusedVariables false
/-! post: Tree (the project) -/
namespace Go.Proofs.Ytbdmpilaeoclgaa
open Go.RowKit
theorem turn_small {to : List (List Int)} (h : GG.rightG to = true) (hl : to.length ≤ 255) : Small (DD.turnG to) := by
  have hr := DD.turn_right h hl
  refine ⟨by rw [DD.turn_len]; omega, fun row hrow => ?_⟩
  have := GG.row_len (GG.right_row hr row hrow)
  rw [DD.turn_len] at this; omega
/-- what the tree says is what ways come together at -/
def MeetOk (to : List (List Int)) : Prop := DD.postOk to = true → ∃ T, DD.Fin (DD.turnG to).length (GG.adjOf (DD.turnG to)) (DD.plOf (DD.turnG to)) T
set_option maxRecDepth 100000 in
set_option maxHeartbeats 1600000 in
theorem ptree_full {v : Value} {to : List (List Int)} (W : World) (hv : GraphM W.heap.size W v to) (hx : Small to) :
    Calls Try.prog 29 #[v] W fun e W' => NewInts W.heap.size (DD.postL to) e W W' ∧ MeetOk to := by
  have hx0 := hx.1
  have HV := Lib.hid hv
  have HX := Lib.hid hx
  obtain ⟨va, vc, rfl⟩ := hv.form
  clear hv hx
  cases hp : DD.postOk to
  · have HP := Lib.hid hp
    have HE := Lib.hid (DD.postL_no hp)
    clear hp
    go_enter Try.func29, Try.ntmps29
    go_wp2_with (go_at_call 55; refine (pright_any (to := to) _ HV.out HX.out).mono ?_; rintro e w' ⟨rfl, hB⟩; have HB := Lib.hid hB; clear hB; rw [HP.out])
    go_ret
    exact ⟨⟨_, rfl, by rw [HE.out]; exact cells_empty _ _ _ _ (fun _ => rfl), HB.out⟩, fun h => absurd (h.symm.trans HP.out) (by decide)⟩
  · have HP := Lib.hid hp
    obtain ⟨h255, hr, ha, he⟩ := DD.postOk_iff.1 hp
    have hlen := GG.right_len hr
    have HE := Lib.hid (DD.postL_yes hp)
    have HR := Lib.hid hr
    have HTS := Lib.hid (turn_small hr h255)
    have HTR := Lib.hid (DD.turn_right hr h255)
    have HTA := Lib.hid (show DD.allB (DD.turnG to) = true by rw [DD.turn_all hr h255]; exact he)
    have HMA := Lib.hid (fun T F b hb => DD.meet_at (to := to) hr h255 (T := T) F (b := b) hb)
    have HFL := Lib.hid (fun T F => DD.fin_list (T := T) HTR.out HTA.out F)
    have HTN := Lib.hid (DD.turn_len to)
    have hmk := run_make_row' (P := Try.prog) 24 3 (.int .i64 0) 8 (by kernel_rfl) Try.infoGInt rfl .i64 .i64 to.length (by omega) (by omega)
    clear hp hr ha he
    go_enter Try.func29, Try.ntmps29
    go_wp2_with (first
      | (go_at_call 55; refine (pright_any (to := to) _ HV.out HX.out).mono ?_; rintro e w' ⟨rfl, hB⟩; have HB := Lib.hid hB; clear hB; rw [HP.out])
      | (go_at_call 56; refine (turn_any (to := to) _ (HV.out.on HB.out HB.out.size) HX.out HR.out).mono ?_; rintro e w2 ⟨tv, rfl, ht, hB2⟩; have HT2 := Lib.hid ht; have HB2 := Lib.hid (bstep HB.out hB2); clear ht hB2)
      | (go_at_call 15; refine (tree_full (to := DD.turnG to) _ HT2.out HTS.out).mono ?_; rintro e w3 ⟨⟨av, rfl, hav, hB3⟩, hok⟩; have HAV := Lib.hid hav; have HB3 := Lib.hid (bstep HB2.out hB3); have HOK := Lib.hid (hok HTR.out HTA.out); clear hav hB3 hok))
    obtain ⟨T, hF⟩ := HOK.out
    have HF := Lib.hid hF
    have hfl := HFL.out T hF
    rw [HTN.out] at hfl
    have hAV := HAV.out
    rw [← hfl] at hAV
    have HAV2 := Lib.hid hAV
    obtain ⟨aa, ac, haf⟩ := hAV.form
    rw [List.length_map, List.length_range] at haf
    subst haf
    have HM0 := Lib.hid (show IntsN (w3.alloc (.cells (madeCells #[.int .i64 0] to.length) 3)) w3.heap.size to.length (fun _ => 0) from World.rowIs_made w3 (.int .i64 0) to.length 3)
    have HBM := Lib.hid ((Below.refl w3.heap.size w3).alloc (Nat.le_refl _) (.cells (madeCells #[.int .i64 0] to.length) 3))
    have HCA := Lib.hid (fun (j : Nat) (hj : j < to.length + 1) => (show ∃ ab ao, aa = some ⟨ab, ao, none⟩ ∧ w3.cell? ⟨ab, ao + j, none⟩ = some (.int .i64 (T j)) by
      obtain ⟨ab, ao, e1, e2⟩ := HAV2.out.cellAt (show j < ((List.range (to.length + 1)).map T).length by simpa using hj)
      rw [List.getElem?_map, List.getElem?_range hj] at e2
      exact ⟨ab, ao, e1, e2⟩))
    have HAB := Lib.hid (fun (ab ao : Nat) (e : aa = some ⟨ab, ao, none⟩) => (show ab < w3.heap.size by
      obtain ⟨b', o', c', e', hb, _⟩ := HAV2.out.at (by simp)
      rw [e] at e'
      simp only [Value.slice.injEq, Option.some.injEq, Addr.mk.injEq] at e'
      omega))
    clear hF hfl hAV HAV HOK HFL
    obtain ⟨ab, ao, haa, _⟩ := HCA.out 0 (by omega)
    subst haa
    have HABL := Lib.hid (HAB.out ab ao rfl)
    have HCC := Lib.hid (fun (j : Nat) (hj : j < to.length + 1) => (show w3.cell? ⟨ab, ao + j, none⟩ = some (.int .i64 (T j)) by
      obtain ⟨b', o', e1, e2⟩ := HCA.out j hj
      cases e1; exact e2))
    have HT2' := HT2
    clear HT2' HCA HAB hmk
    go_loopw [18] (fun k wr => ∃ (i : Nat) (f : Nat → Int), i ≤ to.length ∧ k = .int .i64 (i : Int) ∧ IntsN wr w3.heap.size to.length f ∧ Below w3.heap.size w3 wr ∧ RowKit.Hid (∀ j, j < i → f j = DD.meetI to j)) (fun k _ => to.length - (intOf k).toNat)
    case atStart => exact ⟨0, _, Nat.zero_le _, rfl, HM0.out, HBM.out, Lib.hid (fun j hj => absurd hj (Nat.not_lt_zero _))⟩
    case round =>
      obtain ⟨i, f, hi, rfl, hI, hB, HS⟩ := hrel
      have HI := Lib.hid hI
      have HBQ := Lib.hid hB
      clear hI hB HM0 HBM
      by_cases hlt : i < to.length
      · have hci := World.rowIs.cell HI.out hlt
        have hfi := World.rowIs.frozen HI.out i
        have hca := (HBQ.out.cell (p := ⟨ab, ao + (i + 1), none⟩) HABL.out).trans (HCC.out (i + 1) (by omega))
        have hca3 : (wr.setCell ⟨w3.heap.size, i, none⟩ (.int .i64 (to.length : Int))).cell? ⟨ab, ao + (i + 1), none⟩ = some (.int .i64 (T (i + 1))) := by
          rw [World.cell?_setCell_other _ _ _ _ (fun e => by
            have := HABL.out
            simp only [Addr.mk.injEq] at e; omega)]
          exact hca
        have i1 : (0 : Int) ≤ i ∧ (i : Int) < to.length := by omega
        have hw : IntKind.i64.wrap ((i : Int) + 1) = (i : Int) + 1 := IntWalk.i64_in _ (by omega)
        have hn1 : ((i : Int) + 1).toNat = i + 1 := by omega
        have i2 : (0 : Int) ≤ (i : Int) + 1 ∧ (i : Int) + 1 < (to.length : Int) + 1 := by omega
        have HI2 := Lib.hid (HI.out.set i (to.length : Int))
        have HB2 := Lib.hid (HBQ.out.setCell (p := ⟨w3.heap.size, i, none⟩) (Nat.le_refl _) (.int .i64 (to.length : Int)))
        have HSN := Lib.hid (fun (c : Int) (hc : c = DD.meetI to i) => (show ∀ j, j < i + 1 → DD.setI f i c j = DD.meetI to j from fun j hj => by
          unfold DD.setI
          by_cases e : j = i
          · subst e; rw [if_pos rfl]; exact hc
          · rw [if_neg e]; exact HS.out j (by omega)))
        clear hca
        rcases HMA.out T HF.out i hlt with ⟨e1, e2⟩ | ⟨a, e1, e2, e3⟩
        · have HN := Lib.hid (HSN.out _ e2.symm)
          rw [e1] at hca3
          clear e1 e2
          go_wp2_with fail
          go_roundw
          case rel => exact ⟨i + 1, _, by omega, by go_num, HI2.out, HB2.out, HN⟩
          case measure => simp [intOf]; omega
        · have HN := Lib.hid (HSN.out _ e2.symm)
          rw [e1] at hca3
          have hne : (((a + 1 : Nat) : Int) != 0) = true := by rw [bne_iff_ne]; omega
          have hci2 := World.rowIs.cell HI2.out hlt
          have hfi2 := World.rowIs.frozen HI2.out i
          have hw2 : IntKind.i64.wrap (((a + 1 : Nat) : Int) - 1) = (a : Int) := by rw [IntWalk.i64_in _ (by omega)]; omega
          have HI3 := Lib.hid ((HI2.out.set i (a : Int)).congr (f' := DD.setI f i (a : Int)) (fun j _ => by unfold DD.setI; split <;> rfl))
          have HB3' := Lib.hid (HB2.out.setCell (p := ⟨w3.heap.size, i, none⟩) (Nat.le_refl _) (.int .i64 (a : Int)))
          clear e1 e2
          go_wp2_with fail
          go_roundw
          case rel => exact ⟨i + 1, _, by omega, by go_num, HI3.out, HB3'.out, HN⟩
          case measure => simp [intOf]; omega
      · have HRW := Lib.hid (show Row wr.heap.size wr (.slice (some ⟨w3.heap.size, 0, none⟩) to.length to.length) (DD.postL to) by
          rw [HE.out]
          exact (HI.out.congr (fun j hj => HS.out j (by omega))).row)
        have HFF := Lib.hid (show MeetOk to from fun _ => ⟨T, HF.out⟩)
        go_wp2_with fail
        go_ret
        exact ⟨⟨_, rfl, HRW.out, HB3.out.trans (HBQ.out.mono HB3.out.size)⟩, HFF.out⟩
theorem ptree_any {v : Value} {to : List (List Int)} (W : World) (hv : GraphM W.heap.size W v to) (hx : Small to) :
    Calls Try.prog 29 #[v] W fun e W' => NewInts W.heap.size (DD.postL to) e W W' := (ptree_full W hv hx).mono fun e W' h => h.1
end Go.Proofs.Ytbdmpilaeoclgaa
