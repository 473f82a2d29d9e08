import Derived.Test.YtbdmpilaeoclgaaDomC
set_option linter.unusedSimpArgs false
set_option linter.unusedVariables false
/-! dom: chains, who dominates whom, what is near (the project) -/
namespace Go.Proofs.Ytbdmpilaeoclgaa
open Go.RowKit
theorem DD.ChR.inv {T : Nat → Int} {n : Nat} {c : Int} {l : List Nat} (h : DD.ChR T n c l) : (c = -1 ∧ l = []) ∨ ∃ k l', c = ((k : Nat) : Int) ∧ l = k :: l' ∧ k < n ∧ DD.ChR T n (T k) l' := by
  cases h with
  | nil => exact .inl ⟨rfl, rfl⟩
  | cons hk h => exact .inr ⟨_, _, rfl, rfl, hk, h⟩
theorem DD.ChR.bd {T : Nat → Int} {n : Nat} {c : Int} {l : List Nat} (h : DD.ChR T n c l) : -1 ≤ c ∧ c < n := by
  cases h with
  | nil => omega
  | cons hk h => omega
theorem intsV_snoc (dn : List Nat) (k : Nat) : intsV ((dn ++ [k]).map Int.ofNat) = intsV (dn.map Int.ofNat) ++ [.int .i64 (k : Int)] := by simp [intsV]
theorem dchain_no {v : Value} {xs : List Int} (a : Int) (W : World) (hv : Row W.heap.size W v xs) (hx : xs.length ≤ 17592186044416) (h : ¬ (DD.treeB xs = true ∧ GG.inB xs.length a = true)) :
    Calls Try.prog 19 #[v, .int .i64 a] W fun e W' => NewInts W.heap.size (DD.chainL xs a) e W W' := by
  have HV := Lib.hid hv
  have HE := Lib.hid (show DD.chainL xs a = [] by unfold DD.chainL; rw [DD.chainN_no h]; rfl)
  obtain ⟨va, vc, rfl⟩ := hv.form
  clear hv
  cases ht : DD.treeB xs
  · have HT := Lib.hid ht
    clear h ht
    go_enter Try.func19, Try.ntmps19
    go_wp2_with (go_at_call 49; refine (dright_any _ xs _ HV.out hx).mono ?_; rintro e w' ⟨rfl, hB⟩; have HB := Lib.hid hB; clear hB; rw [HT.out])
    go_ret
    exact ⟨_, rfl, by rw [HE.out]; exact cells_empty _ _ _ _ (fun _ => rfl), HB.out⟩
  · have hi : GG.inB xs.length a = false := by
      cases e : GG.inB xs.length a
      · rfl
      · exact absurd ⟨ht, e⟩ h
    have HT := Lib.hid ht
    have HI := Lib.hid hi
    clear h ht hi
    go_enter Try.func19, Try.ntmps19
    go_wp2_with (first
      | (go_at_call 49; refine (dright_any _ xs _ HV.out hx).mono ?_; rintro e w' ⟨rfl, hB⟩; have HB := Lib.hid hB; clear hB; rw [HT.out])
      | (go_at_call 50; refine (dnode_any _ xs.length _ _ ⟨_, _, rfl⟩ hx).mono ?_; rintro e w5 ⟨rfl, rfl⟩; rw [HI.out]))
    go_ret
    exact ⟨_, rfl, by rw [HE.out]; exact cells_empty _ _ _ _ (fun _ => rfl), HB.out⟩
set_option maxRecDepth 100000 in
set_option maxHeartbeats 1600000 in
theorem dchain_any {v : Value} {xs : List Int} (a : Int) (W : World) (hv : Row W.heap.size W v xs) (hx : xs.length ≤ 17592186044416) :
    Calls Try.prog 19 #[v, .int .i64 a] W fun e W' => NewInts W.heap.size (DD.chainL xs a) e W W' := by
  by_cases h : DD.treeB xs = true ∧ GG.inB xs.length a = true
  · obtain ⟨ht, hi⟩ := h
    have hin := of_decide_eq_true hi
    obtain ⟨k, rfl⟩ : ∃ k : Nat, a = (k : Int) := ⟨a.toNat, by omega⟩
    have HV := Lib.hid hv
    have HT := Lib.hid ht
    have HI := Lib.hid hi
    have hch := DD.chainN_yes ht (show k < xs.length by omega)
    have HL := Lib.hid (DD.chainN_len xs k)
    have HE := Lib.hid (show DD.chainL xs k = (DD.chainN xs k).map Int.ofNat from rfl)
    generalize DD.chainN xs (k : Int) = full at hch HL HE
    have HCH := Lib.hid hch
    obtain ⟨i0, hi0, hz0, hz1, hz2⟩ := info_parts Try.infoGInt
    obtain ⟨va, vc, rfl⟩ := hv.form
    clear hv ht hi hin hch
    go_enter Try.func19, Try.ntmps19
    go_wp2_with (first
      | (go_at_call 49; refine (dright_any _ xs _ HV.out hx).mono ?_; rintro e w' ⟨rfl, hB⟩; have HB := Lib.hid hB; clear hB; rw [HT.out])
      | (go_at_call 50; refine (dnode_any _ xs.length _ _ ⟨_, _, rfl⟩ hx).mono ?_; rintro e w5 ⟨rfl, rfl⟩; rw [HI.out]))
    go_loopg [1, 5] full.length (fun gn k o wr => ∃ (dn rest : List Nat) (c : Int), k = .int .i64 c ∧ wr.ownsRow W.heap.size 3 1 o dn.length (intsV (dn.map Int.ofNat)) ∧ Below W.heap.size W wr ∧ RowKit.Hid (full = dn ++ rest ∧ DD.ChR (DD.fnOf xs) xs.length c rest ∧ gn = rest.length))
    case atStart => exact ⟨[], full, k, rfl, World.ownsRow_nil _ _ _ _, HB.out, Lib.hid ⟨rfl, HCH.out, rfl⟩⟩
    case round =>
      obtain ⟨dn, rest, c, rfl, hO, hB, HH⟩ := hrel
      have HO := Lib.hid hO
      have HB := Lib.hid hB
      clear hO hB HCH
      rcases HH.out.2.1.inv with ⟨rfl, hr⟩ | ⟨j, rest', rfl, hr, hj, hch⟩
      · have HF := Lib.hid (show Row wr.heap.size wr u5 (DD.chainL xs k) by
          rw [HE.out, HH.out.1, hr, List.append_nil]
          exact cells_of_row HO.out)
        clear hr HO
        go_wp2_with fail
        go_ret
        exact ⟨_, rfl, HF.out, HB.out⟩
      · have hlen : dn.length ≤ 256 := by
          have h1 := HL.out
          rw [HH.out.1, List.length_append] at h1; omega
        have HN := Lib.hid (show full = (dn ++ [j]) ++ rest' ∧ gk = rest'.length + 1 by
          have h1 := HH.out
          rw [hr] at h1
          exact ⟨by rw [h1.1]; simp, by rw [h1.2.2]; rfl⟩)
        have HCH := Lib.hid hch
        have hbd := hch.bd
        have hc1 : ((j : Int) != -1) = true := by rw [bne_iff_ne]; omega
        have i1 : (0 : Int) ≤ j ∧ (j : Int) < xs.length := by omega
        obtain ⟨x, hx2⟩ : ∃ x, x = DD.fnOf xs j := ⟨_, rfl⟩
        rw [← hx2] at hbd HCH
        obtain ⟨vb, vo, rfl, hcv⟩ := HV.out.cellAt hj
        rw [← DD.fnOf_at hj, ← hx2] at hcv
        have HVB := Lib.hid (show vb < W.heap.size by
          rcases HV.out with ⟨_, e2⟩ | ⟨b3, o3, c3, e3, hb3, _⟩
          · have : (intsV xs).length = 0 := by rw [e2]; rfl
            rw [intsV_len] at this; omega
          · simp at e3; omega)
        have HCV := Lib.hid hcv
        have HXX := Lib.hid hx2
        clear hr hch HH hcv hx2
        go_wp2_with (first
          | (at_builtin
             refine GG.wpList_append_any rfl _ _ 24 rfl W.heap.size 3 i0 (.int .i64 0) 1 8 Try.underlying24 hi0 hz0 hz1 hz2 rfl (by decide) u5 _ _ rfl (HO.out.alloc _) (.slice (some ⟨wr.heap.size, 0, none⟩) 1 1) 1 [.int .i64 (j : Int)] rfl rfl (.inr ⟨_, _, rfl, GG.cell_one _ _ _⟩) (by intro u hu; rw [List.mem_singleton.1 hu]; rfl) (by unfold maxLen; omega) (by omega) (by have := HB.out.size; simp; omega) ?_
             intro v1 w2 ho hg
             have HO2 := Lib.hid (show w2.ownsRow W.heap.size 3 1 v1 (dn ++ [j]).length (intsV ((dn ++ [j]).map Int.ofNat)) by
               rw [intsV_snoc, List.length_append]; exact ho)
             have HB2 := Lib.hid ((HB.out.alloc HB.out.size _).grown hg (by have := HB.out.size; simp; omega) (fun k e => (HO.out.lt k e).1))
             have hcv := (HB2.out.cell (p := ⟨vb, vo + j, none⟩) HVB.out).trans HCV.out
             clear ho hg))
        go_roundg rest'.length
        case measure => have := HN.out.2; omega
        case rel => exact ⟨dn ++ [j], rest', x, rfl, HO2.out, HB2.out, Lib.hid ⟨HN.out.1, HCH.out, rfl⟩⟩
  · exact dchain_no a W hv hx h

theorem contains_any {n₀ : Nat} {v : Value} {l : List Int} (x : Int) (W : World) (hv : Row n₀ W v l) (hl : l.length ≤ 9223372036854775807) :
    Calls Try.prog 51 #[v, .int .i64 x] W fun e W' => e = .returned (.bool (decide (x ∈ l))) ∧ W' = W := by
  rw [← List.contains_eq_mem]
  by_cases h0 : 0 < l.length
  · obtain ⟨b, off, cap, rfl, _, hc⟩ := hv.at h0
    have := Try.slices_Contains_int b off l.length cap l x W (Nat.le_refl _) hl (fun j hj => by rw [hc j hj, List.getD_eq_getElem?_getD])
    rwa [List.take_of_length_le (Nat.le_refl _)] at this
  · have : l = [] := List.length_eq_zero_iff.1 (by omega)
    subst this
    obtain ⟨a, cap, rfl⟩ := hv.form
    exact Try.slices_Contains_int_empty a cap x W
theorem chainL_len (xs : List Int) (a : Int) : (DD.chainL xs a).length ≤ 256 := by
  unfold DD.chainL; rw [List.length_map]; exact DD.chainN_len xs a
set_option maxRecDepth 100000 in
set_option maxHeartbeats 1600000 in
theorem ddom_any {v : Value} {xs : List Int} (a b : Int) (W : World) (hv : Row W.heap.size W v xs) (hx : xs.length ≤ 17592186044416) :
    Calls Try.prog 21 #[v, .int .i64 a, .int .i64 b] W fun e W' => e = .returned (.bool (DD.domB xs a b)) ∧ Below W.heap.size W W' := by
  have HV := Lib.hid hv
  have HS := Lib.hid (show DD.domB xs a b = decide (a ∈ DD.chainL xs b) from rfl)
  have HL := Lib.hid (chainL_len xs b)
  have HC := Lib.hid (dchain_any (xs := xs) b W hv hx)
  obtain ⟨va, vc, rfl⟩ := hv.form
  clear hv
  generalize DD.chainL xs b = l at HS HL HC
  go_enter Try.func21, Try.ntmps21
  go_wp2_with (first
    | (go_at_call 19; refine HC.out.mono ?_; rintro e w2 ⟨lv, rfl, hl, hB⟩; have HLV := Lib.hid hl; have HB := Lib.hid hB; clear hl hB)
    | (go_at_call 51; refine (contains_any a _ HLV.out (by have := HL.out; omega)).mono ?_; rintro e w3 ⟨rfl, rfl⟩))
  go_ret
  exact ⟨ret_bool HS.out.symm, HB.out⟩
theorem near_hit {l m : List Int} {j : Nat} (hj : j < l.length) (hno : ∀ i, i < j → decide (l[i]?.getD 0 ∈ m) = false) (h : decide (l[j]?.getD 0 ∈ m) = true) : (l.find? fun x => decide (x ∈ m)) = some (l[j]?.getD 0) := by
  rw [List.getElem?_eq_getElem hj, Option.getD_some] at h ⊢
  rw [List.find?_eq_some_iff_append]
  refine ⟨h, l.take j, l.drop (j + 1), ?_, fun x hx => ?_⟩
  · conv => lhs; rw [← List.take_append_drop j l]
    rw [List.drop_eq_getElem_cons hj]
  · obtain ⟨i, hi, e⟩ := List.mem_take_iff_getElem.1 hx
    have := hno i (by omega)
    rw [List.getElem?_eq_getElem (by omega), Option.getD_some, e] at this
    rw [this]; rfl
theorem near_none {l m : List Int} (hno : ∀ i, i < l.length → decide (l[i]?.getD 0 ∈ m) = false) : (l.find? fun x => decide (x ∈ m)) = none := by
  rw [List.find?_eq_none]
  intro x hx
  obtain ⟨i, hi, e⟩ := List.getElem_of_mem hx
  have := hno i hi
  rw [List.getElem?_eq_getElem hi, Option.getD_some, e] at this
  rw [this]; simp
theorem nearI_bd (xs : List Int) (a b : Int) : -1 ≤ DD.nearI xs a b := by
  unfold DD.nearI
  cases e : (DD.chainL xs a).find? fun x => decide (x ∈ DD.chainL xs b) with
  | none => simp
  | some x => have := DD.chainL_nonneg x (List.mem_of_find?_eq_some e); simp; omega

set_option maxRecDepth 100000 in
set_option maxHeartbeats 1600000 in
theorem dnear_any {v : Value} {xs : List Int} (a b : Int) (W : World) (hv : Row W.heap.size W v xs) (hx : xs.length ≤ 17592186044416) :
    Calls Try.prog 20 #[v, .int .i64 a, .int .i64 b] W fun e W' => e = foundE (DD.nearI xs a b) ∧ Below W.heap.size W W' := by
  have HV := Lib.hid hv
  have HS := Lib.hid (show DD.nearI xs a b = ((DD.chainL xs a).find? fun x => decide (x ∈ DD.chainL xs b)).getD (-1) from rfl)
  have HLA := Lib.hid (chainL_len xs a)
  have HLB := Lib.hid (chainL_len xs b)
  have HNA := Lib.hid (DD.chainL_nonneg (xs := xs) (a := a))
  have HCB := Lib.hid (dchain_any (xs := xs) b W hv hx)
  have HCA := Lib.hid (fun W (hv : Row W.heap.size W v xs) => dchain_any (xs := xs) a W hv hx)
  obtain ⟨va, vc, rfl⟩ := hv.form
  clear hv
  generalize DD.chainL xs a = l at HS HLA HCA HNA
  generalize DD.chainL xs b = m at HS HLB HCB
  go_enter Try.func20, Try.ntmps20
  go_wp2_with fail
  refine HCB.out.mono ?_
  rintro e w2 ⟨mv, rfl, hm, hB⟩
  have HMV := Lib.hid hm
  have HB := Lib.hid hB
  clear hm hB
  go_wp2_with fail
  refine (HCA.out _ (HV.out.on HB.out HB.out.size)).mono ?_
  rintro e w3 ⟨lv, rfl, hl, hB3⟩
  have HLV := Lib.hid hl
  have HM3 := Lib.hid (HMV.out.on hB3 hB3.size)
  have HB3 := Lib.hid (bstep HB.out hB3)
  obtain ⟨la, lc, hlf⟩ := hl.form
  subst hlf
  clear hl hB3
  have hll := HLA.out
  have hmm := HLB.out
  go_wp2_with fail
  go_loop [18] (fun k => ∃ q : Nat, q ≤ l.length ∧ k = .int .i64 (q : Int) ∧ RowKit.Hid (∀ i, i < q → decide (l[i]?.getD 0 ∈ m) = false)) (fun k => l.length - (intOf k).toNat)
  case atStart => exact ⟨0, Nat.zero_le _, rfl, Lib.hid (fun i hi => absurd hi (Nat.not_lt_zero _))⟩
  case round =>
    obtain ⟨q, hq, rfl, HN⟩ := hrel
    by_cases hqt : q < l.length
    · obtain ⟨lb, lo, rfl, hc⟩ := HLV.out.cellAt hqt
      have i1 : (0 : Int) ≤ q ∧ (q : Int) < l.length := by omega
      have HGM := Lib.hid (HNA.out _ (GG.getD_mem (d := (0 : Int)) hqt))
      cases hb : decide (l[q]?.getD 0 ∈ m)
      · have HNX := Lib.hid (show ∀ i, i < q + 1 → decide (l[i]?.getD 0 ∈ m) = false from fun i hi => (Nat.lt_succ_iff_lt_or_eq.1 hi).elim (fun h => HN.out i h) (fun e => by rw [e]; exact hb))
        obtain ⟨x, ex⟩ : ∃ x, x = l[q]?.getD 0 := ⟨_, rfl⟩
        rw [← ex] at hc hb
        have HBD := Lib.hid hb
        clear ex hb
        go_wp2_with (go_at_call 51; refine (contains_any x _ HM3.out (by omega)).mono ?_; rintro e w4 ⟨rfl, hw⟩; rw [hw, HBD.out]; clear hw w4)
        go_round
        case rel => exact ⟨q + 1, by omega, by go_num, HNX⟩
        case measure => simp [intOf]; omega
      · have HS2 := Lib.hid (show DD.nearI xs a b = l[q]?.getD 0 by rw [HS.out, near_hit hqt HN.out hb]; rfl)
        obtain ⟨x, ex⟩ : ∃ x, x = l[q]?.getD 0 := ⟨_, rfl⟩
        rw [← ex] at hc hb HS2 HGM
        have HBD := Lib.hid hb
        clear ex hb
        go_wp2_with (go_at_call 51; refine (contains_any x _ HM3.out (by omega)).mono ?_; rintro e w4 ⟨rfl, hw⟩; rw [hw, HBD.out]; clear hw w4)
        go_ret2
        exact ⟨by rw [HS2.out]; simp [foundE, foundN, foundB, HGM.out], HB3.out⟩
    · have HS2 := Lib.hid (show DD.nearI xs a b = -1 by rw [HS.out, near_none (fun i hi => HN.out i (by omega))]; rfl)
      go_wp2_with fail
      go_ret2
      exact ⟨by rw [HS2.out]; exact foundE_none.symm, HB3.out⟩
end Go.Proofs.Ytbdmpilaeoclgaa
