import Derived.Test.YtbdmpilaeoclgaaDomE
set_option linter.unusedSimpArgs false
set_option linter.unusedVariables false
/-! dom: is it a tree? chains (the reference) -/
namespace Go.Proofs.Ytbdmpilaeoclgaa.DD
/-- s steps up -/
inductive UpS (T : Nat → Int) : Nat → Nat → Nat → Prop
  | zero (k : Nat) : UpS T 0 k k
  | succ {s i k j : Nat} (h : UpS T s i k) (hj : T k = (j : Int)) : UpS T (s + 1) i j
theorem UpS.up {T : Nat → Int} {s i k : Nat} (h : UpS T s i k) : Up T i k := by
  induction h with
  | zero => exact .refl _
  | succ _ hj ih => exact ih.trans (.one hj)
theorem UpS.chain {T : Nat → Int} {s i k n : Nat} (h : UpS T s i k) {l : List Nat} (hl : ChR T n (i : Int) l) : ∃ l', ChR T n (k : Int) l' ∧ l.length = s + l'.length := by
  induction h with
  | zero => exact ⟨l, hl, by omega⟩
  | @succ s i k j h hj ih =>
    obtain ⟨l', h1, h2⟩ := ih hl
    rcases h1.inv with ⟨e, _⟩ | ⟨k', l2, e1, e2, _, h3⟩
    · omega
    · have : k' = k := by omega
      subst this
      rw [hj] at h3
      exact ⟨l2, h3, by rw [h2, e2]; simp; omega⟩
theorem UpS.few {xs : List Int} {s i k : Nat} (h : UpS (fnOf xs) s i k) (ht : TreeP xs) (hi : i < xs.length) (hk : k ≠ 0) (hkn : k < xs.length) : s < xs.length := by
  obtain ⟨l, hl⟩ := ht.chain hi
  obtain ⟨l', h1, h2⟩ := h.chain hl
  have := hl.len
  rcases h1.inv with ⟨e, _⟩ | ⟨k', l2, e1, e2, _, h3⟩
  · omega
  · have : l'.length = l2.length + 1 := by rw [e2]; rfl
    omega
end Go.Proofs.Ytbdmpilaeoclgaa.DD
namespace Go.Proofs.Ytbdmpilaeoclgaa
open Go.RowKit
set_option maxHeartbeats 1600000 in
theorem rin_any {n₀ : Nat} {v : Value} {l : List Int} (x : Int) (W : World) (hv : Row n₀ W v l) (hl : l.length ≤ 17592186044416) :
    Calls Try.prog 24 #[v, .int .i64 x] W fun e W' => e = .returned (.bool (decide (x ∈ l))) ∧ W' = W := by
  have HV := Lib.hid hv
  obtain ⟨va, vc, rfl⟩ := hv.form
  clear hv
  go_enter Try.func24, Try.ntmps24
  go_wp2_with fail
  go_loop [5] (fun k => ∃ q : Nat, q ≤ l.length ∧ k = .int .i64 (q : Int) ∧ RowKit.Hid (∀ i, i < q → l[i]?.getD 0 ≠ x)) (fun k => l.length - (intOf k).toNat)
  case atStart => exact ⟨0, Nat.zero_le _, rfl, Lib.hid (fun i hi => absurd hi (Nat.not_lt_zero _))⟩
  case round =>
    obtain ⟨q, hq, rfl, HN⟩ := hrel
    by_cases hqt : q < l.length
    · obtain ⟨lb, lo, rfl, hc⟩ := HV.out.cellAt hqt
      have i1 : (0 : Int) ≤ q ∧ (q : Int) < l.length := by omega
      obtain ⟨y, ey⟩ : ∃ y, y = l[q]?.getD 0 := ⟨_, rfl⟩
      by_cases he : y = x
      · have HS := Lib.hid (show decide (x ∈ l) = true from decide_eq_true (by rw [← he, ey]; exact GG.getD_mem hqt))
        have hb : (y == x) = true := by rw [he]; exact beq_self_eq_true _
        rw [← ey] at hc
        clear ey he
        go_wp2_with fail
        go_ret
        exact ⟨ret_bool HS.out.symm, rfl⟩
      · have HNX := Lib.hid (show ∀ i, i < q + 1 → l[i]?.getD 0 ≠ x from fun i hi => (Nat.lt_succ_iff_lt_or_eq.1 hi).elim (fun h => HN.out i h) (fun e => by rw [e, ← ey]; exact he))
        have hb : (y == x) = false := beq_eq_false_iff_ne.2 he
        rw [← ey] at hc
        clear ey he
        go_wp2_with fail
        go_round
        case rel => exact ⟨q + 1, by omega, by go_num, HNX⟩
        case measure => simp [intOf]; omega
    · have HS := Lib.hid (show decide (x ∈ l) = false from decide_eq_false (fun hm => by
        obtain ⟨i, hi, e⟩ := List.getElem_of_mem hm
        exact HN.out i (by omega) (by rw [List.getElem?_eq_getElem hi]; exact e)))
      go_wp2_with fail
      go_ret
      exact ⟨ret_bool HS.out.symm, rfl⟩
set_option maxRecDepth 100000 in
set_option maxHeartbeats 3200000 in
theorem rright11_any (v : Value) (xs : List Int) (w : World) (hv : Row w.heap.size w v xs) (hx : xs.length ≤ 17592186044416) :
    Calls Try.prog 28 #[v] w fun e w' => e = .returned (.bool (DD.treeB xs)) ∧ w' = w := by
  have HV := Lib.hid hv
  obtain ⟨va, vc, rfl⟩ := hv.form
  clear hv
  by_cases hl : 1 ≤ xs.length ∧ xs.length ≤ 256
  · obtain ⟨hl1, hl2⟩ := hl
    obtain ⟨vb, vo, rfl, hc0⟩ := HV.out.cellAt (show 0 < xs.length by omega)
    rw [← DD.fnOf_at (show 0 < xs.length by omega), Nat.add_zero] at hc0
    by_cases h0 : DD.fnOf xs 0 = -1
    · have H0 := Lib.hid h0
      have hn0 : (DD.fnOf xs 0 != -1) = false := by rw [h0]; rfl
      have i1 : (0 : Int) < xs.length := by omega
      clear h0
      go_enter Try.func28, Try.ntmps28
      go_wp2_with fail
      go_loop [3] (fun k => ∃ i : Nat, 1 ≤ i ∧ i ≤ xs.length ∧ k = .int .i64 (i : Int) ∧ RowKit.Hid (∀ x, x < i → DD.Up (DD.fnOf xs) x 0)) (fun k => xs.length - (intOf k).toNat)
      case atStart => exact ⟨1, Nat.le_refl _, hl1, rfl, Lib.hid (fun x hx => by rw [show x = 0 by omega]; exact .refl _)⟩
      case round =>
        obtain ⟨i, hi1, hi, rfl, HK⟩ := hrel
        by_cases hlt : i < xs.length
        · go_wp2_with fail
          go_loop [4, 5] (fun k s => ∃ (j q : Nat), j < xs.length ∧ q ≤ xs.length ∧ k = .int .i64 (j : Int) ∧ s = .int .i64 (q : Int) ∧ RowKit.Hid (DD.UpS (DD.fnOf xs) q i j)) (fun _ s => xs.length - (intOf s).toNat)
          case atStart => exact ⟨i, 0, hlt, Nat.zero_le _, rfl, rfl, Lib.hid (.zero _)⟩
          case round =>
            obtain ⟨j, q, hj, hq, rfl, rfl, HU⟩ := hrel
            by_cases e0 : j = 0
            · subst e0
              have HN := Lib.hid (show ∀ x, x < i + 1 → DD.Up (DD.fnOf xs) x 0 from fun x hx => (Nat.lt_succ_iff_lt_or_eq.1 hx).elim (HK.out x) (fun e => by rw [e]; exact HU.out.up))
              go_wp2_with fail
              go_round
              case rel => exact ⟨i + 1, by omega, by omega, by go_num, HN⟩
              case measure => simp [intOf]; omega
            · have k1 : 0 < j := by omega
              have k2 : (0 : Int) < (j : Int) := by omega
              have k3 : ((j : Int) != 0) = true := by rw [bne_iff_ne]; omega
              have i3 : (0 : Int) ≤ j ∧ (j : Int) < xs.length := by omega
              by_cases hqt : q < xs.length
              · obtain ⟨vb2, vo2, e2, hct⟩ := HV.out.cellAt hj
                cases e2
                rw [← DD.fnOf_at hj] at hct
                have HND := Lib.hid (fun (ht : DD.TreeP xs) => ht.node hj e0)
                have HST := Lib.hid (fun (y : Nat) (e : DD.fnOf xs j = (y : Int)) => HU.out.succ e)
                obtain ⟨x, hx2⟩ : ∃ x, x = DD.fnOf xs j := ⟨_, rfl⟩
                rw [← hx2] at hct HND HST
                clear hx2
                by_cases hin : 0 ≤ x ∧ x < xs.length
                · obtain ⟨y, rfl⟩ : ∃ y : Nat, x = (y : Int) := ⟨x.toNat, by omega⟩
                  have hyn : y < xs.length := by omega
                  have HN := Lib.hid (HST.out y rfl)
                  clear hin HST HND e0 k3
                  go_wp2_with fail
                  go_round
                  case rel => exact ⟨y, q + 1, hyn, by omega, rfl, by go_num, HN⟩
                  case measure => simp [intOf]; omega
                · have HS := Lib.hid (show DD.treeB xs = false from DD.treeB_no (fun ht => by
                    have := HND.out ht
                    rw [show GG.inB xs.length x = false from decide_eq_false hin] at this; cases this))
                  clear HST HND e0 k3
                  by_cases h1 : 0 ≤ x
                  · have h2 : ¬ x < xs.length := fun h2 => hin ⟨h1, h2⟩
                    clear hin
                    go_wp2_with fail
                    go_ret
                    exact ⟨ret_bool HS.out.symm, rfl⟩
                  · clear hin
                    go_wp2_with fail
                    go_ret
                    exact ⟨ret_bool HS.out.symm, rfl⟩
              · have HS := Lib.hid (show DD.treeB xs = false from DD.treeB_no (fun ht => hqt (HU.out.few ht hlt e0 hj)))
                clear e0
                go_wp2_with fail
                go_ret
                exact ⟨ret_bool HS.out.symm, rfl⟩
        · have HS := Lib.hid (show DD.treeB xs = true from DD.treeB_iff.2 ⟨⟨hl1, hl2⟩, H0.out, fun x hx => HK.out x (by omega)⟩)
          go_wp2_with fail
          go_ret
          exact ⟨ret_bool HS.out.symm, rfl⟩
    · have HS := Lib.hid (show DD.treeB xs = false from DD.treeB_no (fun ht => h0 ht.2.1))
      have hn0 : (DD.fnOf xs 0 != -1) = true := bne_iff_ne.2 h0
      have i1 : (0 : Int) < xs.length := by omega
      clear h0
      go_enter Try.func28, Try.ntmps28
      go_wp2_with fail
      go_ret
      exact ⟨ret_bool HS.out.symm, rfl⟩
  · have HS := Lib.hid (show DD.treeB xs = false from DD.treeB_no (fun ht => hl ht.1))
    by_cases h1 : 1 ≤ xs.length
    · have h2 : ¬ xs.length ≤ 256 := fun h2 => hl ⟨h1, h2⟩
      clear hl
      go_enter Try.func28, Try.ntmps28
      go_wp2_with fail
      go_ret
      exact ⟨ret_bool HS.out.symm, rfl⟩
    · clear hl
      go_enter Try.func28, Try.ntmps28
      go_wp2_with fail
      go_ret
      exact ⟨ret_bool HS.out.symm, rfl⟩

theorem rchain_no {v : Value} {xs : List Int} (a : Int) (W : World) (hv : Row W.heap.size W v xs) (hx : xs.length ≤ 17592186044416) (h : ¬ (DD.treeB xs = true ∧ GG.inB xs.length a = true)) :
    Calls Try.prog 23 #[v, .int .i64 a] W fun e W' => NewInts W.heap.size (DD.chainL xs a) e W W' := by
  have HV := Lib.hid hv
  have HE := Lib.hid (show DD.chainL xs a = [] by unfold DD.chainL; rw [DD.chainN_no h]; rfl)
  obtain ⟨va, vc, rfl⟩ := hv.form
  clear hv
  cases ht : DD.treeB xs
  · have HT := Lib.hid ht
    clear h ht
    go_enter Try.func23, Try.ntmps23
    go_wp2_with (go_at_call 28; refine (rright11_any _ xs _ HV.out hx).mono ?_; rintro e w' ⟨rfl, hw⟩; rw [hw, HT.out]; clear hw w')
    go_ret
    exact ⟨_, rfl, by rw [HE.out]; exact cells_empty _ _ _ _ (fun _ => rfl), Below.refl _ _⟩
  · have hi : ¬ (0 ≤ a ∧ a < xs.length) := fun hh => h ⟨ht, decide_eq_true hh⟩
    have HT := Lib.hid ht
    clear h ht
    by_cases h1 : 0 ≤ a
    · have h2 : ¬ a < xs.length := fun h2 => hi ⟨h1, h2⟩
      clear hi
      go_enter Try.func23, Try.ntmps23
      go_wp2_with (go_at_call 28; refine (rright11_any _ xs _ HV.out hx).mono ?_; rintro e w' ⟨rfl, hw⟩; rw [hw, HT.out]; clear hw w')
      go_ret
      exact ⟨_, rfl, by rw [HE.out]; exact cells_empty _ _ _ _ (fun _ => rfl), Below.refl _ _⟩
    · clear hi
      go_enter Try.func23, Try.ntmps23
      go_wp2_with (go_at_call 28; refine (rright11_any _ xs _ HV.out hx).mono ?_; rintro e w' ⟨rfl, hw⟩; rw [hw, HT.out]; clear hw w')
      go_ret
      exact ⟨_, rfl, by rw [HE.out]; exact cells_empty _ _ _ _ (fun _ => rfl), Below.refl _ _⟩
set_option maxRecDepth 100000 in
set_option maxHeartbeats 1600000 in
theorem rchain_any {v : Value} {xs : List Int} (a : Int) (W : World) (hv : Row W.heap.size W v xs) (hx : xs.length ≤ 17592186044416) :
    Calls Try.prog 23 #[v, .int .i64 a] W fun e W' => NewInts W.heap.size (DD.chainL xs a) e W W' := by
  by_cases h : DD.treeB xs = true ∧ GG.inB xs.length a = true
  · obtain ⟨ht, hi⟩ := h
    have hin := of_decide_eq_true hi
    obtain ⟨k, rfl⟩ : ∃ k : Nat, a = (k : Int) := ⟨a.toNat, by omega⟩
    have HV := Lib.hid hv
    have HT := Lib.hid ht
    have i0' : decide (xs.length ≤ k) = false := decide_eq_false (by omega)
    have i1' : decide ((k : Int) < 0) = false := decide_eq_false (by omega)
    have hch := DD.chainN_yes ht (show k < xs.length by omega)
    have HL := Lib.hid (DD.chainN_len xs k)
    have HE := Lib.hid (show DD.chainL xs k = (DD.chainN xs k).map Int.ofNat from rfl)
    generalize DD.chainN xs (k : Int) = full at hch HL HE
    have HCH := Lib.hid hch
    obtain ⟨i0, hi0, hz0, hz1, hz2⟩ := info_parts Try.infoGInt
    obtain ⟨va, vc, rfl⟩ := hv.form
    have HB := Lib.hid (Below.refl W.heap.size W)
    clear hv ht hi hin hch
    go_enter Try.func23, Try.ntmps23
    go_wp2_with (go_at_call 28; refine (rright11_any _ xs _ HV.out hx).mono ?_; rintro e w' ⟨rfl, hw⟩; rw [hw, HT.out]; clear hw w')
    go_loopg [6, 5] full.length (fun gn k o wr => ∃ (dn rest : List Nat) (c : Int), k = .int .i64 c ∧ wr.ownsRow W.heap.size 3 1 o dn.length (intsV (dn.map Int.ofNat)) ∧ Below W.heap.size W wr ∧ RowKit.Hid (full = dn ++ rest ∧ DD.ChR (DD.fnOf xs) xs.length c rest ∧ gn = rest.length))
    case atStart => exact ⟨[], full, k, rfl, World.ownsRow_nil _ _ _ _, HB.out, Lib.hid ⟨rfl, HCH.out, rfl⟩⟩
    case round =>
      obtain ⟨dn, rest, c, rfl, hO, hB, HH⟩ := hrel
      have HO := Lib.hid hO
      have HB := Lib.hid hB
      clear hO hB HCH
      rcases HH.out.2.1.inv with ⟨rfl, hr⟩ | ⟨j, rest', rfl, hr, hj, hch⟩
      · have HF := Lib.hid (show Row wr.heap.size wr u5 (DD.chainL xs k) by
          rw [HE.out, HH.out.1, hr, List.append_nil]
          exact cells_of_row HO.out)
        clear hr HO
        go_wp2_with fail
        go_ret
        exact ⟨_, rfl, HF.out, HB.out⟩
      · have hlen : dn.length ≤ 256 := by
          have h1 := HL.out
          rw [HH.out.1, List.length_append] at h1; omega
        have HN := Lib.hid (show full = (dn ++ [j]) ++ rest' ∧ gk = rest'.length + 1 by
          have h1 := HH.out
          rw [hr] at h1
          exact ⟨by rw [h1.1]; simp, by rw [h1.2.2]; rfl⟩)
        have HCH := Lib.hid hch
        have hbd := hch.bd
        have hc1 : ((j : Int) != -1) = true := by rw [bne_iff_ne]; omega
        have i1 : (0 : Int) ≤ j ∧ (j : Int) < xs.length := by omega
        obtain ⟨x, hx2⟩ : ∃ x, x = DD.fnOf xs j := ⟨_, rfl⟩
        rw [← hx2] at hbd HCH
        obtain ⟨vb, vo, rfl, hcv⟩ := HV.out.cellAt hj
        rw [← DD.fnOf_at hj, ← hx2] at hcv
        have HVB := Lib.hid (show vb < W.heap.size by
          rcases HV.out with ⟨_, e2⟩ | ⟨b3, o3, c3, e3, hb3, _⟩
          · have : (intsV xs).length = 0 := by rw [e2]; rfl
            rw [intsV_len] at this; omega
          · simp at e3; omega)
        have HCV := Lib.hid hcv
        have HXX := Lib.hid hx2
        clear hr hch HH hcv hx2
        go_wp2_with (first
          | (at_builtin
             refine GG.wpList_append_any rfl _ _ 24 rfl W.heap.size 3 i0 (.int .i64 0) 1 8 Try.underlying24 hi0 hz0 hz1 hz2 rfl (by decide) u5 _ _ rfl (HO.out.alloc _) (.slice (some ⟨wr.heap.size, 0, none⟩) 1 1) 1 [.int .i64 (j : Int)] rfl rfl (.inr ⟨_, _, rfl, GG.cell_one _ _ _⟩) (by intro u hu; rw [List.mem_singleton.1 hu]; rfl) (by unfold maxLen; omega) (by omega) (by have := HB.out.size; simp; omega) ?_
             intro v1 w2 ho hg
             have HO2 := Lib.hid (show w2.ownsRow W.heap.size 3 1 v1 (dn ++ [j]).length (intsV ((dn ++ [j]).map Int.ofNat)) by
               rw [intsV_snoc, List.length_append]; exact ho)
             have HB2 := Lib.hid ((HB.out.alloc HB.out.size _).grown hg (by have := HB.out.size; simp; omega) (fun k e => (HO.out.lt k e).1))
             have hcv := (HB2.out.cell (p := ⟨vb, vo + j, none⟩) HVB.out).trans HCV.out
             clear ho hg))
        go_roundg rest'.length
        case measure => have := HN.out.2; omega
        case rel => exact ⟨dn ++ [j], rest', x, rfl, HO2.out, HB2.out, Lib.hid ⟨HN.out.1, HCH.out, rfl⟩⟩
  · exact rchain_no a W hv hx h

set_option maxRecDepth 100000 in
set_option maxHeartbeats 1600000 in
theorem rnear_any {v : Value} {xs : List Int} (a b : Int) (W : World) (hv : Row W.heap.size W v xs) (hx : xs.length ≤ 17592186044416) :
    Calls Try.prog 22 #[v, .int .i64 a, .int .i64 b] W fun e W' => e = .returned (.int .i64 (DD.nearI xs a b)) ∧ Below W.heap.size W W' := by
  have HV := Lib.hid hv
  have HS := Lib.hid (show DD.nearI xs a b = ((DD.chainL xs a).find? fun x => decide (x ∈ DD.chainL xs b)).getD (-1) from rfl)
  have HLA := Lib.hid (chainL_len xs a)
  have HLB := Lib.hid (chainL_len xs b)
  have HCA := Lib.hid (rchain_any (xs := xs) a W hv hx)
  have HCB := Lib.hid (fun W (hv : Row W.heap.size W v xs) => rchain_any (xs := xs) b W hv hx)
  obtain ⟨va, vc, rfl⟩ := hv.form
  clear hv
  generalize DD.chainL xs a = l at HS HLA HCA
  generalize DD.chainL xs b = m at HS HLB HCB
  go_enter Try.func22, Try.ntmps22
  go_wp2_with fail
  refine HCA.out.mono ?_
  rintro e w2 ⟨lv, rfl, hl, hB⟩
  have HLV2 := Lib.hid hl
  have HB := Lib.hid hB
  clear hl hB
  go_wp2_with fail
  refine (HCB.out _ (HV.out.on HB.out HB.out.size)).mono ?_
  rintro e w3 ⟨mv, rfl, hm, hB3⟩
  have HM3 := Lib.hid hm
  have HLV := Lib.hid (HLV2.out.on hB3 hB3.size)
  have HB3 := Lib.hid (bstep HB.out hB3)
  obtain ⟨la, lc, hlf⟩ := HLV.out.form
  subst hlf
  clear hm hB3
  have hll := HLA.out
  have hmm := HLB.out
  go_wp2_with fail
  go_loop [9] (fun k => ∃ q : Nat, q ≤ l.length ∧ k = .int .i64 (q : Int) ∧ RowKit.Hid (∀ i, i < q → decide (l[i]?.getD 0 ∈ m) = false)) (fun k => l.length - (intOf k).toNat)
  case atStart => exact ⟨0, Nat.zero_le _, rfl, Lib.hid (fun i hi => absurd hi (Nat.not_lt_zero _))⟩
  case round =>
    obtain ⟨q, hq, rfl, HN⟩ := hrel
    by_cases hqt : q < l.length
    · obtain ⟨lb, lo, rfl, hc⟩ := HLV.out.cellAt hqt
      have i1 : (0 : Int) ≤ q ∧ (q : Int) < l.length := by omega
      cases hb : decide (l[q]?.getD 0 ∈ m)
      · have HNX := Lib.hid (show ∀ i, i < q + 1 → decide (l[i]?.getD 0 ∈ m) = false from fun i hi => (Nat.lt_succ_iff_lt_or_eq.1 hi).elim (fun h => HN.out i h) (fun e => by rw [e]; exact hb))
        obtain ⟨x, ex⟩ : ∃ x, x = l[q]?.getD 0 := ⟨_, rfl⟩
        rw [← ex] at hc hb
        have HBD := Lib.hid hb
        clear ex hb
        go_wp2_with (go_at_call 24; refine (rin_any x _ HM3.out (by omega)).mono ?_; rintro e w4 ⟨rfl, hw⟩; rw [hw, HBD.out]; clear hw w4)
        go_round
        case rel => exact ⟨q + 1, by omega, by go_num, HNX⟩
        case measure => simp [intOf]; omega
      · have HS2 := Lib.hid (show DD.nearI xs a b = l[q]?.getD 0 by rw [HS.out, near_hit hqt HN.out hb]; rfl)
        obtain ⟨x, ex⟩ : ∃ x, x = l[q]?.getD 0 := ⟨_, rfl⟩
        rw [← ex] at hc hb HS2
        have HBD := Lib.hid hb
        clear ex hb
        go_wp2_with (go_at_call 24; refine (rin_any x _ HM3.out (by omega)).mono ?_; rintro e w4 ⟨rfl, hw⟩; rw [hw, HBD.out]; clear hw w4)
        go_ret
        exact ⟨ret_int HS2.out.symm, HB3.out⟩
    · have HS2 := Lib.hid (show DD.nearI xs a b = -1 by rw [HS.out, near_none (fun i hi => HN.out i (by omega))]; rfl)
      go_wp2_with fail
      go_ret
      exact ⟨ret_int HS2.out.symm, HB3.out⟩
end Go.Proofs.Ytbdmpilaeoclgaa
