import Derived.Test.YthjfgfgkbfhdfaaGreatDoorPrnG
import Derived.Test.YthjfgfgkbfhdfaaGreatDoorPrnB
set_option linter.unusedSimpArgs false
set_option linter.unusedVariables false
/-! policy: the reference's Print -/
namespace Go.Proofs.YthjfgfgkbfhdfaaGreatDoor
open Go.RowKit
set_option maxRecDepth 100000 in
set_option maxHeartbeats 3200000 in
theorem rprint6_no (v0 v1 v2 v3 : Value) (st : PSt) (S : List Int) (w : World) (h : PolIn w v0 v1 v2 v3 st S) (hw : Wide S) (hsh : ∀ j, j < st.L.length → (wd6 st.L j).size ≤ 140737488351232)
    (hsi : ∀ j, j < st.I.length → (chAt st.I j).1.size ≤ 140737488351232) (hso : ∀ j, j < st.O.length → (chAt st.O j).1.size ≤ 140737488351232) (hr : rightP st S = false) :
    Calls Tryz.prog 8 #[.agg #[v0, v1, v2, v3, .int .i64 st.D]] w fun e w' => e = .returned (.tuple #[.string ⟨#[]⟩, .int .i64 1]) ∧ Below w.heap.size w w' := by
  have HB0 := Lib.hid (show Below w.heap.size w (w.alloc (.cells #[v0, v1, v2, v3, .int .i64 st.D] 26)) from (Below.refl _ _).alloc (Nat.le_refl _) _)
  have HP0 := Lib.hid (h.below HB0.out)
  have hcs := pol_cells w v0 v1 v2 v3 (.int .i64 st.D) 26
  have HR := Lib.hid hr
  have HZ := Lib.hid hsh
  have HZI := Lib.hid hsi
  have HZO := Lib.hid hso
  clear h hr hsh hsi hso
  have c0 := hcs 0 _ rfl
  have c1 := hcs 1 _ rfl
  have c2 := hcs 2 _ rfl
  have c3 := hcs 3 _ rfl
  have c4 := hcs 4 _ rfl
  clear hcs
  go_enter Tryz.func8, Tryz.ntmps8
  go_wp2_with fail
  refine (rright6_any v0 v1 v2 v3 st S _ HP0.out hw HZ.out HZI.out HZO.out).mono ?_
  rintro e w1 ⟨rfl, hb⟩
  rw [HR.out]
  have HB1 := Lib.hid (HB0.out.trans (hb.mono HB0.out.size))
  clear hb
  go_wp2_with fail
  go_ret2
  exact ⟨rfl, HB1.out⟩
theorem list_size (T : ByteArray) : T.data.toList.length = T.size := by simp
theorem line2_bytes (T A x W : ByteArray) (hA : A.data.toList = W.data.toList ++ [32]) : (T ++ (A ++ x ++ ⟨#[10]⟩)).data.toList = T.data.toList ++ lineL ([W, x].map (·.data.toList)) := by
  simp [ByteArray.data_append, hA, lineL]
theorem line2b_bytes (T A x W : ByteArray) (hA : A.data.toList = W.data.toList ++ [32]) : (T ++ A ++ x ++ ⟨#[10]⟩).data.toList = T.data.toList ++ lineL ([W, x].map (·.data.toList)) := by
  simp [ByteArray.data_append, hA, lineL]
theorem line3_bytes (T A x y W : ByteArray) (hA : A.data.toList = W.data.toList ++ [32]) : (T ++ (A ++ x ++ ⟨#[32]⟩ ++ y ++ ⟨#[10]⟩)).data.toList = T.data.toList ++ lineL ([W, x, y].map (·.data.toList)) := by
  simp [ByteArray.data_append, hA, lineL]
set_option maxRecDepth 100000 in
set_option maxHeartbeats 6400000 in
theorem rprint6_yes (v0 v1 v2 v3 : Value) (st : PSt) (S : List Int) (w : World) (h : PolIn w v0 v1 v2 v3 st S) (hw : Wide S) (hsh : ∀ j, j < st.L.length → (wd6 st.L j).size ≤ 140737488351232)
    (hsi : ∀ j, j < st.I.length → (chAt st.I j).1.size ≤ 140737488351232) (hso : ∀ j, j < st.O.length → (chAt st.O j).1.size ≤ 140737488351232) (hr : rightP st S = true) (hfit : (printL st S).length ≤ 65536) :
    Calls Tryz.prog 8 #[.agg #[v0, v1, v2, v3, .int .i64 st.D]] w fun e w' => (∃ T : ByteArray, e = .returned (.tuple #[.string T, .int .i64 0]) ∧ T.data.toList = printL st S) ∧ Below w.heap.size w w' := by
  have hl0 := h.l0
  obtain ⟨a0, k0, rfl⟩ := h.s0.form
  obtain ⟨a1, k1, rfl⟩ := h.s1.form
  obtain ⟨a2, k2, rfl⟩ := h.s2.form
  obtain ⟨a3, k3, rfl⟩ := h.s3.form
  have HB0 := Lib.hid (show Below w.heap.size w (w.alloc (.cells #[.slice a0 st.L.length k0, .slice a1 S.length k1, .slice a2 st.I.length k2, .slice a3 st.O.length k3, .int .i64 st.D] 26)) from (Below.refl _ _).alloc (Nat.le_refl _) _)
  have HP0 := Lib.hid (h.below HB0.out)
  have hcs := pol_cells w (.slice a0 st.L.length k0) (.slice a1 S.length k1) (.slice a2 st.I.length k2) (.slice a3 st.O.length k3) (.int .i64 st.D) 26
  have HC0 := Lib.hid hcs
  have hpt := rightP_parts hr
  have h64 : st.L.length ≤ 64 := by have := (LL.ord_len (LL.right_ord hpt.2.2.1)).2; omega
  have HSL := Lib.hid hpt.2.1
  have HRS := Lib.hid hpt.2.2.1
  have HCV := Lib.hid (show ∀ p ∈ LL.coversL S, p.1 < st.L.length ∧ p.2 < st.L.length from fun p hp => by have := LL.covers_ok S p hp; omega)
  have HCN := Lib.hid (LL.covers_few hpt.2.2.1 hw)
  have HD := Lib.hid hpt.1
  have HIC := Lib.hid (chans_split hpt.2.2.2.2.1)
  have HOC := Lib.hid (chans_split hpt.2.2.2.2.2)
  have HR := Lib.hid hr
  have HFIT := Lib.hid hfit
  have HZ := Lib.hid hsh
  have HZI := Lib.hid hsi
  have HZO := Lib.hid hso
  clear h hr hsh hsi hso hfit hpt
  have c0 := hcs 0 _ rfl
  have c1 := hcs 1 _ rfl
  have c2 := hcs 2 _ rfl
  have c3 := hcs 3 _ rfl
  have c4 := hcs 4 _ rfl
  clear hcs
  go_enter Tryz.func8, Tryz.ntmps8
  go_wp2_with fail
  refine (rright6_any _ _ _ _ st S _ HP0.out hw HZ.out HZI.out HZO.out).mono ?_
  rintro e w1 ⟨rfl, hb⟩
  rw [HR.out]
  have HB1 := Lib.hid (HB0.out.trans (hb.mono HB0.out.size))
  have HP1 := Lib.hid (HP0.out.below hb)
  have HCC := Lib.hid (fun c u hu => (hb.cell (p := ⟨w.heap.size, c, none⟩) (by simp)).trans (HC0.out c u hu))
  clear hb c0 c1 c2 c3 c4
  have q0 := HCC.out 0 _ rfl
  go_wp2_with fail
  go_loopw [4, 5] (fun u k wr => ∃ (i : Nat) (T : ByteArray), i ≤ st.L.length ∧ k = .int .i64 (i : Int) ∧ u = .string T ∧ RowKit.Hid (T.data.toList = wordsL (levW st i)) ∧ w1 = wr) (fun _ k _ => st.L.length - (intOf k).toNat)
  case atStart => exact ⟨0, ⟨#[]⟩, Nat.zero_le _, rfl, rfl, Lib.hid rfl, rfl⟩
  case round =>
    obtain ⟨i, T, hi, rfl, rfl, HT, rfl⟩ := hrel
    have q1 := q0
    by_cases hlt : i < st.L.length
    · have i1 : (0 : Int) ≤ i ∧ (i : Int) < st.L.length := by omega
      obtain ⟨lb, lo, ea, _, d1⟩ := HP1.out.s0.at hlt
      subst ea
      have HLV := Lib.hid (levW_succ hlt)
      have HFI := Lib.hid (show T.size + (lineL ([wLevel, wd6 st.L i].map (·.data.toList))).length ≤ 65536 by
        rw [← list_size, HT.out, ← List.length_append, ← wordsL_snoc, HLV.out]
        exact Nat.le_trans (lev_fit st S (i + 1)) HFIT.out)
      obtain ⟨x, ex⟩ : ∃ x, x = wd6 st.L i := ⟨_, rfl⟩
      rw [← ex] at d1 HLV HFI
      clear ex
      have hx1 : T.size + x.size + 7 ≤ 65536 := by have := HFI.out; rw [List.map_cons, List.map_cons, List.map_nil, line2, list_size, list_size] at this; have e : wLevel.size = 5 := rfl; omega
      go_wp2_with fail
      go_roundw
      case rel => exact ⟨i + 1, _, by omega, by go_num, rfl, Lib.hid (by rw [← HLV.out, wordsL_snoc, ← HT.out]; exact line2_bytes _ _ _ wLevel rfl), (by first | rfl | trivial)⟩
      case measure => simp [intOf]; omega
    · have hie : i = st.L.length := by omega
      subst hie
      have HT1 := HT
      clear HT q1
      have q1 := HCC.out 1 _ rfl
      go_wp2_with (go_at_call 20; refine (rcovers_any (.slice a1 S.length k1) S w1.heap.size _ HP1.out.s1 (Nat.le_refl _) hw (by have := HSL.out; omega)).mono ?_; rintro e w2 ⟨u, rfl, hown, hb⟩; have HPR := Lib.hid (prs5_of_row hown); obtain ⟨ua, uc, rfl⟩ := HPR.out.form; have HB2 := Lib.hid hb; clear hown hb)
      have hcn : (LL.coversL S).length ≤ 535 := HCN.out
      have HWF := Lib.hid (fun i => flowW_succ (st := st) (cs := LL.coversL S) (i := i))
      have HFT := Lib.hid (fun i => Nat.le_trans (up_fit2 st S i) HFIT.out)
      have HCA := Lib.hid (show ∀ i, i < (LL.coversL S).length → (prAt (LL.coversL S) i).1 < st.L.length ∧ (prAt (LL.coversL S) i).2 < st.L.length from fun i hi => HCV.out _ (by unfold prAt; rw [List.getElem?_eq_getElem hi]; exact List.getElem_mem hi))
      clear q0 q1
      obtain ⟨cs, ecs⟩ : ∃ cs, cs = LL.coversL S := ⟨_, rfl⟩
      have HECS := Lib.hid ecs
      rw [← ecs] at HPR HCN hcn HCA HWF HFT ⊢
      clear ecs
      have HCD := Lib.hid (fun c u hu => (HB2.out.cell (p := ⟨w.heap.size, c, none⟩) (cell_lt (HCC.out c u hu))).trans (HCC.out c u hu))
      go_loopw [4, 7] (fun u k wr => ∃ (i d : Nat) (T : ByteArray), i ≤ cs.length ∧ k = .int .i64 (i : Int) ∧ u = .string T ∧ RowKit.Hid (T.data.toList = wordsL (levW st st.L.length ++ flowW st cs i)) ∧ w2.drewN d = wr) (fun _ k _ => cs.length - (intOf k).toNat)
      case atStart => exact ⟨0, 0, _, Nat.zero_le _, rfl, rfl, Lib.hid (by have := HT1.out; simpa [flowW] using this), rfl⟩
      case round =>
        obtain ⟨i, d, T, hi, rfl, rfl, HT, rfl⟩ := hrel
        clear HT1
        by_cases hlt : i < cs.length
        · have i1 : (0 : Int) ≤ i ∧ (i : Int) < cs.length := by omega
          obtain ⟨pb, po, eua, g1, g2⟩ := prs_at HPR.out hlt
          subst eua
          have g1' := g1
          have g2' := g2
          clear g1 g2
          obtain ⟨hn1, hn2⟩ := HCA.out i hlt
          have HLV := Lib.hid (HWF.out i hlt)
          have HFI := Lib.hid (show T.size + (lineL ([wFlow, wd6 st.L (prAt cs i).1, wd6 st.L (prAt cs i).2].map (·.data.toList))).length ≤ 65536 by
            rw [← list_size, HT.out, ← List.length_append, ← wordsL_snoc, List.append_assoc, HLV.out]
            exact HFT.out (i + 1))
          obtain ⟨n1, e1⟩ : ∃ n, n = (prAt cs i).1 := ⟨_, rfl⟩
          obtain ⟨n2, e2⟩ : ∃ n, n = (prAt cs i).2 := ⟨_, rfl⟩
          rw [← e1] at hn1 g1' HLV HFI
          rw [← e2] at hn2 g2' HLV HFI
          clear e1 e2
          have i2 : (0 : Int) ≤ n1 ∧ (n1 : Int) < st.L.length := by omega
          have i3 : (0 : Int) ≤ n2 ∧ (n2 : Int) < st.L.length := by omega
          obtain ⟨lb, lo, ea, _, d1⟩ := HP1.out.s0.at hn1
          subst ea
          obtain ⟨lb2, lo2, ea, _, d2⟩ := HP1.out.s0.at hn2
          cases ea
          obtain ⟨x, ex⟩ : ∃ x, x = wd6 st.L n1 := ⟨_, rfl⟩
          obtain ⟨y, ey⟩ : ∃ y, y = wd6 st.L n2 := ⟨_, rfl⟩
          rw [← ex] at d1 HLV HFI
          rw [← ey] at d2 HLV HFI
          clear ex ey
          have q1 := HCD.out 0 _ rfl
          have d1' := (HB2.out.cell (cell_lt d1)).trans d1
          have d2' := (HB2.out.cell (cell_lt d2)).trans d2
          have hx1 : T.size + x.size + y.size + 7 ≤ 65536 := by have := HFI.out; rw [List.map_cons, List.map_cons, List.map_cons, List.map_nil, line3, list_size, list_size, list_size] at this; have e : wFlow.size = 4 := rfl; omega
          clear d1 d2
          go_wp2_with fail
          go_quiet (fail)
          go_wp2_with fail
          go_roundw
          case rel => exact ⟨i + 1, d + nq, _, by omega, by go_num, rfl, Lib.hid (by rw [← HLV.out, ← List.append_assoc, wordsL_snoc, ← HT.out]; exact line3_bytes _ _ _ _ wFlow rfl), (by first | rfl | trivial | exact (World.drewN_drewN _ _ _).symm)⟩
          case measure => simp [intOf]; omega
        · have hie : i = cs.length := by omega
          subst hie
          have HT1 := HT
          clear HT HPR HWF HFT HCA
          have q2 := HCD.out 2 _ rfl
          have hcl : st.I.length ≤ 32 := HIC.out.1
          have HWF := Lib.hid (fun i => chanW_succ (wd := wInput) (st := st) (cs := st.I) (i := i))
          have HFT := Lib.hid (fun i => Nat.le_trans (up_fit3 st S i) HFIT.out)
          rw [← HECS.out] at HFT
          go_wp2_with fail
          go_loopw [4, 8] (fun u k wr => ∃ (i d : Nat) (T : ByteArray), i ≤ st.I.length ∧ k = .int .i64 (i : Int) ∧ u = .string T ∧ RowKit.Hid (T.data.toList = wordsL (levW st st.L.length ++ flowW st cs cs.length ++ chanW wInput st st.I i)) ∧ w2.drewN d = wr) (fun _ k _ => st.I.length - (intOf k).toNat)
          case atStart => exact ⟨0, d, _, Nat.zero_le _, rfl, rfl, Lib.hid (by have := HT1.out; simpa [chanW] using this), rfl⟩
          case round =>
            obtain ⟨i, d, T, hi, rfl, rfl, HT, rfl⟩ := hrel
            clear HT1
            by_cases hlt : i < st.I.length
            · have i1 : (0 : Int) ≤ i ∧ (i : Int) < st.I.length := by omega
              obtain ⟨cb, co, ea2, g1, g2⟩ := HP1.out.s2.at hlt
              subst ea2
              have g1' := (HB2.out.cell (cell_lt g1)).trans g1
              have g2' := (HB2.out.cell (cell_lt g2)).trans g2
              clear g1 g2
              have HLV := Lib.hid (HWF.out i hlt)
              have HFI := Lib.hid (show T.size + (lineL ([wInput, (chAt st.I i).1, wd6 st.L (chAt st.I i).2.toNat].map (·.data.toList))).length ≤ 65536 by
                rw [← list_size, HT.out, ← List.length_append, ← wordsL_snoc, List.append_assoc, HLV.out]
                exact HFT.out (i + 1))
              have hlv := ch_lev HIC.out.2.1 hlt
              obtain ⟨x, enm⟩ : ∃ nm, nm = (chAt st.I i).1 := ⟨_, rfl⟩
              obtain ⟨n1, en1⟩ : ∃ n : Nat, (chAt st.I i).2 = (n : Int) := ⟨(chAt st.I i).2.toNat, by omega⟩
              rw [← enm] at g1' HLV HFI
              rw [en1] at g2' HLV HFI hlv
              rw [Int.toNat_natCast] at HLV HFI
              clear enm en1
              have hn1 : n1 < st.L.length := by omega
              have i2 : (0 : Int) ≤ n1 ∧ (n1 : Int) < st.L.length := by omega
              obtain ⟨lb, lo, ea, _, d1⟩ := HP1.out.s0.at hn1
              subst ea
              obtain ⟨y, ey⟩ : ∃ y, y = wd6 st.L n1 := ⟨_, rfl⟩
              rw [← ey] at d1 HLV HFI
              have d1' := (HB2.out.cell (cell_lt d1)).trans d1
              clear ey hlv d1
              have q1 := HCD.out 0 _ rfl
              have hx1 : T.size + x.size + y.size + 7 ≤ 65536 := by have := HFI.out; rw [List.map_cons, List.map_cons, List.map_cons, List.map_nil, line3, list_size, list_size, list_size] at this; have e : wInput.size = 5 := rfl; omega
              go_wp2_with fail
              go_quiet (fail)
              go_wp2_with fail
              go_roundw
              case rel => exact ⟨i + 1, d + nq, _, by omega, by go_num, rfl, Lib.hid (by rw [← HLV.out, ← List.append_assoc, wordsL_snoc, ← HT.out]; exact line3_bytes _ _ _ _ wInput rfl), (by first | rfl | trivial | exact (World.drewN_drewN _ _ _).symm)⟩
              case measure => simp [intOf]; omega
            · have hie : i = st.I.length := by omega
              subst hie
              have HT1 := HT
              clear HT HWF HFT
              have q3 := HCD.out 3 _ rfl
              have hol : st.O.length ≤ 32 := HOC.out.1
              have HWF := Lib.hid (fun i => chanW_succ (wd := wOutput) (st := st) (cs := st.O) (i := i))
              have HFT := Lib.hid (fun i => Nat.le_trans (up_fit4 st S i) HFIT.out)
              rw [← HECS.out] at HFT
              go_wp2_with fail
              go_loopw [4, 9] (fun u k wr => ∃ (i d : Nat) (T : ByteArray), i ≤ st.O.length ∧ k = .int .i64 (i : Int) ∧ u = .string T ∧ RowKit.Hid (T.data.toList = wordsL (levW st st.L.length ++ flowW st cs cs.length ++ chanW wInput st st.I st.I.length ++ chanW wOutput st st.O i)) ∧ w2.drewN d = wr) (fun _ k _ => st.O.length - (intOf k).toNat)
              case atStart => exact ⟨0, d, _, Nat.zero_le _, rfl, rfl, Lib.hid (by have := HT1.out; simpa [chanW] using this), rfl⟩
              case round =>
                obtain ⟨i, d, T, hi, rfl, rfl, HT, rfl⟩ := hrel
                clear HT1
                by_cases hlt : i < st.O.length
                · have i1 : (0 : Int) ≤ i ∧ (i : Int) < st.O.length := by omega
                  obtain ⟨cb, co, ea2, g1, g2⟩ := HP1.out.s3.at hlt
                  subst ea2
                  have g1' := (HB2.out.cell (cell_lt g1)).trans g1
                  have g2' := (HB2.out.cell (cell_lt g2)).trans g2
                  clear g1 g2
                  have HLV := Lib.hid (HWF.out i hlt)
                  have HFI := Lib.hid (show T.size + (lineL ([wOutput, (chAt st.O i).1, wd6 st.L (chAt st.O i).2.toNat].map (·.data.toList))).length ≤ 65536 by
                    rw [← list_size, HT.out, ← List.length_append, ← wordsL_snoc, List.append_assoc, HLV.out]
                    exact HFT.out (i + 1))
                  have hlv := ch_lev HOC.out.2.1 hlt
                  obtain ⟨x, enm⟩ : ∃ nm, nm = (chAt st.O i).1 := ⟨_, rfl⟩
                  obtain ⟨n1, en1⟩ : ∃ n : Nat, (chAt st.O i).2 = (n : Int) := ⟨(chAt st.O i).2.toNat, by omega⟩
                  rw [← enm] at g1' HLV HFI
                  rw [en1] at g2' HLV HFI hlv
                  rw [Int.toNat_natCast] at HLV HFI
                  clear enm en1
                  have hn1 : n1 < st.L.length := by omega
                  have i2 : (0 : Int) ≤ n1 ∧ (n1 : Int) < st.L.length := by omega
                  obtain ⟨lb, lo, ea, _, d1⟩ := HP1.out.s0.at hn1
                  subst ea
                  obtain ⟨y, ey⟩ : ∃ y, y = wd6 st.L n1 := ⟨_, rfl⟩
                  rw [← ey] at d1 HLV HFI
                  have d1' := (HB2.out.cell (cell_lt d1)).trans d1
                  clear ey hlv d1
                  have q1 := HCD.out 0 _ rfl
                  have hx1 : T.size + x.size + y.size + 7 ≤ 65536 := by have := HFI.out; rw [List.map_cons, List.map_cons, List.map_cons, List.map_nil, line3, list_size, list_size, list_size] at this; have e : wOutput.size = 6 := rfl; omega
                  go_wp2_with fail
                  go_quiet (fail)
                  go_wp2_with fail
                  go_roundw
                  case rel => exact ⟨i + 1, d + nq, _, by omega, by go_num, rfl, Lib.hid (by rw [← HLV.out, ← List.append_assoc, wordsL_snoc, ← HT.out]; exact line3_bytes _ _ _ _ wOutput rfl), (by first | rfl | trivial | exact (World.drewN_drewN _ _ _).symm)⟩
                  case measure => simp [intOf]; omega
                · have hie : i = st.O.length := by omega
                  subst hie
                  have HT1 := HT
                  clear HT HWF HFT
                  have q4 := HCD.out 4 _ rfl
                  have hD := HD.out
                  have HLV := Lib.hid (show wordsL (levW st st.L.length ++ flowW st cs cs.length ++ chanW wInput st st.I st.I.length ++ chanW wOutput st st.O st.O.length) ++ lineL ([wDepth, num st.D].map (·.data.toList)) = printL st S by
                    rw [← wordsL_snoc, HECS.out, up_all, printL_words])
                  have HFI := Lib.hid (show T.size + (lineL ([wDepth, num st.D].map (·.data.toList))).length ≤ 65536 by
                    rw [← list_size, HT1.out, ← List.length_append, HLV.out]
                    exact HFIT.out)
                  obtain ⟨y, ey⟩ : ∃ y, y = num st.D := ⟨_, rfl⟩
                  have HY := Lib.hid ey
                  rw [← ey] at HLV HFI
                  clear ey
                  have hx1 : T.size + y.size + 7 ≤ 65536 := by have := HFI.out; rw [List.map_cons, List.map_cons, List.map_nil, line2, list_size, list_size] at this; have e : wDepth.size = 5 := rfl; omega
                  go_wp2_with (go_at_call 21; refine (rshow_any st.D (by omega) (by omega) _).mono ?_; rintro e w5 ⟨rfl, dk, rfl⟩; rw [← HY.out])
                  go_ret2
                  exact ⟨⟨_, rfl, by rw [← HLV.out, ← HT1.out]; exact line2b_bytes _ _ _ wDepth rfl⟩, HB1.out.trans ((HB2.out.trans ((below_dn6 w2 (d + dk)).mono HB2.out.size)).mono HB1.out.size)⟩
end Go.Proofs.YthjfgfgkbfhdfaaGreatDoor
