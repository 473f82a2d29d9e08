import Derived.Test.YthjfgfgkbfhdfaaGreatDoorPrnB
import Derived.Test.YthjfgfgkbfhdfaaGreatDoorPrnG
set_option linter.unusedSimpArgs false
set_option linter.unusedVariables false
/-! policy: the project's Print, a policy that may be -/
namespace Go.Proofs.YthjfgfgkbfhdfaaGreatDoor
open Go.RowKit
set_option maxRecDepth 100000 in
set_option maxHeartbeats 1600000 in
theorem print6_yes (v0 v1 v2 v3 : Value) (st : PSt) (S : List Int) (w : World) (h : PolIn w v0 v1 v2 v3 st S) (hw : Wide S) (hTz : Tz w) (hsh : Short6 st) (hPw : Pow w) (hr : rightP st S = true) (hfit : (printL st S).length ≤ 65536) :
    Calls Tryz.prog 6 #[.agg #[v0, v1, v2, v3, .int .i64 st.D]] w fun e w' => (∃ T : ByteArray, e = .returned (.tuple #[.string T, .int .i64 0]) ∧ T.data.toList = printL st S) ∧ Below w.heap.size w w' := by
  have hzb := fun (w : World) => run_zeroBld w
  obtain ⟨a0, k0, rfl⟩ := h.s0.form
  have HB0 := Lib.hid (show Below w.heap.size w (w.alloc (.cells #[.slice a0 st.L.length k0, v1, v2, v3, .int .i64 st.D] 26)) from (Below.refl _ _).alloc (Nat.le_refl _) _)
  have HP0 := Lib.hid (h.below HB0.out)
  have HT0 := Lib.hid (hTz.on HB0.out)
  have HPW0 := Lib.hid (hPw.below HB0.out)
  have HC0 := Lib.hid (pol_cells w (.slice a0 st.L.length k0) v1 v2 v3 (.int .i64 st.D) 26)
  have HR := Lib.hid hr
  have HFIT := Lib.hid hfit
  have hl0 := h.l0
  have hpt := rightP_parts hr
  have h64 : st.L.length ≤ 64 := by have := (LL.ord_len (LL.right_ord hpt.2.2.1)).2; omega
  have HSL := Lib.hid hpt.2.1
  have HRS := Lib.hid hpt.2.2.1
  have HCV := Lib.hid (show ∀ p ∈ LL.coversL S, p.1 < st.L.length ∧ p.2 < st.L.length from fun p hp => by have := LL.covers_ok S p hp; omega)
  have HCN := Lib.hid (LL.covers_few hpt.2.2.1 hw)
  have HD := Lib.hid hpt.1
  have HIC := Lib.hid (chans_split hpt.2.2.2.2.1)
  have HOC := Lib.hid (chans_split hpt.2.2.2.2.2)
  clear hpt
  clear h hTz hr hfit hPw
  go_enter Tryz.func6, Tryz.ntmps6
  go_wp2_with (refine wpList_loadPol rfl (.tmp 1) rfl w.heap.size rfl _ _ _ _ _ HC0.out ?_)
  refine (right6_any _ v1 v2 v3 st S _ HP0.out hw HT0.out hsh).mono ?_
  rintro e w1 ⟨rfl, hb⟩
  rw [HR.out]
  have HB1 := Lib.hid hb
  have HCC := Lib.hid (fun c u hu => (hb.cell (p := ⟨w.heap.size, c, none⟩) (by simp)).trans (HC0.out c u hu))
  have q0 := HCC.out 0 _ rfl
  have HP1 := Lib.hid (HP0.out.below hb)
  have HPW1 := Lib.hid (HPW0.out.below hb)
  clear hb
  have hq := (Below.refl w1.heap.size w1).alloc (Nat.le_refl _) (.cells #[.pointer none, .slice none 0 0] 45)
  have q1 := (hq.cell (p := ⟨w.heap.size, 0, none⟩) (by have := HB1.out.size; simp at this; show w.heap.size < w1.heap.size; omega)).trans q0
  have HQ := Lib.hid hq
  clear hq
  go_wp2_with fail
  go_loopw [21] (fun k wr => ∃ i : Nat, i ≤ st.L.length ∧ k = .int .i64 (i : Int) ∧ Bld w1.heap.size w1.heap.size (wordsL (levW st i)) wr ∧ Below w1.heap.size w1 wr) (fun k _ => st.L.length - (intOf k).toNat)
  case atStart => exact ⟨0, Nat.zero_le _, rfl, bld_new w1, HQ.out⟩
  case round =>
    obtain ⟨i, hi, rfl, hbl, hB⟩ := hrel
    have HBL := Lib.hid hbl
    have HB := Lib.hid hB
    clear hbl hB q1
    have hlw : w.heap.size < w1.heap.size := by have := HB1.out.size; simp at this; omega
    have q1 := (HB.out.cell (p := ⟨w.heap.size, 0, none⟩) hlw).trans q0
    by_cases hlt : i < st.L.length
    · obtain ⟨b0, off, rfl, _, hc⟩ := (HP1.out.s0.below HB.out).at hlt
      have i1 : (0 : Int) ≤ i ∧ (i : Int) < st.L.length := by omega
      have HLV := Lib.hid (levW_succ hlt)
      have HFI := Lib.hid (show (wordsL (levW st i)).length + (lineL ([wLevel, wd6 st.L i].map (·.data.toList))).length ≤ 65536 by
        rw [← List.length_append, ← wordsL_snoc, levW_succ hlt]
        exact Nat.le_trans (lev_fit st S (i + 1)) HFIT.out)
      obtain ⟨x, ex⟩ : ∃ x, x = wd6 st.L i := ⟨_, rfl⟩
      rw [← ex] at hc HLV HFI
      clear ex
      go_wp2_with fail
      refine (line6_any w1.heap.size w1.heap.size (wordsL (levW st i)) [wLevel, x] wr.heap.size 0 2 _ (HBL.out.on ((Below.refl _ _).alloc (Nat.le_refl _) _)) (two_cells wr wLevel x _) (by simp) (by simp) (by simp) (Nat.le_trans HFI.out (by decide)) (by have := HB.out.size; simp; omega)).mono ?_
      rintro e w2 ⟨rfl, h1, h2, h3, h4⟩
      have H1 := Lib.hid h1
      have H2 := Lib.hid ((HB.out.alloc HB.out.size _).trans h2)
      clear h1 h2 h3 h4
      go_wp2_with fail
      go_roundw
      case rel => exact ⟨i + 1, by omega, by go_num, by rw [← HLV.out, wordsL_snoc]; exact H1.out, H2.out⟩
      case measure => simp [intOf]; omega
    · have hie : i = st.L.length := by omega
      subst hie
      have p1 := (HB.out.cell (p := ⟨w.heap.size, 1, none⟩) hlw).trans (HCC.out 1 _ rfl)
      have HT2 := Lib.hid ((HT0.out.on HB1.out).on (HB.out.mono (Nat.le_refl _)))
      go_wp2_with (go_at_call 17; refine (covers5_typed v1 S wr.heap.size _ (nums_on HP1.out.s1 HB.out) (Nat.le_refl _) hw (by have := HSL.out; simp only [big5]; omega) HT2.out).mono ?_; rintro e w2 ⟨u, rfl, hp, hb, hty⟩; rw [if_pos HRS.out] at hp; obtain ⟨ua, uc, rfl⟩ := hp.form; have HPR := Lib.hid hp; have HTY := Lib.hid hty; have HBL2 := Lib.hid (HBL.out.on hb); have HB2 := Lib.hid (HB.out.trans (hb.mono HB.out.size)); clear hp hty hb)
      have hcn : (LL.coversL S).length ≤ 535 := HCN.out
      have HWF := Lib.hid (fun i => flowW_succ (st := st) (cs := LL.coversL S) (i := i))
      have HFT := Lib.hid (fun i => Nat.le_trans (up_fit2 st S i) HFIT.out)
      have HCA := Lib.hid (show ∀ i, i < (LL.coversL S).length → (prAt (LL.coversL S) i).1 < st.L.length ∧ (prAt (LL.coversL S) i).2 < st.L.length from fun i hi => HCV.out _ (by unfold prAt; rw [List.getElem?_eq_getElem hi]; exact List.getElem_mem hi))
      have hzp := fun (w : World) => run_zeroPr w
      clear HBL q1 p1
      obtain ⟨cs, ecs⟩ : ∃ cs, cs = LL.coversL S := ⟨_, rfl⟩
      have HECS := Lib.hid ecs
      rw [← ecs] at HPR HTY HCN hcn HCA HWF HFT ⊢
      clear ecs
      go_loopw [34] (fun k wr => ∃ i : Nat, i ≤ cs.length ∧ k = .int .i64 (i : Int) ∧ Bld w1.heap.size w1.heap.size (wordsL (levW st st.L.length ++ flowW st cs i)) wr ∧ Below w1.heap.size w1 wr ∧ KeptP (.slice ua cs.length uc) w2 wr) (fun k _ => cs.length - (intOf k).toNat)
      case atStart => exact ⟨0, Nat.zero_le _, rfl, by have := HBL2.out; simpa [flowW] using this, HB2.out, fun _ _ _ _ _ => rfl⟩
      case round =>
        obtain ⟨i, hi, rfl, hbl, hB, hkp⟩ := hrel
        have HBL := Lib.hid hbl
        have HB := Lib.hid hB
        have HKP := Lib.hid hkp
        clear hbl hB hkp
        by_cases hlt : i < cs.length
        · obtain ⟨pb, po, eua, g1, g2⟩ := prs_at HPR.out hlt
          subst eua
          have i1 : (0 : Int) ≤ i ∧ (i : Int) < cs.length := by omega
          have kc : wr.heap[pb]? = w2.heap[pb]? := HKP.out pb po _ _ rfl
          have g1' := (World.cell?_of_block (a := ⟨pb, po + i * 2, none⟩) kc).trans g1
          have g2' := (World.cell?_of_block (a := ⟨pb, po + i * 2 + 1, none⟩) kc).trans g2
          clear kc g1 g2
          obtain ⟨hn1, hn2⟩ := HCA.out i hlt
          have HLV := Lib.hid (HWF.out i hlt)
          have HFI := Lib.hid (show (wordsL (levW st st.L.length ++ flowW st cs i)).length + (lineL ([wFlow, wd6 st.L (prAt cs i).1, wd6 st.L (prAt cs i).2].map (·.data.toList))).length ≤ 65536 by
            rw [← List.length_append, ← wordsL_snoc, List.append_assoc, HLV.out]
            exact HFT.out (i + 1))
          obtain ⟨n1, e1⟩ : ∃ n, n = (prAt cs i).1 := ⟨_, rfl⟩
          obtain ⟨n2, e2⟩ : ∃ n, n = (prAt cs i).2 := ⟨_, rfl⟩
          rw [← e1] at hn1 g1' HLV HFI
          rw [← e2] at hn2 g2' HLV HFI
          clear e1 e2
          have i2 : (0 : Int) ≤ n1 ∧ (n1 : Int) < st.L.length := by omega
          have i3 : (0 : Int) ≤ n2 ∧ (n2 : Int) < st.L.length := by omega
          obtain ⟨lb, lo, ea, _, d1⟩ := HP1.out.s0.at hn1
          subst ea
          obtain ⟨lb2, lo2, ea, _, d2⟩ := HP1.out.s0.at hn2
          cases ea
          have q1 := q0
          obtain ⟨x, ex⟩ : ∃ x, x = wd6 st.L n1 := ⟨_, rfl⟩
          obtain ⟨y, ey⟩ : ∃ y, y = wd6 st.L n2 := ⟨_, rfl⟩
          rw [← ex] at d1 HLV HFI
          rw [← ey] at d2 HLV HFI
          clear ex ey
          have HQ1 := Lib.hid q1
          have HD1 := Lib.hid d1
          have HD2 := Lib.hid d2
          clear q1 d1 d2
          go_wp2_with (first
            | (refine wpList_loadPr rfl (.tmp 36) rfl pb (po + i * 2) rfl _ _ g1' g2' ?_)
            | (refine wpList_store_row rfl 54 (.tmp 9) (.tmp 37) rfl _ #[.int .i64 (n1 : Int), .int .i64 (n2 : Int)] rfl rfl 54 #[.int .i64 0, .int .i64 0] (heap_alloc_new _ _) (by kernel_rfl) rfl (pr_one n1 n2) ?_
               rw [setRow_new6]))
          have hA := (Below.refl wr.heap.size wr).alloc (Nat.le_refl _) (.cells #[.int .i64 (n1 : Int), .int .i64 (n2 : Int)] 54)
          have c1 := (ch_cells wr (.int .i64 (n1 : Int)) (.int .i64 (n2 : Int)) 54).1
          have c2 := (ch_cells wr (.int .i64 (n1 : Int)) (.int .i64 (n2 : Int)) 54).2
          have HNB := Lib.hid (heap_alloc_new wr (.cells #[.int .i64 (n1 : Int), .int .i64 (n2 : Int)] 54))
          have hq1 : (wr.alloc (.cells #[.int .i64 (n1 : Int), .int .i64 (n2 : Int)] 54)).cell? ⟨w.heap.size, 0, none⟩ = some (.slice (some ⟨lb, lo, none⟩) st.L.length k0) := ((HB.out.trans (hA.mono HB.out.size)).cell (p := ⟨w.heap.size, 0, none⟩) hlw).trans HQ1.out
          have hd1 := ((HB.out.trans (hA.mono HB.out.size)).cell (p := ⟨lb, lo + n1, none⟩) (cell_lt HD1.out)).trans HD1.out
          have hd2 := ((HB.out.trans (hA.mono HB.out.size)).cell (p := ⟨lb, lo + n2, none⟩) (cell_lt HD2.out)).trans HD2.out
          have HA := Lib.hid hA
          have hsz : (wr.alloc (.cells #[.int .i64 (n1 : Int), .int .i64 (n2 : Int)] 54)).heap.size = wr.heap.size + 1 := World.size_alloc ..
          generalize wr.alloc (.cells #[.int .i64 (n1 : Int), .int .i64 (n2 : Int)] 54) = W3 at HA c1 c2 hq1 hd1 hd2 hsz HNB ⊢
          have HSZ := Lib.hid hsz
          have HW4 := Lib.hid (show Below wr.heap.size wr (W3.alloc (.cells #[.string wFlow, .string x, .string y] 9)).drew from (HA.out.alloc HA.out.size _).drew)
          have HKS := Lib.hid (fun (w4 : World) (h2 : Below w1.heap.size (W3.alloc (.cells #[.string wFlow, .string x, .string y] 9)).drew w4) (h3 : KeptB w1.heap.size (W3.alloc (.cells #[.string wFlow, .string x, .string y] 9)).drew w4) => pr_held (T := 54) (by decide) HB.out HBL.out.lt HW4.out HNB.out HSZ.out hlw HQ1.out HD1.out HD2.out h2 h3)
          clear hA hsz g1' g2'
          go_region_held3 (fun V => V.cell? ⟨w.heap.size, 0, none⟩ = some (.slice (some ⟨lb, lo, none⟩) st.L.length k0) ∧ V.cell? ⟨wr.heap.size, 0, none⟩ = some (.int .i64 (n1 : Int)) ∧ V.cell? ⟨wr.heap.size, 1, none⟩ = some (.int .i64 (n2 : Int)) ∧ V.cell? ⟨lb, lo + n1, none⟩ = some (.string x) ∧ V.cell? ⟨lb, lo + n2, none⟩ = some (.string y))
            (first
              | (go_keep; done)
              | exact HKS.out _ h2 h3)
            ((go_at_call 14
              refine (line6_any w1.heap.size w1.heap.size _ [wFlow, x, y] W3.heap.size 0 3 _ (HBL.out.on HW4.out) (three_cells W3 wFlow x y _ rfl) (by simp) (by simp) (by simp) (Nat.le_trans HFI.out (by decide)) (Nat.le_trans HB.out.size HW4.out.size)).mono ?_
              rintro e w4 ⟨rfl, h1, h2, h3, h4⟩))
          have H1 := Lib.hid h1
          have H2 := Lib.hid (HB.out.trans ((HW4.out.mono HB.out.size).trans h2))
          have H3 := Lib.hid (HKP.out.line HTY.out HBL.out HW4.out h3)
          clear h1 h2 h3 h4
          go_wp2_with fail
          go_roundw
          case rel => exact ⟨i + 1, by omega, by go_num, by rw [← HLV.out, ← List.append_assoc, wordsL_snoc]; exact H1.out, H2.out, H3.out⟩
          case measure => simp [intOf]; omega
        · have hie : i = cs.length := by omega
          subst hie
          have HBL5 := HBL
          have HB5 := HB
          have q2 := (HB.out.cell (p := ⟨w.heap.size, 2, none⟩) hlw).trans (HCC.out 2 _ rfl)
          clear HBL HB HKP HPR HTY HWF HFT HCA HBL2 HB2 hzp
          have hzc := fun (w : World) => run_zeroCh w
          obtain ⟨a2, k2, rfl⟩ := HP1.out.s2.form
          have hcl : st.I.length ≤ 32 := HIC.out.1
          have HWF := Lib.hid (fun i => chanW_succ (wd := wInput) (st := st) (cs := st.I) (i := i))
          have HFT := Lib.hid (fun i => Nat.le_trans (up_fit3 st S i) HFIT.out)
          rw [← HECS.out] at HFT
          go_wp2_with fail
          go_loopw [57] (fun k wr => ∃ i : Nat, i ≤ st.I.length ∧ k = .int .i64 (i : Int) ∧ Bld w1.heap.size w1.heap.size (wordsL (levW st st.L.length ++ flowW st cs cs.length ++ chanW wInput st st.I i)) wr ∧ Below w1.heap.size w1 wr) (fun k _ => st.I.length - (intOf k).toNat)
          case atStart => exact ⟨0, Nat.zero_le _, rfl, by have := HBL5.out; simpa [chanW] using this, HB5.out⟩
          case round =>
            obtain ⟨i, hi, rfl, hbl, hB⟩ := hrel
            have HBL := Lib.hid hbl
            have HB := Lib.hid hB
            clear hbl hB HBL5 HB5 q2
            by_cases hlt : i < st.I.length
            · have i1 : (0 : Int) ≤ i ∧ (i : Int) < st.I.length := by omega
              obtain ⟨cb, co, ea2, g1, g2⟩ := HP1.out.s2.at hlt
              subst ea2
              have g1' := (HB.out.cell (p := ⟨cb, co + i * 2, none⟩) (cell_lt g1)).trans g1
              have g2' := (HB.out.cell (p := ⟨cb, co + i * 2 + 1, none⟩) (cell_lt g2)).trans g2
              clear g1 g2
              have HLV := Lib.hid (HWF.out i hlt)
              have HFI := Lib.hid (show (wordsL (levW st st.L.length ++ flowW st cs cs.length ++ chanW wInput st st.I i)).length + (lineL ([wInput, (chAt st.I i).1, wd6 st.L (chAt st.I i).2.toNat].map (·.data.toList))).length ≤ 65536 by
                rw [← List.length_append, ← wordsL_snoc, List.append_assoc, HLV.out]
                exact HFT.out (i + 1))
              have hlv := ch_lev HIC.out.2.1 hlt
              obtain ⟨nm, enm⟩ : ∃ nm, nm = (chAt st.I i).1 := ⟨_, rfl⟩
              obtain ⟨n1, en1⟩ : ∃ n : Nat, (chAt st.I i).2 = (n : Int) := ⟨(chAt st.I i).2.toNat, by omega⟩
              rw [← enm] at g1' HLV HFI
              rw [en1] at g2' HLV HFI hlv
              rw [Int.toNat_natCast] at HLV HFI
              clear enm en1
              have hn1 : n1 < st.L.length := by omega
              have i2 : (0 : Int) ≤ n1 ∧ (n1 : Int) < st.L.length := by omega
              obtain ⟨lb, lo, ea, _, d1⟩ := HP1.out.s0.at hn1
              subst ea
              obtain ⟨y, ey⟩ : ∃ y, y = wd6 st.L n1 := ⟨_, rfl⟩
              rw [← ey] at d1 HLV HFI
              clear ey hlv
              have HQ1 := Lib.hid q0
              have HD1 := Lib.hid d1
              clear d1
              go_wp2_with (first
                | (refine wpList_loadCh rfl (.tmp 59) rfl cb (co + i * 2) rfl _ _ g1' g2' ?_)
                | (refine wpList_store_row rfl 40 (.tmp 11) (.tmp 60) rfl _ #[.string nm, .int .i64 (n1 : Int)] rfl rfl 40 #[.string ⟨#[]⟩, .int .i64 0] (heap_alloc_new _ _) (by kernel_rfl) rfl (ch_one nm n1) ?_
                   rw [setRow_new6]))
              have hA := (Below.refl wr.heap.size wr).alloc (Nat.le_refl _) (.cells #[.string nm, .int .i64 (n1 : Int)] 40)
              have c1 := (ch_cells wr (.string nm) (.int .i64 (n1 : Int)) 40).1
              have c2 := (ch_cells wr (.string nm) (.int .i64 (n1 : Int)) 40).2
              have HNB := Lib.hid (heap_alloc_new wr (.cells #[.string nm, .int .i64 (n1 : Int)] 40))
              have hq1 : (wr.alloc (.cells #[.string nm, .int .i64 (n1 : Int)] 40)).cell? ⟨w.heap.size, 0, none⟩ = some (.slice (some ⟨lb, lo, none⟩) st.L.length k0) := ((HB.out.trans (hA.mono HB.out.size)).cell (p := ⟨w.heap.size, 0, none⟩) hlw).trans HQ1.out
              have hd1 := ((HB.out.trans (hA.mono HB.out.size)).cell (p := ⟨lb, lo + n1, none⟩) (cell_lt HD1.out)).trans HD1.out
              have HA := Lib.hid hA
              have hsz : (wr.alloc (.cells #[.string nm, .int .i64 (n1 : Int)] 40)).heap.size = wr.heap.size + 1 := World.size_alloc ..
              generalize wr.alloc (.cells #[.string nm, .int .i64 (n1 : Int)] 40) = W3 at HA c1 c2 hq1 hd1 hsz HNB ⊢
              have HSZ := Lib.hid hsz
              have HW4 := Lib.hid (show Below wr.heap.size wr (W3.alloc (.cells #[.string wInput, .string nm, .string y] 9)).drew from (HA.out.alloc HA.out.size _).drew)
              have HKS := Lib.hid (fun (w4 : World) (h2 : Below w1.heap.size (W3.alloc (.cells #[.string wInput, .string nm, .string y] 9)).drew w4) (h3 : KeptB w1.heap.size (W3.alloc (.cells #[.string wInput, .string nm, .string y] 9)).drew w4) => (fun z => (⟨z.1, z.2.1, z.2.2.1, z.2.2.2.1⟩ : w4.cell? ⟨w.heap.size, 0, none⟩ = _ ∧ w4.cell? ⟨wr.heap.size, 0, none⟩ = _ ∧ w4.cell? ⟨wr.heap.size, 1, none⟩ = _ ∧ w4.cell? ⟨lb, lo + n1, none⟩ = _)) (pr_held (T := 40) (by decide) HB.out HBL.out.lt HW4.out HNB.out HSZ.out hlw HQ1.out HD1.out HD1.out h2 h3))
              clear hA hsz g1' g2'
              go_region_held3 (fun V => V.cell? ⟨w.heap.size, 0, none⟩ = some (.slice (some ⟨lb, lo, none⟩) st.L.length k0) ∧ V.cell? ⟨wr.heap.size, 0, none⟩ = some (.string nm) ∧ V.cell? ⟨wr.heap.size, 1, none⟩ = some (.int .i64 (n1 : Int)) ∧ V.cell? ⟨lb, lo + n1, none⟩ = some (.string y))
                (first
                  | (go_keep; done)
                  | exact HKS.out _ h2 h3)
                ((go_at_call 14
                  refine (line6_any w1.heap.size w1.heap.size _ [wInput, nm, y] W3.heap.size 0 3 _ (HBL.out.on HW4.out) (three_cells W3 wInput nm y _ rfl) (by simp) (by simp) (by simp) (Nat.le_trans HFI.out (by decide)) (Nat.le_trans HB.out.size HW4.out.size)).mono ?_
                  rintro e w4 ⟨rfl, h1, h2, h3, h4⟩))
              have H1 := Lib.hid h1
              have H2 := Lib.hid (HB.out.trans ((HW4.out.mono HB.out.size).trans h2))
              clear h1 h2 h3 h4
              go_wp2_with fail
              go_roundw
              case rel => exact ⟨i + 1, by omega, by go_num, by rw [← HLV.out, ← List.append_assoc, wordsL_snoc]; exact H1.out, H2.out⟩
              case measure => simp [intOf]; omega
            · have hie : i = st.I.length := by omega
              subst hie
              have HBL7 := HBL
              have HB7 := HB
              have q3 := (HB.out.cell (p := ⟨w.heap.size, 3, none⟩) hlw).trans (HCC.out 3 _ rfl)
              clear HBL HB HWF HFT
              obtain ⟨a3, k3, rfl⟩ := HP1.out.s3.form
              have hol : st.O.length ≤ 32 := HOC.out.1
              have HWF := Lib.hid (fun i => chanW_succ (wd := wOutput) (st := st) (cs := st.O) (i := i))
              have HFT := Lib.hid (fun i => Nat.le_trans (up_fit4 st S i) HFIT.out)
              rw [← HECS.out] at HFT
              go_wp2_with fail
              go_loopw [76] (fun k wr => ∃ i : Nat, i ≤ st.O.length ∧ k = .int .i64 (i : Int) ∧ Bld w1.heap.size w1.heap.size (wordsL (levW st st.L.length ++ flowW st cs cs.length ++ chanW wInput st st.I st.I.length ++ chanW wOutput st st.O i)) wr ∧ Below w1.heap.size w1 wr) (fun k _ => st.O.length - (intOf k).toNat)
              case atStart => exact ⟨0, Nat.zero_le _, rfl, by have := HBL7.out; simpa [chanW] using this, HB7.out⟩
              case round =>
                obtain ⟨i, hi, rfl, hbl, hB⟩ := hrel
                have HBL := Lib.hid hbl
                have HB := Lib.hid hB
                clear hbl hB HBL7 HB7 q3
                by_cases hlt : i < st.O.length
                · have i1 : (0 : Int) ≤ i ∧ (i : Int) < st.O.length := by omega
                  obtain ⟨cb, co, ea2, g1, g2⟩ := HP1.out.s3.at hlt
                  subst ea2
                  have g1' := (HB.out.cell (p := ⟨cb, co + i * 2, none⟩) (cell_lt g1)).trans g1
                  have g2' := (HB.out.cell (p := ⟨cb, co + i * 2 + 1, none⟩) (cell_lt g2)).trans g2
                  clear g1 g2
                  have HLV := Lib.hid (HWF.out i hlt)
                  have HFI := Lib.hid (show (wordsL (levW st st.L.length ++ flowW st cs cs.length ++ chanW wInput st st.I st.I.length ++ chanW wOutput st st.O i)).length + (lineL ([wOutput, (chAt st.O i).1, wd6 st.L (chAt st.O i).2.toNat].map (·.data.toList))).length ≤ 65536 by
                    rw [← List.length_append, ← wordsL_snoc, List.append_assoc, HLV.out]
                    exact HFT.out (i + 1))
                  have hlv := ch_lev HOC.out.2.1 hlt
                  obtain ⟨nm, enm⟩ : ∃ nm, nm = (chAt st.O i).1 := ⟨_, rfl⟩
                  obtain ⟨n1, en1⟩ : ∃ n : Nat, (chAt st.O i).2 = (n : Int) := ⟨(chAt st.O i).2.toNat, by omega⟩
                  rw [← enm] at g1' HLV HFI
                  rw [en1] at g2' HLV HFI hlv
                  rw [Int.toNat_natCast] at HLV HFI
                  clear enm en1
                  have hn1 : n1 < st.L.length := by omega
                  have i2 : (0 : Int) ≤ n1 ∧ (n1 : Int) < st.L.length := by omega
                  obtain ⟨lb, lo, ea, _, d1⟩ := HP1.out.s0.at hn1
                  subst ea
                  obtain ⟨y, ey⟩ : ∃ y, y = wd6 st.L n1 := ⟨_, rfl⟩
                  rw [← ey] at d1 HLV HFI
                  clear ey hlv
                  have HQ1 := Lib.hid q0
                  have HD1 := Lib.hid d1
                  clear d1
                  go_wp2_with (first
                    | (refine wpList_loadCh rfl (.tmp 78) rfl cb (co + i * 2) rfl _ _ g1' g2' ?_)
                    | (refine wpList_store_row rfl 40 (.tmp 13) (.tmp 79) rfl _ #[.string nm, .int .i64 (n1 : Int)] rfl rfl 40 #[.string ⟨#[]⟩, .int .i64 0] (heap_alloc_new _ _) (by kernel_rfl) rfl (ch_one nm n1) ?_
                       rw [setRow_new6]))
                  have hA := (Below.refl wr.heap.size wr).alloc (Nat.le_refl _) (.cells #[.string nm, .int .i64 (n1 : Int)] 40)
                  have c1 := (ch_cells wr (.string nm) (.int .i64 (n1 : Int)) 40).1
                  have c2 := (ch_cells wr (.string nm) (.int .i64 (n1 : Int)) 40).2
                  have HNB := Lib.hid (heap_alloc_new wr (.cells #[.string nm, .int .i64 (n1 : Int)] 40))
                  have hq1 : (wr.alloc (.cells #[.string nm, .int .i64 (n1 : Int)] 40)).cell? ⟨w.heap.size, 0, none⟩ = some (.slice (some ⟨lb, lo, none⟩) st.L.length k0) := ((HB.out.trans (hA.mono HB.out.size)).cell (p := ⟨w.heap.size, 0, none⟩) hlw).trans HQ1.out
                  have hd1 := ((HB.out.trans (hA.mono HB.out.size)).cell (p := ⟨lb, lo + n1, none⟩) (cell_lt HD1.out)).trans HD1.out
                  have HA := Lib.hid hA
                  have hsz : (wr.alloc (.cells #[.string nm, .int .i64 (n1 : Int)] 40)).heap.size = wr.heap.size + 1 := World.size_alloc ..
                  generalize wr.alloc (.cells #[.string nm, .int .i64 (n1 : Int)] 40) = W3 at HA c1 c2 hq1 hd1 hsz HNB ⊢
                  have HSZ := Lib.hid hsz
                  have HW4 := Lib.hid (show Below wr.heap.size wr (W3.alloc (.cells #[.string wOutput, .string nm, .string y] 9)).drew from (HA.out.alloc HA.out.size _).drew)
                  have HKS := Lib.hid (fun (w4 : World) (h2 : Below w1.heap.size (W3.alloc (.cells #[.string wOutput, .string nm, .string y] 9)).drew w4) (h3 : KeptB w1.heap.size (W3.alloc (.cells #[.string wOutput, .string nm, .string y] 9)).drew w4) => (fun z => (⟨z.1, z.2.1, z.2.2.1, z.2.2.2.1⟩ : w4.cell? ⟨w.heap.size, 0, none⟩ = _ ∧ w4.cell? ⟨wr.heap.size, 0, none⟩ = _ ∧ w4.cell? ⟨wr.heap.size, 1, none⟩ = _ ∧ w4.cell? ⟨lb, lo + n1, none⟩ = _)) (pr_held (T := 40) (by decide) HB.out HBL.out.lt HW4.out HNB.out HSZ.out hlw HQ1.out HD1.out HD1.out h2 h3))
                  clear hA hsz g1' g2'
                  go_region_held3 (fun V => V.cell? ⟨w.heap.size, 0, none⟩ = some (.slice (some ⟨lb, lo, none⟩) st.L.length k0) ∧ V.cell? ⟨wr.heap.size, 0, none⟩ = some (.string nm) ∧ V.cell? ⟨wr.heap.size, 1, none⟩ = some (.int .i64 (n1 : Int)) ∧ V.cell? ⟨lb, lo + n1, none⟩ = some (.string y))
                    (first
                      | (go_keep; done)
                      | exact HKS.out _ h2 h3)
                    ((go_at_call 14
                      refine (line6_any w1.heap.size w1.heap.size _ [wOutput, nm, y] W3.heap.size 0 3 _ (HBL.out.on HW4.out) (three_cells W3 wOutput nm y _ rfl) (by simp) (by simp) (by simp) (Nat.le_trans HFI.out (by decide)) (Nat.le_trans HB.out.size HW4.out.size)).mono ?_
                      rintro e w4 ⟨rfl, h1, h2, h3, h4⟩))
                  have H1 := Lib.hid h1
                  have H2 := Lib.hid (HB.out.trans ((HW4.out.mono HB.out.size).trans h2))
                  clear h1 h2 h3 h4
                  go_wp2_with fail
                  go_roundw
                  case rel => exact ⟨i + 1, by omega, by go_num, by rw [← HLV.out, ← List.append_assoc, wordsL_snoc]; exact H1.out, H2.out⟩
                  case measure => simp [intOf]; omega
                · have hie : i = st.O.length := by omega
                  subst hie
                  have q4 := (HB.out.cell (p := ⟨w.heap.size, 4, none⟩) hlw).trans (HCC.out 4 _ rfl)
                  have HPW := Lib.hid (HPW1.out.below HB.out)
                  have hD := HD.out
                  have HLV := Lib.hid (show wordsL (levW st st.L.length ++ flowW st cs cs.length ++ chanW wInput st st.I st.I.length ++ chanW wOutput st st.O st.O.length) ++ lineL ([wDepth, num st.D].map (·.data.toList)) = printL st S by
                    rw [← wordsL_snoc, HECS.out, up_all, printL_words])
                  have HFI := Lib.hid (show (wordsL (levW st st.L.length ++ flowW st cs cs.length ++ chanW wInput st st.I st.I.length ++ chanW wOutput st st.O st.O.length)).length + (lineL ([wDepth, num st.D].map (·.data.toList))).length ≤ 65536 by
                    rw [← List.length_append, HLV.out]
                    exact HFIT.out)
                  go_wp2_with (go_at_call 18; refine (show_any st.D (wf6 (by omega) (by omega)) _ HPW.out).mono ?_; rintro e w5 ⟨rfl, hb⟩; have HB5 := Lib.hid (HB.out.trans (hb.mono HB.out.size)); have HBL5 := Lib.hid (HBL.out.on hb); clear hb)
                  have HB6 := Lib.hid (HB5.out.alloc HB5.out.size (.cells #[.string wDepth, .string (num st.D)] 9))
                  refine (line6_any w1.heap.size w1.heap.size _ [wDepth, num st.D] w5.heap.size 0 2 _ (HBL5.out.on ((Below.refl _ _).alloc (Nat.le_refl _) _)) (two_cells w5 wDepth (num st.D) _) (by simp) (by simp) (by simp) (Nat.le_trans HFI.out (by decide)) HB6.out.size).mono ?_
                  rintro e w6 ⟨rfl, h1, h2, h3, h4⟩
                  rw [HLV.out] at h1
                  have H1 := Lib.hid h1
                  have H2 := Lib.hid (HB6.out.trans h2)
                  clear h1 h2 h3 h4
                  go_wp2_with fail
                  refine (Tryz.Builder_String_any_k w1.heap.size w1.heap.size (printL st S) _ H1.out H2.out.size).mono ?_
                  rintro e w7 ⟨rfl, h1, h2, h3⟩
                  have H3 := Lib.hid (HB0.out.trans ((HB1.out.mono HB0.out.size).trans ((H2.out.trans h2).mono (Nat.le_trans HB0.out.size HB1.out.size))))
                  clear h1 h2 h3
                  go_wp2_with fail
                  go_ret2
                  exact ⟨⟨_, rfl, rfl⟩, H3.out⟩
end Go.Proofs.YthjfgfgkbfhdfaaGreatDoor

/-! policy: the reference's Print -/
namespace Go.Proofs.YthjfgfgkbfhdfaaGreatDoor
open Go.RowKit
set_option maxRecDepth 100000 in
set_option maxHeartbeats 3200000 in
theorem rprint6_no (v0 v1 v2 v3 : Value) (st : PSt) (S : List Int) (w : World) (h : PolIn w v0 v1 v2 v3 st S) (hw : Wide S) (hsh : ∀ j, j < st.L.length → (wd6 st.L j).size ≤ 140737488351232)
    (hsi : ∀ j, j < st.I.length → (chAt st.I j).1.size ≤ 140737488351232) (hso : ∀ j, j < st.O.length → (chAt st.O j).1.size ≤ 140737488351232) (hr : rightP st S = false) :
    Calls Tryz.prog 8 #[.agg #[v0, v1, v2, v3, .int .i64 st.D]] w fun e w' => e = .returned (.tuple #[.string ⟨#[]⟩, .int .i64 1]) ∧ Below w.heap.size w w' := by
  have HB0 := Lib.hid (show Below w.heap.size w (w.alloc (.cells #[v0, v1, v2, v3, .int .i64 st.D] 26)) from (Below.refl _ _).alloc (Nat.le_refl _) _)
  have HP0 := Lib.hid (h.below HB0.out)
  have hcs := pol_cells w v0 v1 v2 v3 (.int .i64 st.D) 26
  have HR := Lib.hid hr
  have HZ := Lib.hid hsh
  have HZI := Lib.hid hsi
  have HZO := Lib.hid hso
  clear h hr hsh hsi hso
  have c0 := hcs 0 _ rfl
  have c1 := hcs 1 _ rfl
  have c2 := hcs 2 _ rfl
  have c3 := hcs 3 _ rfl
  have c4 := hcs 4 _ rfl
  clear hcs
  go_enter Tryz.func8, Tryz.ntmps8
  go_wp2_with fail
  refine (rright6_any v0 v1 v2 v3 st S _ HP0.out hw HZ.out HZI.out HZO.out).mono ?_
  rintro e w1 ⟨rfl, hb⟩
  rw [HR.out]
  have HB1 := Lib.hid (HB0.out.trans (hb.mono HB0.out.size))
  clear hb
  go_wp2_with fail
  go_ret2
  exact ⟨rfl, HB1.out⟩
theorem list_size (T : ByteArray) : T.data.toList.length = T.size := by simp
theorem line2_bytes (T A x W : ByteArray) (hA : A.data.toList = W.data.toList ++ [32]) : (T ++ (A ++ x ++ ⟨#[10]⟩)).data.toList = T.data.toList ++ lineL ([W, x].map (·.data.toList)) := by
  simp [ByteArray.data_append, hA, lineL]
theorem line2b_bytes (T A x W : ByteArray) (hA : A.data.toList = W.data.toList ++ [32]) : (T ++ A ++ x ++ ⟨#[10]⟩).data.toList = T.data.toList ++ lineL ([W, x].map (·.data.toList)) := by
  simp [ByteArray.data_append, hA, lineL]
theorem line3_bytes (T A x y W : ByteArray) (hA : A.data.toList = W.data.toList ++ [32]) : (T ++ (A ++ x ++ ⟨#[32]⟩ ++ y ++ ⟨#[10]⟩)).data.toList = T.data.toList ++ lineL ([W, x, y].map (·.data.toList)) := by
  simp [ByteArray.data_append, hA, lineL]
set_option maxRecDepth 100000 in
set_option maxHeartbeats 6400000 in
theorem rprint6_yes (v0 v1 v2 v3 : Value) (st : PSt) (S : List Int) (w : World) (h : PolIn w v0 v1 v2 v3 st S) (hw : Wide S) (hsh : ∀ j, j < st.L.length → (wd6 st.L j).size ≤ 140737488351232)
    (hsi : ∀ j, j < st.I.length → (chAt st.I j).1.size ≤ 140737488351232) (hso : ∀ j, j < st.O.length → (chAt st.O j).1.size ≤ 140737488351232) (hr : rightP st S = true) (hfit : (printL st S).length ≤ 65536) :
    Calls Tryz.prog 8 #[.agg #[v0, v1, v2, v3, .int .i64 st.D]] w fun e w' => (∃ T : ByteArray, e = .returned (.tuple #[.string T, .int .i64 0]) ∧ T.data.toList = printL st S) ∧ Below w.heap.size w w' := by
  have hl0 := h.l0
  obtain ⟨a0, k0, rfl⟩ := h.s0.form
  obtain ⟨a1, k1, rfl⟩ := h.s1.form
  obtain ⟨a2, k2, rfl⟩ := h.s2.form
  obtain ⟨a3, k3, rfl⟩ := h.s3.form
  have HB0 := Lib.hid (show Below w.heap.size w (w.alloc (.cells #[.slice a0 st.L.length k0, .slice a1 S.length k1, .slice a2 st.I.length k2, .slice a3 st.O.length k3, .int .i64 st.D] 26)) from (Below.refl _ _).alloc (Nat.le_refl _) _)
  have HP0 := Lib.hid (h.below HB0.out)
  have hcs := pol_cells w (.slice a0 st.L.length k0) (.slice a1 S.length k1) (.slice a2 st.I.length k2) (.slice a3 st.O.length k3) (.int .i64 st.D) 26
  have HC0 := Lib.hid hcs
  have hpt := rightP_parts hr
  have h64 : st.L.length ≤ 64 := by have := (LL.ord_len (LL.right_ord hpt.2.2.1)).2; omega
  have HSL := Lib.hid hpt.2.1
  have HRS := Lib.hid hpt.2.2.1
  have HCV := Lib.hid (show ∀ p ∈ LL.coversL S, p.1 < st.L.length ∧ p.2 < st.L.length from fun p hp => by have := LL.covers_ok S p hp; omega)
  have HCN := Lib.hid (LL.covers_few hpt.2.2.1 hw)
  have HD := Lib.hid hpt.1
  have HIC := Lib.hid (chans_split hpt.2.2.2.2.1)
  have HOC := Lib.hid (chans_split hpt.2.2.2.2.2)
  have HR := Lib.hid hr
  have HFIT := Lib.hid hfit
  have HZ := Lib.hid hsh
  have HZI := Lib.hid hsi
  have HZO := Lib.hid hso
  clear h hr hsh hsi hso hfit hpt
  have c0 := hcs 0 _ rfl
  have c1 := hcs 1 _ rfl
  have c2 := hcs 2 _ rfl
  have c3 := hcs 3 _ rfl
  have c4 := hcs 4 _ rfl
  clear hcs
  go_enter Tryz.func8, Tryz.ntmps8
  go_wp2_with fail
  refine (rright6_any _ _ _ _ st S _ HP0.out hw HZ.out HZI.out HZO.out).mono ?_
  rintro e w1 ⟨rfl, hb⟩
  rw [HR.out]
  have HB1 := Lib.hid (HB0.out.trans (hb.mono HB0.out.size))
  have HP1 := Lib.hid (HP0.out.below hb)
  have HCC := Lib.hid (fun c u hu => (hb.cell (p := ⟨w.heap.size, c, none⟩) (by simp)).trans (HC0.out c u hu))
  clear hb c0 c1 c2 c3 c4
  have q0 := HCC.out 0 _ rfl
  go_wp2_with fail
  go_loopw [4, 5] (fun u k wr => ∃ (i : Nat) (T : ByteArray), i ≤ st.L.length ∧ k = .int .i64 (i : Int) ∧ u = .string T ∧ RowKit.Hid (T.data.toList = wordsL (levW st i)) ∧ w1 = wr) (fun _ k _ => st.L.length - (intOf k).toNat)
  case atStart => exact ⟨0, ⟨#[]⟩, Nat.zero_le _, rfl, rfl, Lib.hid rfl, rfl⟩
  case round =>
    obtain ⟨i, T, hi, rfl, rfl, HT, rfl⟩ := hrel
    have q1 := q0
    by_cases hlt : i < st.L.length
    · have i1 : (0 : Int) ≤ i ∧ (i : Int) < st.L.length := by omega
      obtain ⟨lb, lo, ea, _, d1⟩ := HP1.out.s0.at hlt
      subst ea
      have HLV := Lib.hid (levW_succ hlt)
      have HFI := Lib.hid (show T.size + (lineL ([wLevel, wd6 st.L i].map (·.data.toList))).length ≤ 65536 by
        rw [← list_size, HT.out, ← List.length_append, ← wordsL_snoc, HLV.out]
        exact Nat.le_trans (lev_fit st S (i + 1)) HFIT.out)
      obtain ⟨x, ex⟩ : ∃ x, x = wd6 st.L i := ⟨_, rfl⟩
      rw [← ex] at d1 HLV HFI
      clear ex
      have hx1 : T.size + x.size + 7 ≤ 65536 := by have := HFI.out; rw [List.map_cons, List.map_cons, List.map_nil, line2, list_size, list_size] at this; have e : wLevel.size = 5 := rfl; omega
      go_wp2_with fail
      go_roundw
      case rel => exact ⟨i + 1, _, by omega, by go_num, rfl, Lib.hid (by rw [← HLV.out, wordsL_snoc, ← HT.out]; exact line2_bytes _ _ _ wLevel rfl), (by first | rfl | trivial)⟩
      case measure => simp [intOf]; omega
    · have hie : i = st.L.length := by omega
      subst hie
      have HT1 := HT
      clear HT q1
      have q1 := HCC.out 1 _ rfl
      go_wp2_with (go_at_call 20; refine (rcovers_any (.slice a1 S.length k1) S w1.heap.size _ HP1.out.s1 (Nat.le_refl _) hw (by have := HSL.out; omega)).mono ?_; rintro e w2 ⟨u, rfl, hown, hb⟩; have HPR := Lib.hid (prs5_of_row hown); obtain ⟨ua, uc, rfl⟩ := HPR.out.form; have HB2 := Lib.hid hb; clear hown hb)
      have hcn : (LL.coversL S).length ≤ 535 := HCN.out
      have HWF := Lib.hid (fun i => flowW_succ (st := st) (cs := LL.coversL S) (i := i))
      have HFT := Lib.hid (fun i => Nat.le_trans (up_fit2 st S i) HFIT.out)
      have HCA := Lib.hid (show ∀ i, i < (LL.coversL S).length → (prAt (LL.coversL S) i).1 < st.L.length ∧ (prAt (LL.coversL S) i).2 < st.L.length from fun i hi => HCV.out _ (by unfold prAt; rw [List.getElem?_eq_getElem hi]; exact List.getElem_mem hi))
      clear q0 q1
      obtain ⟨cs, ecs⟩ : ∃ cs, cs = LL.coversL S := ⟨_, rfl⟩
      have HECS := Lib.hid ecs
      rw [← ecs] at HPR HCN hcn HCA HWF HFT ⊢
      clear ecs
      have HCD := Lib.hid (fun c u hu => (HB2.out.cell (p := ⟨w.heap.size, c, none⟩) (cell_lt (HCC.out c u hu))).trans (HCC.out c u hu))
      go_loopw [4, 7] (fun u k wr => ∃ (i d : Nat) (T : ByteArray), i ≤ cs.length ∧ k = .int .i64 (i : Int) ∧ u = .string T ∧ RowKit.Hid (T.data.toList = wordsL (levW st st.L.length ++ flowW st cs i)) ∧ w2.drewN d = wr) (fun _ k _ => cs.length - (intOf k).toNat)
      case atStart => exact ⟨0, 0, _, Nat.zero_le _, rfl, rfl, Lib.hid (by have := HT1.out; simpa [flowW] using this), rfl⟩
      case round =>
        obtain ⟨i, d, T, hi, rfl, rfl, HT, rfl⟩ := hrel
        clear HT1
        by_cases hlt : i < cs.length
        · have i1 : (0 : Int) ≤ i ∧ (i : Int) < cs.length := by omega
          obtain ⟨pb, po, eua, g1, g2⟩ := prs_at HPR.out hlt
          subst eua
          have g1' := g1
          have g2' := g2
          clear g1 g2
          obtain ⟨hn1, hn2⟩ := HCA.out i hlt
          have HLV := Lib.hid (HWF.out i hlt)
          have HFI := Lib.hid (show T.size + (lineL ([wFlow, wd6 st.L (prAt cs i).1, wd6 st.L (prAt cs i).2].map (·.data.toList))).length ≤ 65536 by
            rw [← list_size, HT.out, ← List.length_append, ← wordsL_snoc, List.append_assoc, HLV.out]
            exact HFT.out (i + 1))
          obtain ⟨n1, e1⟩ : ∃ n, n = (prAt cs i).1 := ⟨_, rfl⟩
          obtain ⟨n2, e2⟩ : ∃ n, n = (prAt cs i).2 := ⟨_, rfl⟩
          rw [← e1] at hn1 g1' HLV HFI
          rw [← e2] at hn2 g2' HLV HFI
          clear e1 e2
          have i2 : (0 : Int) ≤ n1 ∧ (n1 : Int) < st.L.length := by omega
          have i3 : (0 : Int) ≤ n2 ∧ (n2 : Int) < st.L.length := by omega
          obtain ⟨lb, lo, ea, _, d1⟩ := HP1.out.s0.at hn1
          subst ea
          obtain ⟨lb2, lo2, ea, _, d2⟩ := HP1.out.s0.at hn2
          cases ea
          obtain ⟨x, ex⟩ : ∃ x, x = wd6 st.L n1 := ⟨_, rfl⟩
          obtain ⟨y, ey⟩ : ∃ y, y = wd6 st.L n2 := ⟨_, rfl⟩
          rw [← ex] at d1 HLV HFI
          rw [← ey] at d2 HLV HFI
          clear ex ey
          have q1 := HCD.out 0 _ rfl
          have d1' := (HB2.out.cell (cell_lt d1)).trans d1
          have d2' := (HB2.out.cell (cell_lt d2)).trans d2
          have hx1 : T.size + x.size + y.size + 7 ≤ 65536 := by have := HFI.out; rw [List.map_cons, List.map_cons, List.map_cons, List.map_nil, line3, list_size, list_size, list_size] at this; have e : wFlow.size = 4 := rfl; omega
          clear d1 d2
          go_wp2_with fail
          go_quiet (fail)
          go_wp2_with fail
          go_roundw
          case rel => exact ⟨i + 1, d + nq, _, by omega, by go_num, rfl, Lib.hid (by rw [← HLV.out, ← List.append_assoc, wordsL_snoc, ← HT.out]; exact line3_bytes _ _ _ _ wFlow rfl), (by first | rfl | trivial | exact (World.drewN_drewN _ _ _).symm)⟩
          case measure => simp [intOf]; omega
        · have hie : i = cs.length := by omega
          subst hie
          have HT1 := HT
          clear HT HPR HWF HFT HCA
          have q2 := HCD.out 2 _ rfl
          have hcl : st.I.length ≤ 32 := HIC.out.1
          have HWF := Lib.hid (fun i => chanW_succ (wd := wInput) (st := st) (cs := st.I) (i := i))
          have HFT := Lib.hid (fun i => Nat.le_trans (up_fit3 st S i) HFIT.out)
          rw [← HECS.out] at HFT
          go_wp2_with fail
          go_loopw [4, 8] (fun u k wr => ∃ (i d : Nat) (T : ByteArray), i ≤ st.I.length ∧ k = .int .i64 (i : Int) ∧ u = .string T ∧ RowKit.Hid (T.data.toList = wordsL (levW st st.L.length ++ flowW st cs cs.length ++ chanW wInput st st.I i)) ∧ w2.drewN d = wr) (fun _ k _ => st.I.length - (intOf k).toNat)
          case atStart => exact ⟨0, d, _, Nat.zero_le _, rfl, rfl, Lib.hid (by have := HT1.out; simpa [chanW] using this), rfl⟩
          case round =>
            obtain ⟨i, d, T, hi, rfl, rfl, HT, rfl⟩ := hrel
            clear HT1
            by_cases hlt : i < st.I.length
            · have i1 : (0 : Int) ≤ i ∧ (i : Int) < st.I.length := by omega
              obtain ⟨cb, co, ea2, g1, g2⟩ := HP1.out.s2.at hlt
              subst ea2
              have g1' := (HB2.out.cell (cell_lt g1)).trans g1
              have g2' := (HB2.out.cell (cell_lt g2)).trans g2
              clear g1 g2
              have HLV := Lib.hid (HWF.out i hlt)
              have HFI := Lib.hid (show T.size + (lineL ([wInput, (chAt st.I i).1, wd6 st.L (chAt st.I i).2.toNat].map (·.data.toList))).length ≤ 65536 by
                rw [← list_size, HT.out, ← List.length_append, ← wordsL_snoc, List.append_assoc, HLV.out]
                exact HFT.out (i + 1))
              have hlv := ch_lev HIC.out.2.1 hlt
              obtain ⟨x, enm⟩ : ∃ nm, nm = (chAt st.I i).1 := ⟨_, rfl⟩
              obtain ⟨n1, en1⟩ : ∃ n : Nat, (chAt st.I i).2 = (n : Int) := ⟨(chAt st.I i).2.toNat, by omega⟩
              rw [← enm] at g1' HLV HFI
              rw [en1] at g2' HLV HFI hlv
              rw [Int.toNat_natCast] at HLV HFI
              clear enm en1
              have hn1 : n1 < st.L.length := by omega
              have i2 : (0 : Int) ≤ n1 ∧ (n1 : Int) < st.L.length := by omega
              obtain ⟨lb, lo, ea, _, d1⟩ := HP1.out.s0.at hn1
              subst ea
              obtain ⟨y, ey⟩ : ∃ y, y = wd6 st.L n1 := ⟨_, rfl⟩
              rw [← ey] at d1 HLV HFI
              have d1' := (HB2.out.cell (cell_lt d1)).trans d1
              clear ey hlv d1
              have q1 := HCD.out 0 _ rfl
              have hx1 : T.size + x.size + y.size + 7 ≤ 65536 := by have := HFI.out; rw [List.map_cons, List.map_cons, List.map_cons, List.map_nil, line3, list_size, list_size, list_size] at this; have e : wInput.size = 5 := rfl; omega
              go_wp2_with fail
              go_quiet (fail)
              go_wp2_with fail
              go_roundw
              case rel => exact ⟨i + 1, d + nq, _, by omega, by go_num, rfl, Lib.hid (by rw [← HLV.out, ← List.append_assoc, wordsL_snoc, ← HT.out]; exact line3_bytes _ _ _ _ wInput rfl), (by first | rfl | trivial | exact (World.drewN_drewN _ _ _).symm)⟩
              case measure => simp [intOf]; omega
            · have hie : i = st.I.length := by omega
              subst hie
              have HT1 := HT
              clear HT HWF HFT
              have q3 := HCD.out 3 _ rfl
              have hol : st.O.length ≤ 32 := HOC.out.1
              have HWF := Lib.hid (fun i => chanW_succ (wd := wOutput) (st := st) (cs := st.O) (i := i))
              have HFT := Lib.hid (fun i => Nat.le_trans (up_fit4 st S i) HFIT.out)
              rw [← HECS.out] at HFT
              go_wp2_with fail
              go_loopw [4, 9] (fun u k wr => ∃ (i d : Nat) (T : ByteArray), i ≤ st.O.length ∧ k = .int .i64 (i : Int) ∧ u = .string T ∧ RowKit.Hid (T.data.toList = wordsL (levW st st.L.length ++ flowW st cs cs.length ++ chanW wInput st st.I st.I.length ++ chanW wOutput st st.O i)) ∧ w2.drewN d = wr) (fun _ k _ => st.O.length - (intOf k).toNat)
              case atStart => exact ⟨0, d, _, Nat.zero_le _, rfl, rfl, Lib.hid (by have := HT1.out; simpa [chanW] using this), rfl⟩
              case round =>
                obtain ⟨i, d, T, hi, rfl, rfl, HT, rfl⟩ := hrel
                clear HT1
                by_cases hlt : i < st.O.length
                · have i1 : (0 : Int) ≤ i ∧ (i : Int) < st.O.length := by omega
                  obtain ⟨cb, co, ea2, g1, g2⟩ := HP1.out.s3.at hlt
                  subst ea2
                  have g1' := (HB2.out.cell (cell_lt g1)).trans g1
                  have g2' := (HB2.out.cell (cell_lt g2)).trans g2
                  clear g1 g2
                  have HLV := Lib.hid (HWF.out i hlt)
                  have HFI := Lib.hid (show T.size + (lineL ([wOutput, (chAt st.O i).1, wd6 st.L (chAt st.O i).2.toNat].map (·.data.toList))).length ≤ 65536 by
                    rw [← list_size, HT.out, ← List.length_append, ← wordsL_snoc, List.append_assoc, HLV.out]
                    exact HFT.out (i + 1))
                  have hlv := ch_lev HOC.out.2.1 hlt
                  obtain ⟨x, enm⟩ : ∃ nm, nm = (chAt st.O i).1 := ⟨_, rfl⟩
                  obtain ⟨n1, en1⟩ : ∃ n : Nat, (chAt st.O i).2 = (n : Int) := ⟨(chAt st.O i).2.toNat, by omega⟩
                  rw [← enm] at g1' HLV HFI
                  rw [en1] at g2' HLV HFI hlv
                  rw [Int.toNat_natCast] at HLV HFI
                  clear enm en1
                  have hn1 : n1 < st.L.length := by omega
                  have i2 : (0 : Int) ≤ n1 ∧ (n1 : Int) < st.L.length := by omega
                  obtain ⟨lb, lo, ea, _, d1⟩ := HP1.out.s0.at hn1
                  subst ea
                  obtain ⟨y, ey⟩ : ∃ y, y = wd6 st.L n1 := ⟨_, rfl⟩
                  rw [← ey] at d1 HLV HFI
                  have d1' := (HB2.out.cell (cell_lt d1)).trans d1
                  clear ey hlv d1
                  have q1 := HCD.out 0 _ rfl
                  have hx1 : T.size + x.size + y.size + 7 ≤ 65536 := by have := HFI.out; rw [List.map_cons, List.map_cons, List.map_cons, List.map_nil, line3, list_size, list_size, list_size] at this; have e : wOutput.size = 6 := rfl; omega
                  go_wp2_with fail
                  go_quiet (fail)
                  go_wp2_with fail
                  go_roundw
                  case rel => exact ⟨i + 1, d + nq, _, by omega, by go_num, rfl, Lib.hid (by rw [← HLV.out, ← List.append_assoc, wordsL_snoc, ← HT.out]; exact line3_bytes _ _ _ _ wOutput rfl), (by first | rfl | trivial | exact (World.drewN_drewN _ _ _).symm)⟩
                  case measure => simp [intOf]; omega
                · have hie : i = st.O.length := by omega
                  subst hie
                  have HT1 := HT
                  clear HT HWF HFT
                  have q4 := HCD.out 4 _ rfl
                  have hD := HD.out
                  have HLV := Lib.hid (show wordsL (levW st st.L.length ++ flowW st cs cs.length ++ chanW wInput st st.I st.I.length ++ chanW wOutput st st.O st.O.length) ++ lineL ([wDepth, num st.D].map (·.data.toList)) = printL st S by
                    rw [← wordsL_snoc, HECS.out, up_all, printL_words])
                  have HFI := Lib.hid (show T.size + (lineL ([wDepth, num st.D].map (·.data.toList))).length ≤ 65536 by
                    rw [← list_size, HT1.out, ← List.length_append, HLV.out]
                    exact HFIT.out)
                  obtain ⟨y, ey⟩ : ∃ y, y = num st.D := ⟨_, rfl⟩
                  have HY := Lib.hid ey
                  rw [← ey] at HLV HFI
                  clear ey
                  have hx1 : T.size + y.size + 7 ≤ 65536 := by have := HFI.out; rw [List.map_cons, List.map_cons, List.map_nil, line2, list_size, list_size] at this; have e : wDepth.size = 5 := rfl; omega
                  go_wp2_with (go_at_call 21; refine (rshow_any st.D (by omega) (by omega) _).mono ?_; rintro e w5 ⟨rfl, dk, rfl⟩; rw [← HY.out])
                  go_ret2
                  exact ⟨⟨_, rfl, by rw [← HLV.out, ← HT1.out]; exact line2b_bytes _ _ _ wDepth rfl⟩, HB1.out.trans ((HB2.out.trans ((below_dn6 w2 (d + dk)).mono HB2.out.size)).mono HB1.out.size)⟩
end Go.Proofs.YthjfgfgkbfhdfaaGreatDoor
