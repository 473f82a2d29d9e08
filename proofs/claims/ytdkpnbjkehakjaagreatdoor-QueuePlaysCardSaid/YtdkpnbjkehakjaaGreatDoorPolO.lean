import Derived.Test.YtdkpnbjkehakjaaGreatDoorPolNM
set_option linter.unusedSimpArgs false
set_option linter.unusedVariables false
/-! policy: the lines of inputs and outputs -/
namespace Go.Proofs.YtdkpnbjkehakjaaGreatDoor
open Go.RowKit

theorem bdrew6 {w w' : World} (h : Below w.drew.heap.size w.drew w') : Below w.heap.size w w' := (below_drewN (Below.refl _ _) 1).trans h
theorem chans_on {w W : World} {v : Value} {cs : List (ByteArray × Int)} (h : Chans w.heap.size w v cs) (hb : Below w.heap.size w W) : Chans W.heap.size W v cs := (h.below hb).mono hb.size
theorem strs_on {w W : World} {v : Value} {cs : List ByteArray} (h : Strs w.heap.size w v cs) (hb : Below w.heap.size w W) : Strs W.heap.size W v cs := (h.below hb).mono hb.size
theorem lt_dec {i : Int} (h : i < 0) : decide (i < 0) = true := decide_eq_true h
theorem lt_decf {i : Int} (h : ¬ i < 0) : decide (i < 0) = false := decide_eq_false h
def chanIP (st : PSt) (ws : List ByteArray) : PSt × Int :=
  if ws.length ≠ 3 then (st, 8) else if pnameB (wd6 ws 1) = false then (st, 8) else if 0 ≤ chanI st.I (wd6 ws 1) then (st, 9) else if levelI st.L (wd6 ws 2) < 0 then (st, 10) else if st.I.length = 32 then (st, 3) else ({ st with I := st.I ++ [((wd6 ws 1), levelI st.L (wd6 ws 2))] }, 0)

set_option maxRecDepth 100000 in
set_option maxHeartbeats 6400000 in
theorem chanI_any (B r n : Nat) (v : Value) (ws : List ByteArray) (w : World) (vL vI vO vF : Value) (st : PSt) (hS : RSt B r w vL vI vO vF st) (hv : Strs n w v ws) (hn : n ≤ w.heap.size) (hf : FreeV r w v) (hz : ∀ j, (wd6 ws j).size ≤ 65536) :
    Calls Tryz.prog 93 #[.pointer (some ⟨r, 0, none⟩), .pointer (some ⟨r, 2, none⟩), v] w (LineP B r w (chanIP st ws)) := by
  obtain ⟨i0, hi, hz0, hz1, hz2⟩ := info_parts Tryz.infoChan6
  obtain ⟨aX, capX, hX⟩ : ∃ a cap, vI = .slice a st.I.length cap := (hS.ins).form
  subst hX
  by_cases hl : ws.length = 3
  · obtain ⟨b, off, cap, hve, hb, hcap, hc⟩ := hv.one (by omega)
    have hc1 := hc 1 (by omega)
    have hc2 := hc 2 (by omega)
    have hz1' := hz 1
    rw [hl] at hve hcap
    obtain ⟨_, _, fI, fO, _⟩ := (hf b (by rw [hve]; rfl)).not hS
    have HS := Lib.hid hS
    have hP : chanIP st ws = if pnameB (wd6 ws 1) = false then (st, 8) else if 0 ≤ chanI st.I (wd6 ws 1) then (st, 9) else if levelI st.L (wd6 ws 2) < 0 then (st, 10) else if st.I.length = 32 then (st, 3) else ({ st with I := st.I ++ [((wd6 ws 1), levelI st.L (wd6 ws 2))] }, 0) := by
      unfold chanIP; rw [if_neg (by omega)]
    rw [hP]
    clear hP hc hl hz hv hf
    subst hve
    generalize wd6 ws 1 = s at *
    generalize wd6 ws 2 = t at *
    have hbw : b < w.heap.size := by omega
    have HC := Lib.hid hc1
    have HC2 := Lib.hid hc2
    clear hc1 hc2 hS
    cases hp : pnameB s
    · rw [if_pos rfl]
      go_enter Tryz.func93, Tryz.ntmps93
      have hc1 := HC.out
      go_wp2_with fail
      refine (isname_any s _ (by omega)).mono ?_
      rintro e w1 ⟨rfl, hb1⟩
      rw [hp]
      go_wp2_with fail
      go_ret
      exact LineP.same HS.out hb1 rfl
    · rw [if_neg (by decide)]
      have hx : st.I.length ≤ 9223372036854775807 := by have := HS.out.nI; omega
      have hxL : st.L.length ≤ 9223372036854775807 := by have := HS.out.nL; omega
      have hr := level_range st.L t
      have hrc := chan_range st.I s
      by_cases h3 : 0 ≤ chanI st.I s
      · rw [if_pos h3]
        have HD := Lib.hid (decide_eq_true h3)
        clear h3
        go_enter Tryz.func93, Tryz.ntmps93
        have hc1 := HC.out
        go_wp2_with fail
        refine (isname_any s _ (by omega)).mono ?_
        rintro e w1 ⟨rfl, hb1⟩
        rw [hp]
        have HS1 := Lib.hid (HS.out.below hb1)
        obtain ⟨_, _, c2, c3, _, _⟩ := rObj_cell HS1.out.obj
        have hd1 := (hb1.cell (p := ⟨b, off + 1, none⟩) hbw).trans HC.out
        have HV := Lib.hid HS1.out.ins
        clear hc1
        go_wp2_with fail
        have hrl := HS1.out.lt
        have hbl : b < w1.heap.size := Nat.lt_of_lt_of_le hbw hb1.size
        go_region_held3 (fun W => W.cell? ⟨r, 2, none⟩ = some (.slice aX st.I.length capX) ∧ W.cell? ⟨b, off + 1, none⟩ = some (.string s))
          (first
            | (go_keep; done)
            | exact ⟨(hb2.cell (p := ⟨r, 2, none⟩) hrl).trans c2, (hb2.cell (p := ⟨b, off + 1, none⟩) hbl).trans hd1⟩)
          ((go_at_call 104; refine (find_chans _ _ _ _ (chans_on HV.out ((below_drewN (Below.refl _ _) 1))) hx).mono ?_; rintro e w2 ⟨rfl, hb2'⟩; have hb2 := bdrew6 hb2'; clear hb2'))
        rw [HD.out]
        go_wp2_with fail
        go_ret
        exact LineP.same HS.out (bstep hb1 hb2) rfl
      · rw [if_neg h3]
        have HD := Lib.hid (decide_eq_false h3)
        clear h3
        by_cases h4 : levelI st.L t < 0
        · rw [if_pos h4]
          have e4 := lt_dec h4
          clear h4
          go_enter Tryz.func93, Tryz.ntmps93
          have hc1 := HC.out
          go_wp2_with fail
          refine (isname_any s _ (by omega)).mono ?_
          rintro e w1 ⟨rfl, hb1⟩
          rw [hp]
          have HS1 := Lib.hid (HS.out.below hb1)
          obtain ⟨_, _, c2, c3, _, _⟩ := rObj_cell HS1.out.obj
          have hd1 := (hb1.cell (p := ⟨b, off + 1, none⟩) hbw).trans HC.out
          have HV := Lib.hid HS1.out.ins
          clear hc1
          go_wp2_with fail
          have hrl := HS1.out.lt
          have hbl : b < w1.heap.size := Nat.lt_of_lt_of_le hbw hb1.size
          go_region_held3 (fun W => W.cell? ⟨r, 2, none⟩ = some (.slice aX st.I.length capX) ∧ W.cell? ⟨b, off + 1, none⟩ = some (.string s))
            (first
              | (go_keep; done)
              | exact ⟨(hb2.cell (p := ⟨r, 2, none⟩) hrl).trans c2, (hb2.cell (p := ⟨b, off + 1, none⟩) hbl).trans hd1⟩)
            ((go_at_call 104; refine (find_chans _ _ _ _ (chans_on HV.out ((below_drewN (Below.refl _ _) 1))) hx).mono ?_; rintro e w2 ⟨rfl, hb2'⟩; have hb2 := bdrew6 hb2'; clear hb2'))
          rw [HD.out]
          have HS2 := Lib.hid (HS1.out.below hb2)
          have HB2 := Lib.hid (bstep hb1 hb2)
          obtain ⟨q0, _, q2, q3, _, _⟩ := rObj_cell HS2.out.obj
          have hd1 := (HB2.out.cell (p := ⟨b, off + 1, none⟩) hbw).trans HC.out
          have hd2 := (HB2.out.cell (p := ⟨b, off + 2, none⟩) hbw).trans HC2.out
          have HL := Lib.hid HS2.out.strs
          have hBl : B ≤ w2.heap.size := Nat.le_trans HS2.out.base (Nat.le_of_lt HS2.out.lt)
          go_wp2_with fail
          go_quiet ((go_at_call 63; exact Calls.quiet_of_same (index_q _ _ _ _ _ HL.out hxL)))
          go_wp2_with fail
          go_ret
          exact LineP.same HS.out (below_drewN HB2.out _) rfl
        · rw [if_neg h4]
          have e4 := lt_decf h4
          clear h4
          by_cases h5 : st.I.length = 32
          · rw [if_pos h5]
            have e5 : ((st.I.length : Int) == 32) = true := by rw [beq_iff_eq]; omega
            clear h5
            go_enter Tryz.func93, Tryz.ntmps93
            have hc1 := HC.out
            go_wp2_with fail
            refine (isname_any s _ (by omega)).mono ?_
            rintro e w1 ⟨rfl, hb1⟩
            rw [hp]
            have HS1 := Lib.hid (HS.out.below hb1)
            obtain ⟨_, _, c2, c3, _, _⟩ := rObj_cell HS1.out.obj
            have hd1 := (hb1.cell (p := ⟨b, off + 1, none⟩) hbw).trans HC.out
            have HV := Lib.hid HS1.out.ins
            clear hc1
            go_wp2_with fail
            have hrl := HS1.out.lt
            have hbl : b < w1.heap.size := Nat.lt_of_lt_of_le hbw hb1.size
            go_region_held3 (fun W => W.cell? ⟨r, 2, none⟩ = some (.slice aX st.I.length capX) ∧ W.cell? ⟨b, off + 1, none⟩ = some (.string s))
              (first
                | (go_keep; done)
                | exact ⟨(hb2.cell (p := ⟨r, 2, none⟩) hrl).trans c2, (hb2.cell (p := ⟨b, off + 1, none⟩) hbl).trans hd1⟩)
              ((go_at_call 104; refine (find_chans _ _ _ _ (chans_on HV.out ((below_drewN (Below.refl _ _) 1))) hx).mono ?_; rintro e w2 ⟨rfl, hb2'⟩; have hb2 := bdrew6 hb2'; clear hb2'))
            rw [HD.out]
            have HS2 := Lib.hid (HS1.out.below hb2)
            have HB2 := Lib.hid (bstep hb1 hb2)
            obtain ⟨q0, _, q2, q3, _, _⟩ := rObj_cell HS2.out.obj
            have hd1 := (HB2.out.cell (p := ⟨b, off + 1, none⟩) hbw).trans HC.out
            have hd2 := (HB2.out.cell (p := ⟨b, off + 2, none⟩) hbw).trans HC2.out
            have HL := Lib.hid HS2.out.strs
            have hBl : B ≤ w2.heap.size := Nat.le_trans HS2.out.base (Nat.le_of_lt HS2.out.lt)
            go_wp2_with fail
            go_quiet ((go_at_call 63; exact Calls.quiet_of_same (index_q _ _ _ _ _ HL.out hxL)))
            go_wp2_with fail
            go_ret
            exact LineP.same HS.out (below_drewN HB2.out _) rfl
          · rw [if_neg h5]
            have e5 : ((st.I.length : Int) == 32) = false := by rw [beq_eq_false_iff_ne]; omega
            have h32 : st.I.length < 32 := by have := HS.out.nI; omega
            clear h5
            go_enter Tryz.func93, Tryz.ntmps93
            have hc1 := HC.out
            go_wp2_with fail
            refine (isname_any s _ (by omega)).mono ?_
            rintro e w1 ⟨rfl, hb1⟩
            rw [hp]
            have HS1 := Lib.hid (HS.out.below hb1)
            obtain ⟨_, _, c2, c3, _, _⟩ := rObj_cell HS1.out.obj
            have hd1 := (hb1.cell (p := ⟨b, off + 1, none⟩) hbw).trans HC.out
            have HV := Lib.hid HS1.out.ins
            clear hc1
            go_wp2_with fail
            have hrl := HS1.out.lt
            have hbl : b < w1.heap.size := Nat.lt_of_lt_of_le hbw hb1.size
            go_region_held3 (fun W => W.cell? ⟨r, 2, none⟩ = some (.slice aX st.I.length capX) ∧ W.cell? ⟨b, off + 1, none⟩ = some (.string s))
              (first
                | (go_keep; done)
                | exact ⟨(hb2.cell (p := ⟨r, 2, none⟩) hrl).trans c2, (hb2.cell (p := ⟨b, off + 1, none⟩) hbl).trans hd1⟩)
              ((go_at_call 104; refine (find_chans _ _ _ _ (chans_on HV.out ((below_drewN (Below.refl _ _) 1))) hx).mono ?_; rintro e w2 ⟨rfl, hb2'⟩; have hb2 := bdrew6 hb2'; clear hb2'))
            rw [HD.out]
            have HS2 := Lib.hid (HS1.out.below hb2)
            have HB2 := Lib.hid (bstep hb1 hb2)
            obtain ⟨q0, _, q2, q3, _, _⟩ := rObj_cell HS2.out.obj
            have hd1 := (HB2.out.cell (p := ⟨b, off + 1, none⟩) hbw).trans HC.out
            have hd2 := (HB2.out.cell (p := ⟨b, off + 2, none⟩) hbw).trans HC2.out
            have HL := Lib.hid HS2.out.strs
            have hBl : B ≤ w2.heap.size := Nat.le_trans HS2.out.base (Nat.le_of_lt HS2.out.lt)
            go_wp2_with fail
            go_quiet ((go_at_call 63; exact Calls.quiet_of_same (index_q _ _ _ _ _ HL.out hxL)))
            go_wp2_with fail
            have ar := own_other HS2.out.oI HS2.out.obj (by decide)
            have hrl2 := HS2.out.lt
            have hbl2 : b < w2.heap.size := Nat.lt_of_lt_of_le hbw HB2.out.size
            clear q0 hd2 c2 c3
            have f0 := rObj_frozen (k := 2) HS2.out.obj
            have kA : ∀ m o, ((w2.drewN m).alloc o).cell? ⟨r, 2, none⟩ = some (.slice aX st.I.length capX) := fun m o => (keepAllocE q2 hd1 f0 (drewN_heap _ _)).1
            go_region_law (first
              | (refine step_append_lies _ rfl (.tmp 45) (.tmp 51) 24 rfl B 101 i0 (.agg #[.string ⟨#[]⟩, .int .i64 0]) 2 24 Tryz.underlying24 hi hz0 hz1 hz2 rfl (by decide) (.slice aX st.I.length capX) st.I.length (cellsC st.I) rfl
                  (own_da HS2.out.oI (by first | exact drewN_heap _ _ | exact drewN_heap1 _ _ | rfl) _) ⟨w2.heap.size, 0, none⟩ 1 1 [.string s, .int .i64 (levelI st.L t)] rfl rfl
                  (World.news_of_block (cs := #[.string s, .int .i64 (levelI st.L t)]) (t := 101) (fr := (0, 0)) (new_block (by first | exact drewN_heap _ _ | exact drewN_heap1 _ _ | rfl) rfl)) (by simp [Value.oneCell']) (by decide) (by unfold maxLen; omega) (by omega) (by simp; omega) (w2.heap.size + 1) (by simp) ?_
                 intro g cap2 w3 hown2 hgrow hat hlt2
                 have hnx := Lib.hid (HS2.out.setI (x := (s, levelI st.L t)) (by first | exact below_da _ _ | exact below_da1 _ _) hgrow hown2 (hat.imp id fun e => by rw [e]; simp) h32)
                 obtain ⟨k0, k1, k2⟩ := keepGrown hgrow ar fI (keepAllocE q2 hd1 f0 (by first | exact drewN_heap _ _ | exact drewN_heap1 _ _ | rfl)).1 (keepAllocE q2 hd1 f0 (by first | exact drewN_heap _ _ | exact drewN_heap1 _ _ | rfl)).2.1 (keepAllocE q2 hd1 f0 (by first | exact drewN_heap _ _ | exact drewN_heap1 _ _ | rfl)).2.2
                 clear hown2 hgrow hat hlt2 k1))
            all_goals
              go_wp2_with fail
              go_ret
              exact LineP.next hnx.out.1 ((HS.out.step HB2.out).trans hnx.out.2) (Below.refl _ _) rfl
  · have e1 : ((ws.length : Int) != 3) = true := by rw [bne_iff_ne]; omega
    obtain ⟨a, cap, rfl⟩ := hv.form
    have HP := Lib.hid (show chanIP st ws = (st, 8) by unfold chanIP; rw [if_pos hl])
    have HS := Lib.hid hS
    clear hl hv hS
    go_enter Tryz.func93, Tryz.ntmps93
    go_wp2_with fail
    go_ret
    exact LineP.same HS.out (Below.refl _ _) HP.out

set_option maxRecDepth 100000 in
set_option maxHeartbeats 1600000 in
theorem input6_any (B r n : Nat) (v : Value) (ws : List ByteArray) (w : World) (vL vI vO vF : Value) (st : PSt) (hS : RSt B r w vL vI vO vF st) (hv : Strs n w v ws) (hn : n ≤ w.heap.size) (hf : FreeV r w v) (hz : ∀ j, (wd6 ws j).size ≤ 65536) :
    Calls Tryz.prog 73 #[.pointer (some ⟨r, 0, none⟩), v] w (LineP B r w (chanIP st ws)) := by
  have HK := Lib.hid (chanI_any B r n v ws w vL vI vO vF st hS hv hn hf hz)
  clear hS hv hn hf hz
  go_enter Tryz.func73, Tryz.ntmps73
  go_wp2_with fail
  refine HK.out.mono ?_
  rintro e w' ⟨rfl, h1, h2⟩
  have H1 := Lib.hid h1
  have H2 := Lib.hid h2
  clear h1 h2
  go_wp2_with fail
  go_ret
  exact ⟨rfl, H1.out, H2.out⟩
def chanOP (st : PSt) (ws : List ByteArray) : PSt × Int :=
  if ws.length ≠ 3 then (st, 8) else if pnameB (wd6 ws 1) = false then (st, 8) else if 0 ≤ chanI st.O (wd6 ws 1) then (st, 9) else if levelI st.L (wd6 ws 2) < 0 then (st, 10) else if st.O.length = 32 then (st, 3) else ({ st with O := st.O ++ [((wd6 ws 1), levelI st.L (wd6 ws 2))] }, 0)

set_option maxRecDepth 100000 in
set_option maxHeartbeats 6400000 in
theorem chanO_any (B r n : Nat) (v : Value) (ws : List ByteArray) (w : World) (vL vI vO vF : Value) (st : PSt) (hS : RSt B r w vL vI vO vF st) (hv : Strs n w v ws) (hn : n ≤ w.heap.size) (hf : FreeV r w v) (hz : ∀ j, (wd6 ws j).size ≤ 65536) :
    Calls Tryz.prog 93 #[.pointer (some ⟨r, 0, none⟩), .pointer (some ⟨r, 3, none⟩), v] w (LineP B r w (chanOP st ws)) := by
  obtain ⟨i0, hi, hz0, hz1, hz2⟩ := info_parts Tryz.infoChan6
  obtain ⟨aX, capX, hX⟩ : ∃ a cap, vO = .slice a st.O.length cap := (hS.outs).form
  subst hX
  by_cases hl : ws.length = 3
  · obtain ⟨b, off, cap, hve, hb, hcap, hc⟩ := hv.one (by omega)
    have hc1 := hc 1 (by omega)
    have hc2 := hc 2 (by omega)
    have hz1' := hz 1
    rw [hl] at hve hcap
    obtain ⟨_, _, fI, fO, _⟩ := (hf b (by rw [hve]; rfl)).not hS
    have HS := Lib.hid hS
    have hP : chanOP st ws = if pnameB (wd6 ws 1) = false then (st, 8) else if 0 ≤ chanI st.O (wd6 ws 1) then (st, 9) else if levelI st.L (wd6 ws 2) < 0 then (st, 10) else if st.O.length = 32 then (st, 3) else ({ st with O := st.O ++ [((wd6 ws 1), levelI st.L (wd6 ws 2))] }, 0) := by
      unfold chanOP; rw [if_neg (by omega)]
    rw [hP]
    clear hP hc hl hz hv hf
    subst hve
    generalize wd6 ws 1 = s at *
    generalize wd6 ws 2 = t at *
    have hbw : b < w.heap.size := by omega
    have HC := Lib.hid hc1
    have HC2 := Lib.hid hc2
    clear hc1 hc2 hS
    cases hp : pnameB s
    · rw [if_pos rfl]
      go_enter Tryz.func93, Tryz.ntmps93
      have hc1 := HC.out
      go_wp2_with fail
      refine (isname_any s _ (by omega)).mono ?_
      rintro e w1 ⟨rfl, hb1⟩
      rw [hp]
      go_wp2_with fail
      go_ret
      exact LineP.same HS.out hb1 rfl
    · rw [if_neg (by decide)]
      have hx : st.O.length ≤ 9223372036854775807 := by have := HS.out.nO; omega
      have hxL : st.L.length ≤ 9223372036854775807 := by have := HS.out.nL; omega
      have hr := level_range st.L t
      have hrc := chan_range st.O s
      by_cases h3 : 0 ≤ chanI st.O s
      · rw [if_pos h3]
        have HD := Lib.hid (decide_eq_true h3)
        clear h3
        go_enter Tryz.func93, Tryz.ntmps93
        have hc1 := HC.out
        go_wp2_with fail
        refine (isname_any s _ (by omega)).mono ?_
        rintro e w1 ⟨rfl, hb1⟩
        rw [hp]
        have HS1 := Lib.hid (HS.out.below hb1)
        obtain ⟨_, _, c2, c3, _, _⟩ := rObj_cell HS1.out.obj
        have hd1 := (hb1.cell (p := ⟨b, off + 1, none⟩) hbw).trans HC.out
        have HV := Lib.hid HS1.out.outs
        clear hc1
        go_wp2_with fail
        have hrl := HS1.out.lt
        have hbl : b < w1.heap.size := Nat.lt_of_lt_of_le hbw hb1.size
        go_region_held3 (fun W => W.cell? ⟨r, 3, none⟩ = some (.slice aX st.O.length capX) ∧ W.cell? ⟨b, off + 1, none⟩ = some (.string s))
          (first
            | (go_keep; done)
            | exact ⟨(hb2.cell (p := ⟨r, 3, none⟩) hrl).trans c3, (hb2.cell (p := ⟨b, off + 1, none⟩) hbl).trans hd1⟩)
          ((go_at_call 104; refine (find_chans _ _ _ _ (chans_on HV.out ((below_drewN (Below.refl _ _) 1))) hx).mono ?_; rintro e w2 ⟨rfl, hb2'⟩; have hb2 := bdrew6 hb2'; clear hb2'))
        rw [HD.out]
        go_wp2_with fail
        go_ret
        exact LineP.same HS.out (bstep hb1 hb2) rfl
      · rw [if_neg h3]
        have HD := Lib.hid (decide_eq_false h3)
        clear h3
        by_cases h4 : levelI st.L t < 0
        · rw [if_pos h4]
          have e4 := lt_dec h4
          clear h4
          go_enter Tryz.func93, Tryz.ntmps93
          have hc1 := HC.out
          go_wp2_with fail
          refine (isname_any s _ (by omega)).mono ?_
          rintro e w1 ⟨rfl, hb1⟩
          rw [hp]
          have HS1 := Lib.hid (HS.out.below hb1)
          obtain ⟨_, _, c2, c3, _, _⟩ := rObj_cell HS1.out.obj
          have hd1 := (hb1.cell (p := ⟨b, off + 1, none⟩) hbw).trans HC.out
          have HV := Lib.hid HS1.out.outs
          clear hc1
          go_wp2_with fail
          have hrl := HS1.out.lt
          have hbl : b < w1.heap.size := Nat.lt_of_lt_of_le hbw hb1.size
          go_region_held3 (fun W => W.cell? ⟨r, 3, none⟩ = some (.slice aX st.O.length capX) ∧ W.cell? ⟨b, off + 1, none⟩ = some (.string s))
            (first
              | (go_keep; done)
              | exact ⟨(hb2.cell (p := ⟨r, 3, none⟩) hrl).trans c3, (hb2.cell (p := ⟨b, off + 1, none⟩) hbl).trans hd1⟩)
            ((go_at_call 104; refine (find_chans _ _ _ _ (chans_on HV.out ((below_drewN (Below.refl _ _) 1))) hx).mono ?_; rintro e w2 ⟨rfl, hb2'⟩; have hb2 := bdrew6 hb2'; clear hb2'))
          rw [HD.out]
          have HS2 := Lib.hid (HS1.out.below hb2)
          have HB2 := Lib.hid (bstep hb1 hb2)
          obtain ⟨q0, _, q2, q3, _, _⟩ := rObj_cell HS2.out.obj
          have hd1 := (HB2.out.cell (p := ⟨b, off + 1, none⟩) hbw).trans HC.out
          have hd2 := (HB2.out.cell (p := ⟨b, off + 2, none⟩) hbw).trans HC2.out
          have HL := Lib.hid HS2.out.strs
          have hBl : B ≤ w2.heap.size := Nat.le_trans HS2.out.base (Nat.le_of_lt HS2.out.lt)
          go_wp2_with fail
          go_quiet ((go_at_call 63; exact Calls.quiet_of_same (index_q _ _ _ _ _ HL.out hxL)))
          go_wp2_with fail
          go_ret
          exact LineP.same HS.out (below_drewN HB2.out _) rfl
        · rw [if_neg h4]
          have e4 := lt_decf h4
          clear h4
          by_cases h5 : st.O.length = 32
          · rw [if_pos h5]
            have e5 : ((st.O.length : Int) == 32) = true := by rw [beq_iff_eq]; omega
            clear h5
            go_enter Tryz.func93, Tryz.ntmps93
            have hc1 := HC.out
            go_wp2_with fail
            refine (isname_any s _ (by omega)).mono ?_
            rintro e w1 ⟨rfl, hb1⟩
            rw [hp]
            have HS1 := Lib.hid (HS.out.below hb1)
            obtain ⟨_, _, c2, c3, _, _⟩ := rObj_cell HS1.out.obj
            have hd1 := (hb1.cell (p := ⟨b, off + 1, none⟩) hbw).trans HC.out
            have HV := Lib.hid HS1.out.outs
            clear hc1
            go_wp2_with fail
            have hrl := HS1.out.lt
            have hbl : b < w1.heap.size := Nat.lt_of_lt_of_le hbw hb1.size
            go_region_held3 (fun W => W.cell? ⟨r, 3, none⟩ = some (.slice aX st.O.length capX) ∧ W.cell? ⟨b, off + 1, none⟩ = some (.string s))
              (first
                | (go_keep; done)
                | exact ⟨(hb2.cell (p := ⟨r, 3, none⟩) hrl).trans c3, (hb2.cell (p := ⟨b, off + 1, none⟩) hbl).trans hd1⟩)
              ((go_at_call 104; refine (find_chans _ _ _ _ (chans_on HV.out ((below_drewN (Below.refl _ _) 1))) hx).mono ?_; rintro e w2 ⟨rfl, hb2'⟩; have hb2 := bdrew6 hb2'; clear hb2'))
            rw [HD.out]
            have HS2 := Lib.hid (HS1.out.below hb2)
            have HB2 := Lib.hid (bstep hb1 hb2)
            obtain ⟨q0, _, q2, q3, _, _⟩ := rObj_cell HS2.out.obj
            have hd1 := (HB2.out.cell (p := ⟨b, off + 1, none⟩) hbw).trans HC.out
            have hd2 := (HB2.out.cell (p := ⟨b, off + 2, none⟩) hbw).trans HC2.out
            have HL := Lib.hid HS2.out.strs
            have hBl : B ≤ w2.heap.size := Nat.le_trans HS2.out.base (Nat.le_of_lt HS2.out.lt)
            go_wp2_with fail
            go_quiet ((go_at_call 63; exact Calls.quiet_of_same (index_q _ _ _ _ _ HL.out hxL)))
            go_wp2_with fail
            go_ret
            exact LineP.same HS.out (below_drewN HB2.out _) rfl
          · rw [if_neg h5]
            have e5 : ((st.O.length : Int) == 32) = false := by rw [beq_eq_false_iff_ne]; omega
            have h32 : st.O.length < 32 := by have := HS.out.nO; omega
            clear h5
            go_enter Tryz.func93, Tryz.ntmps93
            have hc1 := HC.out
            go_wp2_with fail
            refine (isname_any s _ (by omega)).mono ?_
            rintro e w1 ⟨rfl, hb1⟩
            rw [hp]
            have HS1 := Lib.hid (HS.out.below hb1)
            obtain ⟨_, _, c2, c3, _, _⟩ := rObj_cell HS1.out.obj
            have hd1 := (hb1.cell (p := ⟨b, off + 1, none⟩) hbw).trans HC.out
            have HV := Lib.hid HS1.out.outs
            clear hc1
            go_wp2_with fail
            have hrl := HS1.out.lt
            have hbl : b < w1.heap.size := Nat.lt_of_lt_of_le hbw hb1.size
            go_region_held3 (fun W => W.cell? ⟨r, 3, none⟩ = some (.slice aX st.O.length capX) ∧ W.cell? ⟨b, off + 1, none⟩ = some (.string s))
              (first
                | (go_keep; done)
                | exact ⟨(hb2.cell (p := ⟨r, 3, none⟩) hrl).trans c3, (hb2.cell (p := ⟨b, off + 1, none⟩) hbl).trans hd1⟩)
              ((go_at_call 104; refine (find_chans _ _ _ _ (chans_on HV.out ((below_drewN (Below.refl _ _) 1))) hx).mono ?_; rintro e w2 ⟨rfl, hb2'⟩; have hb2 := bdrew6 hb2'; clear hb2'))
            rw [HD.out]
            have HS2 := Lib.hid (HS1.out.below hb2)
            have HB2 := Lib.hid (bstep hb1 hb2)
            obtain ⟨q0, _, q2, q3, _, _⟩ := rObj_cell HS2.out.obj
            have hd1 := (HB2.out.cell (p := ⟨b, off + 1, none⟩) hbw).trans HC.out
            have hd2 := (HB2.out.cell (p := ⟨b, off + 2, none⟩) hbw).trans HC2.out
            have HL := Lib.hid HS2.out.strs
            have hBl : B ≤ w2.heap.size := Nat.le_trans HS2.out.base (Nat.le_of_lt HS2.out.lt)
            go_wp2_with fail
            go_quiet ((go_at_call 63; exact Calls.quiet_of_same (index_q _ _ _ _ _ HL.out hxL)))
            go_wp2_with fail
            have ar := own_other HS2.out.oO HS2.out.obj (by decide)
            have hrl2 := HS2.out.lt
            have hbl2 : b < w2.heap.size := Nat.lt_of_lt_of_le hbw HB2.out.size
            clear q0 hd2 c2 c3
            have f0 := rObj_frozen (k := 3) HS2.out.obj
            have kA : ∀ m o, ((w2.drewN m).alloc o).cell? ⟨r, 3, none⟩ = some (.slice aX st.O.length capX) := fun m o => (keepAllocE q3 hd1 f0 (drewN_heap _ _)).1
            go_region_law (first
              | (refine step_append_lies _ rfl (.tmp 45) (.tmp 51) 24 rfl B 101 i0 (.agg #[.string ⟨#[]⟩, .int .i64 0]) 2 24 Tryz.underlying24 hi hz0 hz1 hz2 rfl (by decide) (.slice aX st.O.length capX) st.O.length (cellsC st.O) rfl
                  (own_da HS2.out.oO (by first | exact drewN_heap _ _ | exact drewN_heap1 _ _ | rfl) _) ⟨w2.heap.size, 0, none⟩ 1 1 [.string s, .int .i64 (levelI st.L t)] rfl rfl
                  (World.news_of_block (cs := #[.string s, .int .i64 (levelI st.L t)]) (t := 101) (fr := (0, 0)) (new_block (by first | exact drewN_heap _ _ | exact drewN_heap1 _ _ | rfl) rfl)) (by simp [Value.oneCell']) (by decide) (by unfold maxLen; omega) (by omega) (by simp; omega) (w2.heap.size + 1) (by simp) ?_
                 intro g cap2 w3 hown2 hgrow hat hlt2
                 have hnx := Lib.hid (HS2.out.setO (x := (s, levelI st.L t)) (by first | exact below_da _ _ | exact below_da1 _ _) hgrow hown2 (hat.imp id fun e => by rw [e]; simp) h32)
                 obtain ⟨k0, k1, k2⟩ := keepGrown hgrow ar fO (keepAllocE q3 hd1 f0 (by first | exact drewN_heap _ _ | exact drewN_heap1 _ _ | rfl)).1 (keepAllocE q3 hd1 f0 (by first | exact drewN_heap _ _ | exact drewN_heap1 _ _ | rfl)).2.1 (keepAllocE q3 hd1 f0 (by first | exact drewN_heap _ _ | exact drewN_heap1 _ _ | rfl)).2.2
                 clear hown2 hgrow hat hlt2 k1))
            all_goals
              go_wp2_with fail
              go_ret
              exact LineP.next hnx.out.1 ((HS.out.step HB2.out).trans hnx.out.2) (Below.refl _ _) rfl
  · have e1 : ((ws.length : Int) != 3) = true := by rw [bne_iff_ne]; omega
    obtain ⟨a, cap, rfl⟩ := hv.form
    have HP := Lib.hid (show chanOP st ws = (st, 8) by unfold chanOP; rw [if_pos hl])
    have HS := Lib.hid hS
    clear hl hv hS
    go_enter Tryz.func93, Tryz.ntmps93
    go_wp2_with fail
    go_ret
    exact LineP.same HS.out (Below.refl _ _) HP.out

set_option maxRecDepth 100000 in
set_option maxHeartbeats 1600000 in
theorem output6_any (B r n : Nat) (v : Value) (ws : List ByteArray) (w : World) (vL vI vO vF : Value) (st : PSt) (hS : RSt B r w vL vI vO vF st) (hv : Strs n w v ws) (hn : n ≤ w.heap.size) (hf : FreeV r w v) (hz : ∀ j, (wd6 ws j).size ≤ 65536) :
    Calls Tryz.prog 74 #[.pointer (some ⟨r, 0, none⟩), v] w (LineP B r w (chanOP st ws)) := by
  have HK := Lib.hid (chanO_any B r n v ws w vL vI vO vF st hS hv hn hf hz)
  clear hS hv hn hf hz
  go_enter Tryz.func74, Tryz.ntmps74
  go_wp2_with fail
  refine HK.out.mono ?_
  rintro e w' ⟨rfl, h1, h2⟩
  have H1 := Lib.hid h1
  have H2 := Lib.hid h2
  clear h1 h2
  go_wp2_with fail
  go_ret
  exact ⟨rfl, H1.out, H2.out⟩
end Go.Proofs.YtdkpnbjkehakjaaGreatDoor
