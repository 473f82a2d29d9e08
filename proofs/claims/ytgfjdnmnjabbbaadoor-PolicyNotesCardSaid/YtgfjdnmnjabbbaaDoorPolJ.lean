import Derived.Test.YtgfjdnmnjabbbaaDoorPolM
import Derived.Test.YtgfjdnmnjabbbaaDoorNumG
set_option linter.unusedSimpArgs false
set_option linter.unusedVariables false
/-! policy: the lines of flows and of the depth -/
namespace Go.Proofs.YtgfjdnmnjabbbaaDoor
open Go.RowKit

theorem Tryd.infoPair6 : (Tryd.prog.info? 75).map (fun i => (i.zero, i.size, i.bytes)) = some (some (.agg #[.int .i64 0, .int .i64 0]), 2, 16) := by kernel_rfl
def flowP (st : PSt) (ws : List ByteArray) : PSt × Int :=
  if ws.length ≠ 3 then (st, 8) else if levelI st.L (wd6 ws 1) < 0 then (st, 10) else if levelI st.L (wd6 ws 2) < 0 then (st, 10) else ({ st with F := st.F ++ [(levelI st.L (wd6 ws 1), levelI st.L (wd6 ws 2))] }, 0)
set_option maxRecDepth 100000 in
set_option maxHeartbeats 6400000 in
theorem flow6_any (B r n : Nat) (v : Value) (ws : List ByteArray) (w : World) (vL vI vO vF : Value) (st : PSt) (hS : RSt B r w vL vI vO vF st) (hv : Strs n w v ws) (hn : n ≤ w.heap.size) (hf : FreeV r w v) (hz : ∀ j, (wd6 ws j).size ≤ 65536) (hF : st.F.length ≤ 1000000) :
    Calls Tryd.prog 34 #[.pointer (some ⟨r, 0, none⟩), v] w (LineP B r w (flowP st ws)) := by
  obtain ⟨i0, hi, hz0, hz1, hz2⟩ := info_parts Tryd.infoPair6
  by_cases hl : ws.length = 3
  · obtain ⟨b, off, cap, hve, hb, hcap, hc⟩ := hv.one (by omega)
    have hc1 := hc 1 (by omega)
    have hc2 := hc 2 (by omega)
    rw [hl] at hve hcap
    have HS := Lib.hid hS
    have hP : flowP st ws = if levelI st.L (wd6 ws 1) < 0 then (st, 10) else if levelI st.L (wd6 ws 2) < 0 then (st, 10) else ({ st with F := st.F ++ [(levelI st.L (wd6 ws 1), levelI st.L (wd6 ws 2))] }, 0) := by
      unfold flowP; rw [if_neg (by omega)]
    rw [hP]
    clear hP hc hl hz hv hf
    subst hve
    generalize wd6 ws 1 = s at *
    generalize wd6 ws 2 = t at *
    have hxL : st.L.length ≤ 9223372036854775807 := by have := hS.nL; omega
    have hr := level_range st.L s
    have hr2 := level_range st.L t
    have HL := Lib.hid hS.strs
    obtain ⟨c0, _, _, _, _, c5⟩ := rObj_cell hS.obj
    have f5 := rObj_frozen (k := 5) hS.obj
    have HF := Lib.hid hF
    clear hS hF
    by_cases h1 : levelI st.L s < 0
    · rw [if_pos h1]
      have e1 : decide (levelI st.L s < 0) = true := decide_eq_true h1
      clear h1
      go_enter Tryd.func34, Tryd.ntmps34
      go_wp2_with fail
      go_quiet ((go_at_call 16; exact Calls.quiet_of_same (index_q _ _ _ _ _ HL.out hxL)))
      go_wp2_with fail
      go_ret
      exact LineP.same HS.out (bdN (Below.refl _ _) _) rfl
    · rw [if_neg h1]
      have e1 : decide (levelI st.L s < 0) = false := decide_eq_false h1
      clear h1
      by_cases h2 : levelI st.L t < 0
      · rw [if_pos h2]
        have e2 : decide (levelI st.L t < 0) = true := decide_eq_true h2
        clear h2
        go_enter Tryd.func34, Tryd.ntmps34
        go_wp2_with fail
        go_quiet ((go_at_call 16; exact Calls.quiet_of_same (index_q _ _ _ _ _ HL.out hxL)))
        go_wp2_with fail
        go_ret
        exact LineP.same HS.out (bdN (Below.refl _ _) _) rfl
      · rw [if_neg h2]
        have e2 : decide (levelI st.L t < 0) = false := decide_eq_false h2
        clear h2
        have ar := own_other HS.out.oF HS.out.obj (by decide)
        go_enter Tryd.func34, Tryd.ntmps34
        go_wp2_with fail
        go_quiet ((go_at_call 16; exact Calls.quiet_of_same (index_q _ _ _ _ _ HL.out hxL)))
        have hrl := HS.out.lt
        have hBl : B ≤ w.heap.size := Nat.le_trans HS.out.base (Nat.le_of_lt hrl)
        go_wp2_with (first
          | (at_builtin
             go_loud (
             refine wpList_append_lies _ rfl (.tmp 38) (.tmp 42) 46 rfl B 75 i0 (.agg #[.int .i64 0, .int .i64 0]) 2 16 Tryd.underlying46 hi hz0 hz1 hz2 rfl (by decide) vF st.F.length (cellsF st.F) rfl
                  (own_da HS.out.oF (by first | exact drewN_heap _ _ | exact drewN_heap1 _ _ | rfl) _) ⟨w.heap.size, 0, none⟩ 1 1 [.int .i64 (levelI st.L s), .int .i64 (levelI st.L t)] rfl rfl
                  (World.news_of_block (cs := #[.int .i64 (levelI st.L s), .int .i64 (levelI st.L t)]) (t := 75) (fr := (0, 0)) (new_block (by first | exact drewN_heap _ _ | exact drewN_heap1 _ _ | rfl) rfl)) (by simp [Value.oneCell']) (by decide) (by have := HF.out; unfold maxLen; omega) (by have := HF.out; omega) (by simp; omega) (w.heap.size + 1) (by simp) ?_
             intro g cap2 w3 hown2 hgrow hat hlt2
             have hnx := Lib.hid (HS.out.setF (x := (levelI st.L s, levelI st.L t)) (by first | exact below_da _ _ | exact below_da1 _ _) hgrow hown2 (hat.imp id fun e => by rw [e]; simp))
             obtain ⟨k0, k1, k2⟩ := keepGrown hgrow ar ar (keepAllocE c5 c5 f5 (by first | exact drewN_heap _ _ | exact drewN_heap1 _ _ | rfl)).1 (keepAllocE c5 c5 f5 (by first | exact drewN_heap _ _ | exact drewN_heap1 _ _ | rfl)).2.1 (keepAllocE c5 c5 f5 (by first | exact drewN_heap _ _ | exact drewN_heap1 _ _ | rfl)).2.2
             clear hown2 hgrow hat hlt2 k1)))
        go_ret
        exact LineP.next hnx.out.1 hnx.out.2 (Below.refl _ _) rfl
  · have e1 : ((ws.length : Int) != 3) = true := by rw [bne_iff_ne]; omega
    obtain ⟨a, cap, rfl⟩ := hv.form
    have HP := Lib.hid (show flowP st ws = (st, 8) by unfold flowP; rw [if_pos hl])
    have HS := Lib.hid hS
    clear hl hv hS
    go_enter Tryd.func34, Tryd.ntmps34
    go_wp2_with fail
    go_ret
    exact LineP.same HS.out (Below.refl _ _) HP.out

/-- the number of a text, if it is one's -/
def numO (s : ByteArray) : Option Int := match Lib.parseIntB 64 s.data.toList with | .ok v => if num v = s then some v else none | _ => none
theorem numO_rel {s : ByteArray} {v : Int} {ok : Bool} (h : NumRel s v ok) : (ok = true ∧ numO s = some v) ∨ (ok = false ∧ numO s = none) := by
  rcases h with ⟨rfl, e, b0, b1⟩ | ⟨rfl, rfl, hn⟩
  · refine .inl ⟨rfl, ?_⟩
    have hp := parse_itoa v b0 b1
    rw [← num_list, e] at hp
    unfold numO
    rw [hp]
    simp [e]
  · refine .inr ⟨rfl, ?_⟩
    unfold numO
    cases hp : Lib.parseIntB 64 s.data.toList with
    | ok v =>
      have hb := NumRel.of_ok hp
      have : num v ≠ s := hn v hb.2.2.1 hb.2.2.2
      simp [this]
    | _ => rfl
theorem numO_num {n : Int} (h0 : -9223372036854775808 ≤ n) (h1 : n ≤ 9223372036854775807) : numO (num n) = some n := by
  unfold numO
  rw [num_list, parse_itoa n h0 h1]
  simp
def depthP (st : PSt) (ws : List ByteArray) : PSt × Int :=
  if ws.length ≠ 2 then (st, 8) else match numO (wd6 ws 1) with
    | none => (st, 8)
    | some k => if st.D ≠ 0 then (st, 9) else if k < 1 ∨ 64 < k then (st, 12) else ({ st with D := k }, 0)
set_option maxRecDepth 100000 in
set_option maxHeartbeats 6400000 in
theorem depth6_any (B r n : Nat) (v : Value) (ws : List ByteArray) (w : World) (vL vI vO vF : Value) (st : PSt) (hS : RSt B r w vL vI vO vF st) (hv : Strs n w v ws) (hn : n ≤ w.heap.size) (hf : FreeV r w v) (hz : ∀ j, (wd6 ws j).size ≤ 65536) (hE : Errs w) (hPw : Pow w) :
    Calls Tryd.prog 37 #[.pointer (some ⟨r, 0, none⟩), v] w (LineP B r w (depthP st ws)) := by
  by_cases hl : ws.length = 2
  · obtain ⟨b, off, cap, hve, hb, hcap, hc⟩ := hv.one (by omega)
    have hc1 := hc 1 (by omega)
    have hz1' := hz 1
    rw [hl] at hve hcap
    have HS := Lib.hid hS
    have hP : depthP st ws = match numO (wd6 ws 1) with
      | none => (st, 8)
      | some k => if st.D ≠ 0 then (st, 9) else if k < 1 ∨ 64 < k then (st, 12) else ({ st with D := k }, 0) := by
      unfold depthP; rw [if_neg (by omega)]
    have HP := Lib.hid hP
    clear hP hc hl hz hv hf
    subst hve
    generalize wd6 ws 1 = s at *
    have hbw : b < w.heap.size := by omega
    have HE := Lib.hid hE
    have HW := Lib.hid hPw
    clear hS hE hPw
    go_enter Tryd.func37, Tryd.ntmps37
    go_wp2_with fail
    refine (number_any s _ (by omega) HE.out HW.out).mono ?_
    rintro e w1 ⟨⟨k, ok, rfl, hk⟩, hb1⟩
    obtain ⟨_, _, _, _, c4, _⟩ := rObj_cell (HS.out.below hb1).obj
    have f4 := rObj_frozen (k := 4) (HS.out.below hb1).obj
    rcases numO_rel hk with ⟨rfl, hq⟩ | ⟨rfl, hq⟩
    · rw [hq] at HP
      clear hq hk hc1
      by_cases h0 : st.D = 0
      · have e0 : (st.D != 0) = false := by rw [h0]; rfl
        have HP2 := Lib.hid (show depthP st ws = if k < 1 ∨ 64 < k then (st, 12) else ({ st with D := k }, 0) by rw [HP.out]; simp [h0])
        clear HP h0
        by_cases h1 : k < 1
        · have HP := Lib.hid (show depthP st ws = (st, 12) by rw [HP2.out, if_pos (.inl h1)])
          clear HP2
          go_wp2_with fail
          go_ret
          exact LineP.same HS.out hb1 HP.out
        · by_cases h2 : 64 < k
          · have HP := Lib.hid (show depthP st ws = (st, 12) by rw [HP2.out, if_pos (.inr h2)])
            clear HP2
            go_wp2_with fail
            go_ret
            exact LineP.same HS.out hb1 HP.out
          · have HP := Lib.hid (show depthP st ws = ({ st with D := k }, 0) by rw [HP2.out, if_neg (by omega)])
            clear HP2
            have hnx := Lib.hid ((HS.out.below hb1).setD k)
            go_wp2_with fail
            go_ret
            exact LineP.next hnx.out.1 ((HS.out.step hb1).trans hnx.out.2) (Below.refl _ _) HP.out
      · have e0 : (st.D != 0) = true := by rw [bne_iff_ne]; exact h0
        have HP2 := Lib.hid (show depthP st ws = (st, 9) by rw [HP.out]; simp [h0])
        clear HP h0
        go_wp2_with fail
        go_ret
        exact LineP.same HS.out hb1 HP2.out
    · rw [hq] at HP
      clear hq hk hc1
      go_wp2_with fail
      go_ret
      exact LineP.same HS.out hb1 HP.out
  · have e1 : ((ws.length : Int) != 2) = true := by rw [bne_iff_ne]; omega
    obtain ⟨a, cap, rfl⟩ := hv.form
    have HP := Lib.hid (show depthP st ws = (st, 8) by unfold depthP; rw [if_pos hl])
    have HS := Lib.hid hS
    clear hl hv hS hE hPw
    go_enter Tryd.func37, Tryd.ntmps37
    go_wp2_with fail
    go_ret
    exact LineP.same HS.out (Below.refl _ _) HP.out
end Go.Proofs.YtgfjdnmnjabbbaaDoor
