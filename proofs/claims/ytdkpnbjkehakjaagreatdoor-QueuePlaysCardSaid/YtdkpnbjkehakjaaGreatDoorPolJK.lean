import Derived.Test.YtdkpnbjkehakjaaGreatDoorPolNM
import Derived.Test.YtdkpnbjkehakjaaGreatDoorNumG
import Derived.Test.YtdkpnbjkehakjaaGreatDoorPolO
import Derived.Test.YtdkpnbjkehakjaaGreatDoorPolP
import Derived.StringKeys
set_option linter.unusedSimpArgs false
set_option linter.unusedVariables false
/-! policy: the lines of flows and of the depth -/
namespace Go.Proofs.YtdkpnbjkehakjaaGreatDoor
open Go.RowKit

theorem Tryz.infoPair6 : (Tryz.prog.info? 133).map (fun i => (i.zero, i.size, i.bytes)) = some (some (.agg #[.int .i64 0, .int .i64 0]), 2, 16) := by kernel_rfl
def flowP (st : PSt) (ws : List ByteArray) : PSt × Int :=
  if ws.length ≠ 3 then (st, 8) else if levelI st.L (wd6 ws 1) < 0 then (st, 10) else if levelI st.L (wd6 ws 2) < 0 then (st, 10) else ({ st with F := st.F ++ [(levelI st.L (wd6 ws 1), levelI st.L (wd6 ws 2))] }, 0)
set_option maxRecDepth 100000 in
set_option maxHeartbeats 6400000 in
theorem flow6_any (B r n : Nat) (v : Value) (ws : List ByteArray) (w : World) (vL vI vO vF : Value) (st : PSt) (hS : RSt B r w vL vI vO vF st) (hv : Strs n w v ws) (hn : n ≤ w.heap.size) (hf : FreeV r w v) (hz : ∀ j, (wd6 ws j).size ≤ 65536) (hF : st.F.length ≤ 1000000) :
    Calls Tryz.prog 72 #[.pointer (some ⟨r, 0, none⟩), v] w (LineP B r w (flowP st ws)) := by
  obtain ⟨i0, hi, hz0, hz1, hz2⟩ := info_parts Tryz.infoPair6
  by_cases hl : ws.length = 3
  · obtain ⟨b, off, cap, hve, hb, hcap, hc⟩ := hv.one (by omega)
    have hc1 := hc 1 (by omega)
    have hc2 := hc 2 (by omega)
    rw [hl] at hve hcap
    have HS := Lib.hid hS
    have hP : flowP st ws = if levelI st.L (wd6 ws 1) < 0 then (st, 10) else if levelI st.L (wd6 ws 2) < 0 then (st, 10) else ({ st with F := st.F ++ [(levelI st.L (wd6 ws 1), levelI st.L (wd6 ws 2))] }, 0) := by
      unfold flowP; rw [if_neg (by omega)]
    rw [hP]
    clear hP hc hl hz hv hf
    subst hve
    generalize wd6 ws 1 = s at *
    generalize wd6 ws 2 = t at *
    have hxL : st.L.length ≤ 9223372036854775807 := by have := hS.nL; omega
    have hr := level_range st.L s
    have hr2 := level_range st.L t
    have HL := Lib.hid hS.strs
    obtain ⟨c0, _, _, _, _, c5⟩ := rObj_cell hS.obj
    have f5 := rObj_frozen (k := 5) hS.obj
    have HF := Lib.hid hF
    clear hS hF
    by_cases h1 : levelI st.L s < 0
    · rw [if_pos h1]
      have e1 : decide (levelI st.L s < 0) = true := decide_eq_true h1
      clear h1
      go_enter Tryz.func72, Tryz.ntmps72
      go_wp2_with fail
      go_quiet ((go_at_call 63; exact Calls.quiet_of_same (index_q _ _ _ _ _ HL.out hxL)))
      go_wp2_with fail
      go_ret
      exact LineP.same HS.out (bdN (Below.refl _ _) _) rfl
    · rw [if_neg h1]
      have e1 : decide (levelI st.L s < 0) = false := decide_eq_false h1
      clear h1
      by_cases h2 : levelI st.L t < 0
      · rw [if_pos h2]
        have e2 : decide (levelI st.L t < 0) = true := decide_eq_true h2
        clear h2
        go_enter Tryz.func72, Tryz.ntmps72
        go_wp2_with fail
        go_quiet ((go_at_call 63; exact Calls.quiet_of_same (index_q _ _ _ _ _ HL.out hxL)))
        go_wp2_with fail
        go_ret
        exact LineP.same HS.out (bdN (Below.refl _ _) _) rfl
      · rw [if_neg h2]
        have e2 : decide (levelI st.L t < 0) = false := decide_eq_false h2
        clear h2
        have ar := own_other HS.out.oF HS.out.obj (by decide)
        go_enter Tryz.func72, Tryz.ntmps72
        go_wp2_with fail
        go_quiet ((go_at_call 63; exact Calls.quiet_of_same (index_q _ _ _ _ _ HL.out hxL)))
        have hrl := HS.out.lt
        have hBl : B ≤ w.heap.size := Nat.le_trans HS.out.base (Nat.le_of_lt hrl)
        go_wp2_with (first
          | (at_builtin
             go_loud (
             refine wpList_append_lies _ rfl (.tmp 38) (.tmp 42) 81 rfl B 133 i0 (.agg #[.int .i64 0, .int .i64 0]) 2 16 Tryz.underlying81 hi hz0 hz1 hz2 rfl (by decide) vF st.F.length (cellsF st.F) rfl
                  (own_da HS.out.oF (by first | exact drewN_heap _ _ | exact drewN_heap1 _ _ | rfl) _) ⟨w.heap.size, 0, none⟩ 1 1 [.int .i64 (levelI st.L s), .int .i64 (levelI st.L t)] rfl rfl
                  (World.news_of_block (cs := #[.int .i64 (levelI st.L s), .int .i64 (levelI st.L t)]) (t := 133) (fr := (0, 0)) (new_block (by first | exact drewN_heap _ _ | exact drewN_heap1 _ _ | rfl) rfl)) (by simp [Value.oneCell']) (by decide) (by have := HF.out; unfold maxLen; omega) (by have := HF.out; omega) (by simp; omega) (w.heap.size + 1) (by simp) ?_
             intro g cap2 w3 hown2 hgrow hat hlt2
             have hnx := Lib.hid (HS.out.setF (x := (levelI st.L s, levelI st.L t)) (by first | exact below_da _ _ | exact below_da1 _ _) hgrow hown2 (hat.imp id fun e => by rw [e]; simp))
             obtain ⟨k0, k1, k2⟩ := keepGrown hgrow ar ar (keepAllocE c5 c5 f5 (by first | exact drewN_heap _ _ | exact drewN_heap1 _ _ | rfl)).1 (keepAllocE c5 c5 f5 (by first | exact drewN_heap _ _ | exact drewN_heap1 _ _ | rfl)).2.1 (keepAllocE c5 c5 f5 (by first | exact drewN_heap _ _ | exact drewN_heap1 _ _ | rfl)).2.2
             clear hown2 hgrow hat hlt2 k1)))
        go_ret
        exact LineP.next hnx.out.1 hnx.out.2 (Below.refl _ _) rfl
  · have e1 : ((ws.length : Int) != 3) = true := by rw [bne_iff_ne]; omega
    obtain ⟨a, cap, rfl⟩ := hv.form
    have HP := Lib.hid (show flowP st ws = (st, 8) by unfold flowP; rw [if_pos hl])
    have HS := Lib.hid hS
    clear hl hv hS
    go_enter Tryz.func72, Tryz.ntmps72
    go_wp2_with fail
    go_ret
    exact LineP.same HS.out (Below.refl _ _) HP.out

/-- the number of a text, if it is one's -/
def numO (s : ByteArray) : Option Int := match Lib.parseIntB 64 s.data.toList with | .ok v => if num v = s then some v else none | _ => none
theorem numO_rel {s : ByteArray} {v : Int} {ok : Bool} (h : NumRel s v ok) : (ok = true ∧ numO s = some v) ∨ (ok = false ∧ numO s = none) := by
  rcases h with ⟨rfl, e, b0, b1⟩ | ⟨rfl, rfl, hn⟩
  · refine .inl ⟨rfl, ?_⟩
    have hp := parse_itoa v b0 b1
    rw [← num_list, e] at hp
    unfold numO
    rw [hp]
    simp [e]
  · refine .inr ⟨rfl, ?_⟩
    unfold numO
    cases hp : Lib.parseIntB 64 s.data.toList with
    | ok v =>
      have hb := NumRel.of_ok hp
      have : num v ≠ s := hn v hb.2.2.1 hb.2.2.2
      simp [this]
    | _ => rfl
theorem numO_num {n : Int} (h0 : -9223372036854775808 ≤ n) (h1 : n ≤ 9223372036854775807) : numO (num n) = some n := by
  unfold numO
  rw [num_list, parse_itoa n h0 h1]
  simp
def depthP (st : PSt) (ws : List ByteArray) : PSt × Int :=
  if ws.length ≠ 2 then (st, 8) else match numO (wd6 ws 1) with
    | none => (st, 8)
    | some k => if st.D ≠ 0 then (st, 9) else if k < 1 ∨ 64 < k then (st, 12) else ({ st with D := k }, 0)
set_option maxRecDepth 100000 in
set_option maxHeartbeats 6400000 in
theorem depth6_any (B r n : Nat) (v : Value) (ws : List ByteArray) (w : World) (vL vI vO vF : Value) (st : PSt) (hS : RSt B r w vL vI vO vF st) (hv : Strs n w v ws) (hn : n ≤ w.heap.size) (hf : FreeV r w v) (hz : ∀ j, (wd6 ws j).size ≤ 65536) (hE : Errs w) (hPw : Pow w) :
    Calls Tryz.prog 75 #[.pointer (some ⟨r, 0, none⟩), v] w (LineP B r w (depthP st ws)) := by
  by_cases hl : ws.length = 2
  · obtain ⟨b, off, cap, hve, hb, hcap, hc⟩ := hv.one (by omega)
    have hc1 := hc 1 (by omega)
    have hz1' := hz 1
    rw [hl] at hve hcap
    have HS := Lib.hid hS
    have hP : depthP st ws = match numO (wd6 ws 1) with
      | none => (st, 8)
      | some k => if st.D ≠ 0 then (st, 9) else if k < 1 ∨ 64 < k then (st, 12) else ({ st with D := k }, 0) := by
      unfold depthP; rw [if_neg (by omega)]
    have HP := Lib.hid hP
    clear hP hc hl hz hv hf
    subst hve
    generalize wd6 ws 1 = s at *
    have hbw : b < w.heap.size := by omega
    have HE := Lib.hid hE
    have HW := Lib.hid hPw
    clear hS hE hPw
    go_enter Tryz.func75, Tryz.ntmps75
    go_wp2_with fail
    refine (number_any s _ (by omega) HE.out HW.out).mono ?_
    rintro e w1 ⟨⟨k, ok, rfl, hk⟩, hb1⟩
    obtain ⟨_, _, _, _, c4, _⟩ := rObj_cell (HS.out.below hb1).obj
    have f4 := rObj_frozen (k := 4) (HS.out.below hb1).obj
    rcases numO_rel hk with ⟨rfl, hq⟩ | ⟨rfl, hq⟩
    · rw [hq] at HP
      clear hq hk hc1
      by_cases h0 : st.D = 0
      · have e0 : (st.D != 0) = false := by rw [h0]; rfl
        have HP2 := Lib.hid (show depthP st ws = if k < 1 ∨ 64 < k then (st, 12) else ({ st with D := k }, 0) by rw [HP.out]; simp [h0])
        clear HP h0
        by_cases h1 : k < 1
        · have HP := Lib.hid (show depthP st ws = (st, 12) by rw [HP2.out, if_pos (.inl h1)])
          clear HP2
          go_wp2_with fail
          go_ret
          exact LineP.same HS.out hb1 HP.out
        · by_cases h2 : 64 < k
          · have HP := Lib.hid (show depthP st ws = (st, 12) by rw [HP2.out, if_pos (.inr h2)])
            clear HP2
            go_wp2_with fail
            go_ret
            exact LineP.same HS.out hb1 HP.out
          · have HP := Lib.hid (show depthP st ws = ({ st with D := k }, 0) by rw [HP2.out, if_neg (by omega)])
            clear HP2
            have hnx := Lib.hid ((HS.out.below hb1).setD k)
            go_wp2_with fail
            go_ret
            exact LineP.next hnx.out.1 ((HS.out.step hb1).trans hnx.out.2) (Below.refl _ _) HP.out
      · have e0 : (st.D != 0) = true := by rw [bne_iff_ne]; exact h0
        have HP2 := Lib.hid (show depthP st ws = (st, 9) by rw [HP.out]; simp [h0])
        clear HP h0
        go_wp2_with fail
        go_ret
        exact LineP.same HS.out hb1 HP2.out
    · rw [hq] at HP
      clear hq hk hc1
      go_wp2_with fail
      go_ret
      exact LineP.same HS.out hb1 HP.out
  · have e1 : ((ws.length : Int) != 2) = true := by rw [bne_iff_ne]; omega
    obtain ⟨a, cap, rfl⟩ := hv.form
    have HP := Lib.hid (show depthP st ws = (st, 8) by unfold depthP; rw [if_pos hl])
    have HS := Lib.hid hS
    clear hl hv hS hE hPw
    go_enter Tryz.func75, Tryz.ntmps75
    go_wp2_with fail
    go_ret
    exact LineP.same HS.out (Below.refl _ _) HP.out
end Go.Proofs.YtdkpnbjkehakjaaGreatDoor

/-! policy: a line's first word finds what it does -/
namespace Go.Proofs.YtdkpnbjkehakjaaGreatDoor
open Go.RowKit
open Go.Maps (Keyed string_keyed)

def wLevel : ByteArray := ⟨#[108, 101, 118, 101, 108]⟩
def wFlow : ByteArray := ⟨#[102, 108, 111, 119]⟩
def wInput : ByteArray := ⟨#[105, 110, 112, 117, 116]⟩
def wOutput : ByteArray := ⟨#[111, 117, 116, 112, 117, 116]⟩
def wDepth : ByteArray := ⟨#[100, 101, 112, 116, 104]⟩
def kS (s : ByteArray) : Lit := .string s.data.toList
/-- what the map holds -/
def linesD : DataW Unit :=
  (((((DataW.map []).put (kS wLevel) (fnD 71)).put (kS wFlow) (fnD 72)).put (kS wInput) (fnD 73)).put (kS wOutput) (fnD 74)).put (kS wDepth) (fnD 75)
theorem law6 : Keyed Tryz.prog 9 := string_keyed Tryz.underlying9
theorem key6 {s : ByteArray} (h : s.size ≤ 1000000) : keyOf Tryz.prog 9 (.string s) = some (kS s) := WideMaps.keyOf_string_mk Tryz.underlying9 (by unfold maxLen; omega)
theorem zeroDoes (w : World) : (zeroValue 132).run Tryz.prog w = .ok .nilFunc w := by kernel_rfl
theorem eql_does (g : Nat) (w : World) : (Go.binOp .eql 132 (.func (.func g) #[] #[]) .nilFunc).run Tryz.prog w = .ok (.bool false) w := by kernel_rfl
theorem eql_none (w : World) : (Go.binOp .eql 132 .nilFunc .nilFunc).run Tryz.prog w = .ok (.bool true) w := by kernel_rfl
theorem kS_ne {s t : ByteArray} (h : s ≠ t) : kS s ≠ kS t := by
  intro e
  simp only [kS, Lit.string.injEq, Array.toList_inj] at e
  exact h (ByteArray.ext e)

set_option maxRecDepth 100000 in
set_option maxHeartbeats 3200000 in
theorem lines_any (w : World) :
    Calls Tryz.prog 47 #[] w fun e w' => e = .returned (.map (some w.heap.size)) ∧ w'.ownsMap Tryz.prog 9 fnElem w.heap.size 5 linesD ∧ Below w.heap.size w w' := by
  have hmm := @run_makeMap Tryz.prog
  have hown : (w.alloc (.map #[] 0)).ownsMap Tryz.prog 9 fnElem w.heap.size 0 (.map []) := World.ownsMap_made _ _ _ _
  have hb : Below w.heap.size w (w.alloc (.map #[] 0)) := (Below.refl _ _).alloc (Nat.le_refl _) _
  go_enter Tryz.func47, Tryz.ntmps47
  go_wp2_with (first
    | (refine wpList_insert_own _ rfl _ _ _ 106 rfl 9 132 law6 Tryz.underlying106 fnElem w.heap.size _ _ rfl hown (by unfold maxLen; omega) _ _ _ rfl rfl (key6 (by decide)) (fnD _) [] rfl ?_
       clear hown
       intro w1 hown hg
       have hb1 := hb.grown hg hb.size (fun k e => by cases e; exact Nat.le_refl _)
       clear hb hg
       have hb := hb1
       clear hb1)
    | fail)
  go_ret
  exact ⟨rfl, hown, hb⟩

theorem linesD_other {s : ByteArray} (h1 : s ≠ wLevel) (h2 : s ≠ wFlow) (h3 : s ≠ wInput) (h4 : s ≠ wOutput) (h5 : s ≠ wDepth) : linesD.atKey (kS s) (.nil : DataW Unit) = .nil := by
  unfold linesD
  rw [Go.Maps.atKey_put_other (kS_ne h5), Go.Maps.atKey_put_other (kS_ne h4), Go.Maps.atKey_put_other (kS_ne h3), Go.Maps.atKey_put_other (kS_ne h2), Go.Maps.atKey_put_other (kS_ne h1)]
  rfl
/-- what a line does, which is its words -/
def doP (st : PSt) (ws : List ByteArray) : PSt × Int :=
  if ws.length = 0 then (st, 0) else if (wd6 ws 0).data.toList[0]? = some 35 then (st, 0)
  else if wd6 ws 0 = wLevel then levelP st ws else if wd6 ws 0 = wFlow then flowP st ws else if wd6 ws 0 = wInput then chanIP st ws
  else if wd6 ws 0 = wOutput then chanOP st ws else if wd6 ws 0 = wDepth then depthP st ws else (st, 8)

set_option maxRecDepth 100000 in
set_option maxHeartbeats 6400000 in
theorem do6_any (B r n bm m : Nat) (v : Value) (ws : List ByteArray) (w : World) (vL vI vO vF : Value) (st : PSt) (hS : RSt B r w vL vI vO vF st) (hv : Strs n w v ws) (hn : n ≤ w.heap.size) (hf : FreeV r w v) (hz : ∀ j, (wd6 ws j).size ≤ 65536)
    (hF : st.F.length ≤ 1000000) (hE : Errs w) (hPw : Pow w) (hM : w.ownsMap Tryz.prog 9 fnElem bm m linesD) (h1 : ∀ j, j < ws.length → 0 < (wd6 ws j).size) :
    Calls Tryz.prog 51 #[.pointer (some ⟨r, 0, none⟩), .map (some bm), v] w (LineP B r w (doP st ws)) := by
  by_cases h0 : ws.length = 0
  · have e0 : ((ws.length : Int) == 0) = true := by rw [beq_iff_eq]; omega
    have HP := Lib.hid (show doP st ws = (st, 0) by unfold doP; rw [if_pos h0])
    have HS := Lib.hid hS
    obtain ⟨a, cap, rfl⟩ := hv.form
    clear hv hS hE hPw h0 hM hf hz h1
    go_enter Tryz.func51, Tryz.ntmps51
    go_wp2_with fail
    go_ret
    exact LineP.same HS.out (Below.refl _ _) HP.out
  · obtain ⟨b, off, cap, hve, hb, hcap, hc⟩ := hv.one (by omega)
    have e0 : ((ws.length : Int) == 0) = false := by rw [beq_eq_false_iff_ne]; omega
    have hc0 := hc 0 (by omega)
    rw [Nat.add_zero] at hc0
    have hs1 := h1 0 (by omega)
    have hs2 := hz 0
    have hpos : 0 < ws.length := by omega
    have HS := Lib.hid hS
    have HV := Lib.hid hv
    have HFv := Lib.hid hf
    have HZ := Lib.hid hz
    have HE := Lib.hid hE
    have HW := Lib.hid hPw
    have HM := Lib.hid hM
    have HF := Lib.hid hF
    have hP : doP st ws = if (wd6 ws 0).data.toList[0]? = some 35 then (st, 0)
      else if wd6 ws 0 = wLevel then levelP st ws else if wd6 ws 0 = wFlow then flowP st ws else if wd6 ws 0 = wInput then chanIP st ws
      else if wd6 ws 0 = wOutput then chanOP st ws else if wd6 ws 0 = wDepth then depthP st ws else (st, 8) := by
      unfold doP; rw [if_neg h0]
    have HP := Lib.hid hP
    have hkey := key6 (s := wd6 ws 0) (by omega)
    have HK := Lib.hid hkey
    clear hP hc hv hS hf hz hE hPw hM hF h1 h0 hkey
    subst hve
    generalize wd6 ws 0 = s at *
    have hlt : 0 < s.size := hs1
    have hget : s.data.toList[0]? = some s[0] := by
      rw [List.getElem?_eq_getElem (by simpa using hlt)]; rfl
    rw [hget] at HP
    clear hget
    cases hc : ((s[0].toNat : Int) == 35)
    rotate_left
    · have h35 : s[0] = 35 := by
        have : s[0].toNat = 35 := by have := beq_iff_eq.1 hc; omega
        exact UInt8.toNat_inj.1 this
      have HQ := Lib.hid (show doP st ws = (st, 0) by rw [HP.out, if_pos (by rw [h35])])
      clear HP h35
      go_enter Tryz.func51, Tryz.ntmps51
      go_wp2_with fail
      go_ret
      exact LineP.same HS.out (Below.refl _ _) HQ.out
    have h35 : ¬ (some s[0] = some (35 : UInt8)) := by
      intro e
      have e2 : s[0] = 35 := Option.some.inj e
      rw [e2] at hc
      exact absurd hc (by decide)
    rw [if_neg h35] at HP
    clear h35
    by_cases e0_ : s = wLevel
    · subst e0_
      have HQ := Lib.hid (show doP st ws = levelP st ws by rw [HP.out]; rw [if_pos rfl])
      have HD := Lib.hid (show linesD.atKey (kS wLevel) (.nil : DataW Unit) = fnD 71 by kernel_rfl)
      have hnn := eql_does 71
      clear HP
      go_enter Tryz.func51, Tryz.ntmps51
      go_wp2_with (first
        | (at_lookup
           go_loud (
           refine wpList_lookup_any _ rfl _ _ 106 rfl 9 132 law6 Tryz.underlying106 fnElem _ (zeroDoes _) _ _ rfl bm _ _ rfl HM.out _ _ rfl HK.out ?_
           intro vf ps hvf
           rw [HD.out] at hvf
           obtain rfl := fnElem_fn hvf
           clear hvf)))
      refine (level6_any B r n _ ws _ vL vI vO vF st HS.out HV.out hn HFv.out HZ.out).mono ?_
      rw [← HQ.out]
      rintro e w' ⟨rfl, h1, h2⟩
      have H1 := Lib.hid h1
      have H2 := Lib.hid h2
      clear h1 h2 hnn
      go_wp2_with fail
      go_ret
      exact ⟨rfl, H1.out, H2.out⟩
    by_cases e1_ : s = wFlow
    · subst e1_
      have HQ := Lib.hid (show doP st ws = flowP st ws by rw [HP.out]; rw [if_neg (show ¬ wFlow = wLevel by decide +kernel)]; rw [if_pos rfl])
      have HD := Lib.hid (show linesD.atKey (kS wFlow) (.nil : DataW Unit) = fnD 72 by kernel_rfl)
      have hnn := eql_does 72
      clear HP
      go_enter Tryz.func51, Tryz.ntmps51
      go_wp2_with (first
        | (at_lookup
           go_loud (
           refine wpList_lookup_any _ rfl _ _ 106 rfl 9 132 law6 Tryz.underlying106 fnElem _ (zeroDoes _) _ _ rfl bm _ _ rfl HM.out _ _ rfl HK.out ?_
           intro vf ps hvf
           rw [HD.out] at hvf
           obtain rfl := fnElem_fn hvf
           clear hvf)))
      refine (flow6_any B r n _ ws _ vL vI vO vF st HS.out HV.out hn HFv.out HZ.out HF.out).mono ?_
      rw [← HQ.out]
      rintro e w' ⟨rfl, h1, h2⟩
      have H1 := Lib.hid h1
      have H2 := Lib.hid h2
      clear h1 h2 hnn
      go_wp2_with fail
      go_ret
      exact ⟨rfl, H1.out, H2.out⟩
    by_cases e2_ : s = wInput
    · subst e2_
      have HQ := Lib.hid (show doP st ws = chanIP st ws by rw [HP.out]; rw [if_neg (show ¬ wInput = wLevel by decide +kernel)]; rw [if_neg (show ¬ wInput = wFlow by decide +kernel)]; rw [if_pos rfl])
      have HD := Lib.hid (show linesD.atKey (kS wInput) (.nil : DataW Unit) = fnD 73 by kernel_rfl)
      have hnn := eql_does 73
      clear HP
      go_enter Tryz.func51, Tryz.ntmps51
      go_wp2_with (first
        | (at_lookup
           go_loud (
           refine wpList_lookup_any _ rfl _ _ 106 rfl 9 132 law6 Tryz.underlying106 fnElem _ (zeroDoes _) _ _ rfl bm _ _ rfl HM.out _ _ rfl HK.out ?_
           intro vf ps hvf
           rw [HD.out] at hvf
           obtain rfl := fnElem_fn hvf
           clear hvf)))
      refine (input6_any B r n _ ws _ vL vI vO vF st HS.out HV.out hn HFv.out HZ.out).mono ?_
      rw [← HQ.out]
      rintro e w' ⟨rfl, h1, h2⟩
      have H1 := Lib.hid h1
      have H2 := Lib.hid h2
      clear h1 h2 hnn
      go_wp2_with fail
      go_ret
      exact ⟨rfl, H1.out, H2.out⟩
    by_cases e3_ : s = wOutput
    · subst e3_
      have HQ := Lib.hid (show doP st ws = chanOP st ws by rw [HP.out]; rw [if_neg (show ¬ wOutput = wLevel by decide +kernel)]; rw [if_neg (show ¬ wOutput = wFlow by decide +kernel)]; rw [if_neg (show ¬ wOutput = wInput by decide +kernel)]; rw [if_pos rfl])
      have HD := Lib.hid (show linesD.atKey (kS wOutput) (.nil : DataW Unit) = fnD 74 by kernel_rfl)
      have hnn := eql_does 74
      clear HP
      go_enter Tryz.func51, Tryz.ntmps51
      go_wp2_with (first
        | (at_lookup
           go_loud (
           refine wpList_lookup_any _ rfl _ _ 106 rfl 9 132 law6 Tryz.underlying106 fnElem _ (zeroDoes _) _ _ rfl bm _ _ rfl HM.out _ _ rfl HK.out ?_
           intro vf ps hvf
           rw [HD.out] at hvf
           obtain rfl := fnElem_fn hvf
           clear hvf)))
      refine (output6_any B r n _ ws _ vL vI vO vF st HS.out HV.out hn HFv.out HZ.out).mono ?_
      rw [← HQ.out]
      rintro e w' ⟨rfl, h1, h2⟩
      have H1 := Lib.hid h1
      have H2 := Lib.hid h2
      clear h1 h2 hnn
      go_wp2_with fail
      go_ret
      exact ⟨rfl, H1.out, H2.out⟩
    by_cases e4_ : s = wDepth
    · subst e4_
      have HQ := Lib.hid (show doP st ws = depthP st ws by rw [HP.out]; rw [if_neg (show ¬ wDepth = wLevel by decide +kernel)]; rw [if_neg (show ¬ wDepth = wFlow by decide +kernel)]; rw [if_neg (show ¬ wDepth = wInput by decide +kernel)]; rw [if_neg (show ¬ wDepth = wOutput by decide +kernel)]; rw [if_pos rfl])
      have HD := Lib.hid (show linesD.atKey (kS wDepth) (.nil : DataW Unit) = fnD 75 by kernel_rfl)
      have hnn := eql_does 75
      clear HP
      go_enter Tryz.func51, Tryz.ntmps51
      go_wp2_with (first
        | (at_lookup
           go_loud (
           refine wpList_lookup_any _ rfl _ _ 106 rfl 9 132 law6 Tryz.underlying106 fnElem _ (zeroDoes _) _ _ rfl bm _ _ rfl HM.out _ _ rfl HK.out ?_
           intro vf ps hvf
           rw [HD.out] at hvf
           obtain rfl := fnElem_fn hvf
           clear hvf)))
      refine (depth6_any B r n _ ws _ vL vI vO vF st HS.out HV.out hn HFv.out HZ.out HE.out HW.out).mono ?_
      rw [← HQ.out]
      rintro e w' ⟨rfl, h1, h2⟩
      have H1 := Lib.hid h1
      have H2 := Lib.hid h2
      clear h1 h2 hnn
      go_wp2_with fail
      go_ret
      exact ⟨rfl, H1.out, H2.out⟩
    have HQ := Lib.hid (show doP st ws = (st, 8) by rw [HP.out, if_neg e0_, if_neg e1_, if_neg e2_, if_neg e3_, if_neg e4_])
    have HD := Lib.hid (linesD_other e0_ e1_ e2_ e3_ e4_)
    have hnn := eql_none
    clear HP e0_ e1_ e2_ e3_ e4_
    go_enter Tryz.func51, Tryz.ntmps51
    go_wp2_with (first
        | (at_lookup
           go_loud (
           refine wpList_lookup_any _ rfl _ _ 106 rfl 9 132 law6 Tryz.underlying106 fnElem _ (zeroDoes _) _ _ rfl bm _ _ rfl HM.out _ _ rfl HK.out ?_
           intro vf ps hvf
           rw [HD.out] at hvf
           obtain rfl := fnElem_nil hvf
           clear hvf)))
    go_ret
    exact LineP.same HS.out (Below.refl _ _) HQ.out
end Go.Proofs.YtdkpnbjkehakjaaGreatDoor
