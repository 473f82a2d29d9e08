import Derived.Test.YtgfjdnmnjabbbaaDoorPolO
import Derived.Test.YtgfjdnmnjabbbaaDoorPolJ
import Derived.Test.YtgfjdnmnjabbbaaDoorPolP
import Derived.StringKeys
set_option linter.unusedSimpArgs false
set_option linter.unusedVariables false
/-! policy: a line's first word finds what it does -/
namespace Go.Proofs.YtgfjdnmnjabbbaaDoor
open Go.RowKit
open Go.Maps (Keyed string_keyed)

def wLevel : ByteArray := ⟨#[108, 101, 118, 101, 108]⟩
def wFlow : ByteArray := ⟨#[102, 108, 111, 119]⟩
def wInput : ByteArray := ⟨#[105, 110, 112, 117, 116]⟩
def wOutput : ByteArray := ⟨#[111, 117, 116, 112, 117, 116]⟩
def wDepth : ByteArray := ⟨#[100, 101, 112, 116, 104]⟩
def kS (s : ByteArray) : Lit := .string s.data.toList
/-- what the map holds -/
def linesD : DataW Unit :=
  (((((DataW.map []).put (kS wLevel) (fnD 33)).put (kS wFlow) (fnD 34)).put (kS wInput) (fnD 35)).put (kS wOutput) (fnD 36)).put (kS wDepth) (fnD 37)
theorem law6 : Keyed Tryd.prog 9 := string_keyed Tryd.underlying9
theorem key6 {s : ByteArray} (h : s.size ≤ 1000000) : keyOf Tryd.prog 9 (.string s) = some (kS s) := WideMaps.keyOf_string_mk Tryd.underlying9 (by unfold maxLen; omega)
theorem zeroDoes (w : World) : (zeroValue 73).run Tryd.prog w = .ok .nilFunc w := by kernel_rfl
theorem eql_does (g : Nat) (w : World) : (Go.binOp .eql 73 (.func (.func g) #[] #[]) .nilFunc).run Tryd.prog w = .ok (.bool false) w := by kernel_rfl
theorem eql_none (w : World) : (Go.binOp .eql 73 .nilFunc .nilFunc).run Tryd.prog w = .ok (.bool true) w := by kernel_rfl
theorem kS_ne {s t : ByteArray} (h : s ≠ t) : kS s ≠ kS t := by
  intro e
  simp only [kS, Lit.string.injEq, Array.toList_inj] at e
  exact h (ByteArray.ext e)

set_option maxRecDepth 100000 in
set_option maxHeartbeats 3200000 in
theorem lines_any (w : World) :
    Calls Tryd.prog 25 #[] w fun e w' => e = .returned (.map (some w.heap.size)) ∧ w'.ownsMap Tryd.prog 9 fnElem w.heap.size 5 linesD ∧ Below w.heap.size w w' := by
  have hmm := @run_makeMap Tryd.prog
  have hown : (w.alloc (.map #[] 0)).ownsMap Tryd.prog 9 fnElem w.heap.size 0 (.map []) := World.ownsMap_made _ _ _ _
  have hb : Below w.heap.size w (w.alloc (.map #[] 0)) := (Below.refl _ _).alloc (Nat.le_refl _) _
  go_enter Tryd.func25, Tryd.ntmps25
  go_wp2_with (first
    | (refine wpList_insert_own _ rfl _ _ _ 57 rfl 9 73 law6 Tryd.underlying57 fnElem w.heap.size _ _ rfl hown (by unfold maxLen; omega) _ _ _ rfl rfl (key6 (by decide)) (fnD _) [] rfl ?_
       clear hown
       intro w1 hown hg
       have hb1 := hb.grown hg hb.size (fun k e => by cases e; exact Nat.le_refl _)
       clear hb hg
       have hb := hb1
       clear hb1)
    | fail)
  go_ret
  exact ⟨rfl, hown, hb⟩

theorem linesD_other {s : ByteArray} (h1 : s ≠ wLevel) (h2 : s ≠ wFlow) (h3 : s ≠ wInput) (h4 : s ≠ wOutput) (h5 : s ≠ wDepth) : linesD.atKey (kS s) (.nil : DataW Unit) = .nil := by
  unfold linesD
  rw [Go.Maps.atKey_put_other (kS_ne h5), Go.Maps.atKey_put_other (kS_ne h4), Go.Maps.atKey_put_other (kS_ne h3), Go.Maps.atKey_put_other (kS_ne h2), Go.Maps.atKey_put_other (kS_ne h1)]
  rfl
/-- what a line does, which is its words -/
def doP (st : PSt) (ws : List ByteArray) : PSt × Int :=
  if ws.length = 0 then (st, 0) else if (wd6 ws 0).data.toList[0]? = some 35 then (st, 0)
  else if wd6 ws 0 = wLevel then levelP st ws else if wd6 ws 0 = wFlow then flowP st ws else if wd6 ws 0 = wInput then chanIP st ws
  else if wd6 ws 0 = wOutput then chanOP st ws else if wd6 ws 0 = wDepth then depthP st ws else (st, 8)

set_option maxRecDepth 100000 in
set_option maxHeartbeats 6400000 in
theorem do6_any (B r n bm m : Nat) (v : Value) (ws : List ByteArray) (w : World) (vL vI vO vF : Value) (st : PSt) (hS : RSt B r w vL vI vO vF st) (hv : Strs n w v ws) (hn : n ≤ w.heap.size) (hf : FreeV r w v) (hz : ∀ j, (wd6 ws j).size ≤ 65536)
    (hF : st.F.length ≤ 1000000) (hE : Errs w) (hPw : Pow w) (hM : w.ownsMap Tryd.prog 9 fnElem bm m linesD) (h1 : ∀ j, j < ws.length → 0 < (wd6 ws j).size) :
    Calls Tryd.prog 29 #[.pointer (some ⟨r, 0, none⟩), .map (some bm), v] w (LineP B r w (doP st ws)) := by
  by_cases h0 : ws.length = 0
  · have e0 : ((ws.length : Int) == 0) = true := by rw [beq_iff_eq]; omega
    have HP := Lib.hid (show doP st ws = (st, 0) by unfold doP; rw [if_pos h0])
    have HS := Lib.hid hS
    obtain ⟨a, cap, rfl⟩ := hv.form
    clear hv hS hE hPw h0 hM hf hz h1
    go_enter Tryd.func29, Tryd.ntmps29
    go_wp2_with fail
    go_ret
    exact LineP.same HS.out (Below.refl _ _) HP.out
  · obtain ⟨b, off, cap, hve, hb, hcap, hc⟩ := hv.one (by omega)
    have e0 : ((ws.length : Int) == 0) = false := by rw [beq_eq_false_iff_ne]; omega
    have hc0 := hc 0 (by omega)
    rw [Nat.add_zero] at hc0
    have hs1 := h1 0 (by omega)
    have hs2 := hz 0
    have hpos : 0 < ws.length := by omega
    have HS := Lib.hid hS
    have HV := Lib.hid hv
    have HFv := Lib.hid hf
    have HZ := Lib.hid hz
    have HE := Lib.hid hE
    have HW := Lib.hid hPw
    have HM := Lib.hid hM
    have HF := Lib.hid hF
    have hP : doP st ws = if (wd6 ws 0).data.toList[0]? = some 35 then (st, 0)
      else if wd6 ws 0 = wLevel then levelP st ws else if wd6 ws 0 = wFlow then flowP st ws else if wd6 ws 0 = wInput then chanIP st ws
      else if wd6 ws 0 = wOutput then chanOP st ws else if wd6 ws 0 = wDepth then depthP st ws else (st, 8) := by
      unfold doP; rw [if_neg h0]
    have HP := Lib.hid hP
    have hkey := key6 (s := wd6 ws 0) (by omega)
    have HK := Lib.hid hkey
    clear hP hc hv hS hf hz hE hPw hM hF h1 h0 hkey
    subst hve
    generalize wd6 ws 0 = s at *
    have hlt : 0 < s.size := hs1
    have hget : s.data.toList[0]? = some s[0] := by
      rw [List.getElem?_eq_getElem (by simpa using hlt)]; rfl
    rw [hget] at HP
    clear hget
    cases hc : ((s[0].toNat : Int) == 35)
    rotate_left
    · have h35 : s[0] = 35 := by
        have : s[0].toNat = 35 := by have := beq_iff_eq.1 hc; omega
        exact UInt8.toNat_inj.1 this
      have HQ := Lib.hid (show doP st ws = (st, 0) by rw [HP.out, if_pos (by rw [h35])])
      clear HP h35
      go_enter Tryd.func29, Tryd.ntmps29
      go_wp2_with fail
      go_ret
      exact LineP.same HS.out (Below.refl _ _) HQ.out
    have h35 : ¬ (some s[0] = some (35 : UInt8)) := by
      intro e
      have e2 : s[0] = 35 := Option.some.inj e
      rw [e2] at hc
      exact absurd hc (by decide)
    rw [if_neg h35] at HP
    clear h35
    by_cases e0_ : s = wLevel
    · subst e0_
      have HQ := Lib.hid (show doP st ws = levelP st ws by rw [HP.out]; rw [if_pos rfl])
      have HD := Lib.hid (show linesD.atKey (kS wLevel) (.nil : DataW Unit) = fnD 33 by kernel_rfl)
      have hnn := eql_does 33
      clear HP
      go_enter Tryd.func29, Tryd.ntmps29
      go_wp2_with (first
        | (at_lookup
           go_loud (
           refine wpList_lookup_any _ rfl _ _ 57 rfl 9 73 law6 Tryd.underlying57 fnElem _ (zeroDoes _) _ _ rfl bm _ _ rfl HM.out _ _ rfl HK.out ?_
           intro vf ps hvf
           rw [HD.out] at hvf
           obtain rfl := fnElem_fn hvf
           clear hvf)))
      refine (level6_any B r n _ ws _ vL vI vO vF st HS.out HV.out hn HFv.out HZ.out).mono ?_
      rw [← HQ.out]
      rintro e w' ⟨rfl, h1, h2⟩
      have H1 := Lib.hid h1
      have H2 := Lib.hid h2
      clear h1 h2 hnn
      go_wp2_with fail
      go_ret
      exact ⟨rfl, H1.out, H2.out⟩
    by_cases e1_ : s = wFlow
    · subst e1_
      have HQ := Lib.hid (show doP st ws = flowP st ws by rw [HP.out]; rw [if_neg (show ¬ wFlow = wLevel by decide +kernel)]; rw [if_pos rfl])
      have HD := Lib.hid (show linesD.atKey (kS wFlow) (.nil : DataW Unit) = fnD 34 by kernel_rfl)
      have hnn := eql_does 34
      clear HP
      go_enter Tryd.func29, Tryd.ntmps29
      go_wp2_with (first
        | (at_lookup
           go_loud (
           refine wpList_lookup_any _ rfl _ _ 57 rfl 9 73 law6 Tryd.underlying57 fnElem _ (zeroDoes _) _ _ rfl bm _ _ rfl HM.out _ _ rfl HK.out ?_
           intro vf ps hvf
           rw [HD.out] at hvf
           obtain rfl := fnElem_fn hvf
           clear hvf)))
      refine (flow6_any B r n _ ws _ vL vI vO vF st HS.out HV.out hn HFv.out HZ.out HF.out).mono ?_
      rw [← HQ.out]
      rintro e w' ⟨rfl, h1, h2⟩
      have H1 := Lib.hid h1
      have H2 := Lib.hid h2
      clear h1 h2 hnn
      go_wp2_with fail
      go_ret
      exact ⟨rfl, H1.out, H2.out⟩
    by_cases e2_ : s = wInput
    · subst e2_
      have HQ := Lib.hid (show doP st ws = chanIP st ws by rw [HP.out]; rw [if_neg (show ¬ wInput = wLevel by decide +kernel)]; rw [if_neg (show ¬ wInput = wFlow by decide +kernel)]; rw [if_pos rfl])
      have HD := Lib.hid (show linesD.atKey (kS wInput) (.nil : DataW Unit) = fnD 35 by kernel_rfl)
      have hnn := eql_does 35
      clear HP
      go_enter Tryd.func29, Tryd.ntmps29
      go_wp2_with (first
        | (at_lookup
           go_loud (
           refine wpList_lookup_any _ rfl _ _ 57 rfl 9 73 law6 Tryd.underlying57 fnElem _ (zeroDoes _) _ _ rfl bm _ _ rfl HM.out _ _ rfl HK.out ?_
           intro vf ps hvf
           rw [HD.out] at hvf
           obtain rfl := fnElem_fn hvf
           clear hvf)))
      refine (input6_any B r n _ ws _ vL vI vO vF st HS.out HV.out hn HFv.out HZ.out).mono ?_
      rw [← HQ.out]
      rintro e w' ⟨rfl, h1, h2⟩
      have H1 := Lib.hid h1
      have H2 := Lib.hid h2
      clear h1 h2 hnn
      go_wp2_with fail
      go_ret
      exact ⟨rfl, H1.out, H2.out⟩
    by_cases e3_ : s = wOutput
    · subst e3_
      have HQ := Lib.hid (show doP st ws = chanOP st ws by rw [HP.out]; rw [if_neg (show ¬ wOutput = wLevel by decide +kernel)]; rw [if_neg (show ¬ wOutput = wFlow by decide +kernel)]; rw [if_neg (show ¬ wOutput = wInput by decide +kernel)]; rw [if_pos rfl])
      have HD := Lib.hid (show linesD.atKey (kS wOutput) (.nil : DataW Unit) = fnD 36 by kernel_rfl)
      have hnn := eql_does 36
      clear HP
      go_enter Tryd.func29, Tryd.ntmps29
      go_wp2_with (first
        | (at_lookup
           go_loud (
           refine wpList_lookup_any _ rfl _ _ 57 rfl 9 73 law6 Tryd.underlying57 fnElem _ (zeroDoes _) _ _ rfl bm _ _ rfl HM.out _ _ rfl HK.out ?_
           intro vf ps hvf
           rw [HD.out] at hvf
           obtain rfl := fnElem_fn hvf
           clear hvf)))
      refine (output6_any B r n _ ws _ vL vI vO vF st HS.out HV.out hn HFv.out HZ.out).mono ?_
      rw [← HQ.out]
      rintro e w' ⟨rfl, h1, h2⟩
      have H1 := Lib.hid h1
      have H2 := Lib.hid h2
      clear h1 h2 hnn
      go_wp2_with fail
      go_ret
      exact ⟨rfl, H1.out, H2.out⟩
    by_cases e4_ : s = wDepth
    · subst e4_
      have HQ := Lib.hid (show doP st ws = depthP st ws by rw [HP.out]; rw [if_neg (show ¬ wDepth = wLevel by decide +kernel)]; rw [if_neg (show ¬ wDepth = wFlow by decide +kernel)]; rw [if_neg (show ¬ wDepth = wInput by decide +kernel)]; rw [if_neg (show ¬ wDepth = wOutput by decide +kernel)]; rw [if_pos rfl])
      have HD := Lib.hid (show linesD.atKey (kS wDepth) (.nil : DataW Unit) = fnD 37 by kernel_rfl)
      have hnn := eql_does 37
      clear HP
      go_enter Tryd.func29, Tryd.ntmps29
      go_wp2_with (first
        | (at_lookup
           go_loud (
           refine wpList_lookup_any _ rfl _ _ 57 rfl 9 73 law6 Tryd.underlying57 fnElem _ (zeroDoes _) _ _ rfl bm _ _ rfl HM.out _ _ rfl HK.out ?_
           intro vf ps hvf
           rw [HD.out] at hvf
           obtain rfl := fnElem_fn hvf
           clear hvf)))
      refine (depth6_any B r n _ ws _ vL vI vO vF st HS.out HV.out hn HFv.out HZ.out HE.out HW.out).mono ?_
      rw [← HQ.out]
      rintro e w' ⟨rfl, h1, h2⟩
      have H1 := Lib.hid h1
      have H2 := Lib.hid h2
      clear h1 h2 hnn
      go_wp2_with fail
      go_ret
      exact ⟨rfl, H1.out, H2.out⟩
    have HQ := Lib.hid (show doP st ws = (st, 8) by rw [HP.out, if_neg e0_, if_neg e1_, if_neg e2_, if_neg e3_, if_neg e4_])
    have HD := Lib.hid (linesD_other e0_ e1_ e2_ e3_ e4_)
    have hnn := eql_none
    clear HP e0_ e1_ e2_ e3_ e4_
    go_enter Tryd.func29, Tryd.ntmps29
    go_wp2_with (first
        | (at_lookup
           go_loud (
           refine wpList_lookup_any _ rfl _ _ 57 rfl 9 73 law6 Tryd.underlying57 fnElem _ (zeroDoes _) _ _ rfl bm _ _ rfl HM.out _ _ rfl HK.out ?_
           intro vf ps hvf
           rw [HD.out] at hvf
           obtain rfl := fnElem_nil hvf
           clear hvf)))
    go_ret
    exact LineP.same HS.out (Below.refl _ _) HQ.out
end Go.Proofs.YtgfjdnmnjabbbaaDoor
