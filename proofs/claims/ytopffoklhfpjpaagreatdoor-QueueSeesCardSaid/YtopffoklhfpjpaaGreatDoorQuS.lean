import Derived.Test.YtopffoklhfpjpaaGreatDoorQueB
import Derived.Test.YtopffoklhfpjpaaGreatDoorQuE
import Derived.Laws.EntriesVeiled
set_option linter.unusedSimpArgs false
set_option linter.unusedVariables false
/-! queue: which events are seen -/
namespace Go.Proofs.YtopffoklhfpjpaaGreatDoor
open Go.RowKit
/-- is an event of the kind, may it be, is its level low? -/
def picksB (nL : Nat) (O : List (ByteArray × Int)) (lowf : Nat → Bool) (kd : Int) (e : Ev) : Bool := decide (e.k = kd) && (allowB O.length nL e.k e.r e.f e.a && (if kd = 1 then lowf (chAt O e.r.toNat).2.toNat else lowf e.r.toNat))
/-- what the closure sees -/
structure ViewM (W : World) (kb nb lb pb g nL : Nat) (O : List (ByteArray × Int)) (lowf : Nat → Bool) (kd : Int) (v0 v1 v2 v4 : Value) (a3 : Option Addr) (k3 : Nat) : Prop where
  kind : W.heap[kb]? = some (.cells #[.int .u8 kd] 5)
  known : W.heap[nb]? = some (.cells #[.int .i64 O.length, .int .i64 nL] 76)
  low : W.heap[lb]? = some (.cells #[.slice (some ⟨g, 0, none⟩) nL nL] 87)
  pol : W.heap[pb]? = some (.cells #[v0, v1, v2, .slice a3 O.length k3, v4] 26)
  row : W.rowIs g 4 nL (fun j => .bool (lowf j))
  outs : Chans W.heap.size W (.slice a3 O.length k3) O
theorem ViewM.on {W W' : World} {kb nb lb pb g nL : Nat} {O : List (ByteArray × Int)} {lowf : Nat → Bool} {kd : Int} {v0 v1 v2 v4 : Value} {a3 : Option Addr} {k3 : Nat} (h : ViewM W kb nb lb pb g nL O lowf kd v0 v1 v2 v4 a3 k3) (hb : Below W.heap.size W W') : ViewM W' kb nb lb pb g nL O lowf kd v0 v1 v2 v4 a3 k3 :=
  ⟨(hb.block _ (heap_some_lt h.kind)).trans h.kind, (hb.block _ (heap_some_lt h.known)).trans h.known, (hb.block _ (heap_some_lt h.low)).trans h.low, (hb.block _ (heap_some_lt h.pol)).trans h.pol, World.rowIs.of_block h.row (hb.block _ (World.rowIs.lt h.row)), chans_on h.outs hb⟩
theorem one_cell {W : World} {b : Nat} {v : Value} {t : TypeId} (h : W.heap[b]? = some (.cells #[v] t)) : W.cell? ⟨b, 0, none⟩ = some v := by simp [World.cell?, h]
theorem two_cell {W : World} {b : Nat} {v u : Value} {t : TypeId} (h : W.heap[b]? = some (.cells #[v, u] t)) : W.cell? ⟨b, 0, none⟩ = some v ∧ W.cell? ⟨b, 1, none⟩ = some u := by constructor <;> simp [World.cell?, h]

set_option maxRecDepth 100000 in
set_option maxHeartbeats 3200000 in
theorem view_any {W : World} {kb nb lb pb g nL : Nat} {O : List (ByteArray × Int)} {lowf : Nat → Bool} {kd : Int} {v0 v1 v2 v4 : Value} {a3 : Option Addr} {k3 : Nat} (e : Ev) (h : ViewM W kb nb lb pb g nL O lowf kd v0 v1 v2 v4 a3 k3) (hO : ∀ j, j < O.length → 0 ≤ (chAt O j).2 ∧ (chAt O j).2 < nL) (hO32 : O.length ≤ 32) (hL64 : nL ≤ 64) :
    Calls Tryz.prog 53 #[.agg #[.int .u8 e.k, .int .i64 e.r, .int .i64 e.v, .int .i64 e.f, .int .i64 e.a], .pointer (some ⟨kb, 0, none⟩), .pointer (some ⟨nb, 0, none⟩), .pointer (some ⟨lb, 0, none⟩), .pointer (some ⟨pb, 0, none⟩)] W fun e' w' => e' = .returned (.bool (picksB nL O lowf kd e)) ∧ Below W.heap.size W w' := by
  obtain ⟨W0, eW0⟩ : ∃ W0, W0 = W.alloc (.cells #[.int .u8 e.k, .int .i64 e.r, .int .i64 e.v, .int .i64 e.f, .int .i64 e.a] 44) := ⟨_, rfl⟩
  have HB0 := Lib.hid (show Below W.heap.size W W0 by rw [eW0]; exact (Below.refl _ _).alloc (Nat.le_refl _) _)
  have HO0 := Lib.hid (show W0.heap[W.heap.size]? = some (.cells #[.int .u8 e.k, .int .i64 e.r, .int .i64 e.v, .int .i64 e.f, .int .i64 e.a] 44) by rw [eW0]; exact new_block rfl rfl)
  have HV := Lib.hid (h.on HB0.out)
  have EW0 := Lib.hid eW0
  clear h
  have x1 := one_cell HV.out.kind
  rw [eW0] at x1
  clear eW0
  by_cases hk : e.k = kd
  · have t1 : (e.k != kd) = false := bne_eq_false_iff_eq.2 hk
    cases ha : allowB O.length nL e.k e.r e.f e.a
    · have HAL := Lib.hid ha
      have HN := Lib.hid (show picksB nL O lowf kd e = false by unfold picksB; rw [ha]; simp)
      obtain ⟨y0, y1⟩ := two_cell HV.out.known
      rw [EW0.out] at y0 y1
      clear hk ha
      go_enter Tryz.func53, Tryz.ntmps53
      go_wp2_with (go_at_call 35; rw [← EW0.out]; refine (allow_any _ _ _ _ _ _ _ _).mono ?_; rintro e' w1 ⟨rfl, hb⟩; rw [HAL.out]; have HB1 := Lib.hid hb; clear hb)
      go_ret
      exact ⟨ret_bool HN.out.symm, QQ.step HB0.out HB1.out⟩
    · have HAL := Lib.hid ha
      have hr : 0 ≤ e.r ∧ e.r < (if e.k = 1 then (O.length : Int) else if e.k = 2 then (nL : Int) else 0) := by
        unfold allowB at ha
        simp only [Bool.and_eq_true, decide_eq_true_eq] at ha
        exact ⟨ha.1.1.1, ha.1.1.2⟩
      obtain ⟨q, hq⟩ : ∃ q : Nat, e.r = q := ⟨e.r.toNat, by omega⟩
      by_cases h1 : kd = 1
      · have hqO : q < O.length := by rw [hk, if_pos h1] at hr; omega
        have t2 : (kd == 1) = true := beq_iff_eq.2 h1
        have hlv := hO q hqO
        obtain ⟨ln, el⟩ : ∃ ln : Nat, (chAt O q).2 = ln := ⟨(chAt O q).2.toNat, by omega⟩
        have HY := Lib.hid (show picksB nL O lowf kd e = lowf ln by unfold picksB; rw [ha, decide_eq_true hk, if_pos h1, hq, Int.toNat_natCast, el]; rfl)
        obtain ⟨y0, y1⟩ := two_cell HV.out.known
        rw [EW0.out] at y0 y1
        have i1 : (0 : Int) ≤ q ∧ (q : Int) < O.length := by omega
        have i2 : (0 : Int) ≤ ln ∧ (ln : Int) < nL := by rw [el] at hlv; omega
        have hln : ln < nL := by omega
        rw [hq] at EW0 HO0 x1 y0 y1
        have HQ := Lib.hid hq
        have HEL := Lib.hid el
        clear hk ha hr h1 hlv el
        go_enter Tryz.func53, Tryz.ntmps53
        rw [HQ.out]
        go_wp2_with (go_at_call 35; rw [← EW0.out]; refine (allow_any _ _ _ _ _ _ _ _).mono ?_; rintro e' w1 ⟨rfl, hb⟩; rw [← HQ.out, HAL.out]; have HB1 := Lib.hid hb; have HV1 := Lib.hid (HV.out.on hb); obtain ⟨p0, p1, p2, p3, p4⟩ := obj5_cell HO0.out hb; obtain ⟨_, _, _, m3, _⟩ := block_cells HV1.out.pol; have n1 := one_cell HV1.out.low; have n2 := one_cell HV1.out.kind; clear hb x1 y0 y1)
        obtain ⟨ob, oo, ea, _, c2⟩ := HV1.out.outs.at hqO
        rw [HEL.out] at c2
        subst ea
        have cl := World.rowIs.cell HV1.out.row hln
        clear p0 p2 p3 p4
        go_quiet (fail)
        go_wp2_with fail
        go_ret
        exact ⟨ret_bool HY.out.symm, QQ.step HB0.out (QQ.dN HB1.out _)⟩
      · have t2 : (kd == 1) = false := beq_eq_false_iff_ne.2 h1
        have hqL : q < nL := by
          rw [hk, if_neg h1] at hr
          by_cases h2 : kd = 2
          · rw [if_pos h2] at hr; omega
          · rw [if_neg h2] at hr; omega
        have HY := Lib.hid (show picksB nL O lowf kd e = lowf q by unfold picksB; rw [ha, decide_eq_true hk, if_neg h1, hq, Int.toNat_natCast]; rfl)
        obtain ⟨y0, y1⟩ := two_cell HV.out.known
        rw [EW0.out] at y0 y1
        have i1 : (0 : Int) ≤ q ∧ (q : Int) < nL := by omega
        rw [hq] at EW0 HO0 x1 y0 y1
        have HQ := Lib.hid hq
        clear hk ha hr h1
        go_enter Tryz.func53, Tryz.ntmps53
        rw [HQ.out]
        go_wp2_with (go_at_call 35; rw [← EW0.out]; refine (allow_any _ _ _ _ _ _ _ _).mono ?_; rintro e' w1 ⟨rfl, hb⟩; rw [← HQ.out, HAL.out]; have HB1 := Lib.hid hb; have HV1 := Lib.hid (HV.out.on hb); obtain ⟨p0, p1, p2, p3, p4⟩ := obj5_cell HO0.out hb; have n1 := one_cell HV1.out.low; have n2 := one_cell HV1.out.kind; have cl := World.rowIs.cell HV1.out.row hqL; clear hb x1 y0 y1)
        go_ret
        exact ⟨ret_bool HY.out.symm, QQ.step HB0.out HB1.out⟩
  · have t1 : (e.k != kd) = true := bne_iff_ne.2 hk
    have HN := Lib.hid (show picksB nL O lowf kd e = false by unfold picksB; rw [decide_eq_false hk]; rfl)
    clear hk
    go_enter Tryz.func53, Tryz.ntmps53
    go_wp2_with fail
    go_ret
    exact ⟨ret_bool HN.out.symm, by rw [← EW0.out]; exact HB0.out⟩

set_option maxRecDepth 100000 in
theorem viewer_any (v0 v1 v2 v3 : Value) (st : PSt) (d : Value) (a0 a3 : Option Addr) (k0 k3 : Nat) (e0 : v0 = .slice a0 st.L.length k0) (e3 : v3 = .slice a3 st.O.length k3) (kd : Int) (g : Nat) (lowf : Nat → Bool) (w : World)
    (hg : w.rowIs g 4 st.L.length (fun j => .bool (lowf j))) (hO : Chans w.heap.size w v3 st.O) :
    Calls Tryz.prog 38 #[.agg #[v0, v1, v2, v3, d], .int .u8 kd, .slice (some ⟨g, 0, none⟩) st.L.length st.L.length] w fun e w' => ∃ kb nb lb pb, e = .returned (.func (.func 53) #[] #[.pointer (some ⟨kb, 0, none⟩), .pointer (some ⟨nb, 0, none⟩), .pointer (some ⟨lb, 0, none⟩), .pointer (some ⟨pb, 0, none⟩)]) ∧
      ViewM w' kb nb lb pb g st.L.length st.O lowf kd v0 v1 v2 d a3 k3 ∧ Below w.heap.size w w' := by
  subst e0 e3
  obtain ⟨W0, eW0⟩ : ∃ W0, W0 = ((w.alloc (.cells #[.slice a0 st.L.length k0, v1, v2, .slice a3 st.O.length k3, d] 26)).alloc (.cells #[.int .u8 kd] 5)).alloc (.cells #[.slice (some ⟨g, 0, none⟩) st.L.length st.L.length] 87) := ⟨_, rfl⟩
  have HB0 := Lib.hid (show Below w.heap.size w W0 by rw [eW0]; exact (((Below.refl _ _).alloc (Nat.le_refl _) _).alloc (by simp) _).alloc (by simp; omega) _)
  have HP := Lib.hid (show W0.heap[w.heap.size]? = some (.cells #[.slice a0 st.L.length k0, v1, v2, .slice a3 st.O.length k3, d] 26) by
    rw [eW0, Below.heap_alloc _ _ _ (by simp; omega), Below.heap_alloc _ _ _ (by simp)]; exact new_block rfl rfl)
  have HK := Lib.hid (show W0.heap[w.heap.size + 1]? = some (.cells #[.int .u8 kd] 5) by rw [eW0, Below.heap_alloc _ _ _ (by simp)]; exact new_block rfl (by simp))
  have HL := Lib.hid (show W0.heap[w.heap.size + 1 + 1]? = some (.cells #[.slice (some ⟨g, 0, none⟩) st.L.length st.L.length] 87) by rw [eW0]; exact new_block rfl (by simp))
  have EW0 := Lib.hid eW0
  have hmf : ∀ (fn : Fn) (first cap : Array Value) (w : World), (Instr.makeFunc fn first cap).run Tryz.prog w = .ok (.func fn first cap) w := fun _ _ _ _ => rfl
  have HG := Lib.hid hg
  have HOO := Lib.hid hO
  clear eW0 hg hO
  go_enter Tryz.func38, Tryz.ntmps38
  go_wp2_with (go_at_call 31; rw [← EW0.out]; refine (boundsOf_any a0 a3 st.L.length k0 st.O.length k3 _ _ _ _).mono ?_; rintro e' w1 ⟨rfl, hb⟩; have HB1 := Lib.hid hb; clear hb)
  have HBA := Lib.hid ((Below.refl w1.heap.size w1).alloc (Nat.le_refl _) (.cells #[.int .i64 st.O.length, .int .i64 st.L.length] 76))
  have HBB := Lib.hid (HB1.out.trans (HBA.out.mono HB1.out.size))
  go_ret
  refine ⟨w.heap.size + 1, w1.heap.size, w.heap.size + 1 + 1, w.heap.size, rfl, ⟨(HBB.out.block _ (heap_some_lt HK.out)).trans HK.out, new_block rfl rfl, (HBB.out.block _ (heap_some_lt HL.out)).trans HL.out, (HBB.out.block _ (heap_some_lt HP.out)).trans HP.out, World.rowIs.of_block HG.out ((QQ.step HB0.out HBB.out).block _ (World.rowIs.lt HG.out)), chans_on HOO.out (QQ.step HB0.out HBB.out)⟩, QQ.step HB0.out HBB.out⟩
end Go.Proofs.YtopffoklhfpjpaaGreatDoor

/-! queue: the project's Seen -/
namespace Go.Proofs.YtopffoklhfpjpaaGreatDoor
open Go.RowKit
def seenList (st : PSt) (S : List Int) (lv kd : Int) (es : List Ev) : List Ev := if lowsOk st S lv = true then es.filter (picksB st.L.length st.O (lowB S lv) kd) else []
theorem filter_no {p : Ev → Bool} {es : List Ev} {i : Nat} (hi : i < es.length) (h : p (evAt es i) = false) : (es.take (i + 1)).filter p = (es.take i).filter p := by
  unfold evAt at h
  rw [List.getElem?_eq_getElem hi, Option.getD_some] at h
  rw [List.take_succ_eq_append_getElem hi, List.filter_append, List.filter_cons_of_neg (by rw [h]; simp)]
  simp
theorem filter_yes {p : Ev → Bool} {es : List Ev} {i : Nat} (hi : i < es.length) (h : p (evAt es i) = true) : (es.take (i + 1)).filter p = (es.take i).filter p ++ [evAt es i] := by
  unfold evAt at h ⊢
  rw [List.getElem?_eq_getElem hi, Option.getD_some] at h ⊢
  rw [List.take_succ_eq_append_getElem hi, List.filter_append, List.filter_cons_of_pos h]
  simp
theorem filter_len (p : Ev → Bool) (es : List Ev) (i : Nat) : ((es.take i).filter p).length ≤ es.length := by
  have h1 := List.length_filter_le p (es.take i)
  rw [List.length_take] at h1
  omega
theorem ev_one (a b c d e : Int) : (#[.int .u8 a, .int .i64 b, .int .i64 c, .int .i64 d, .int .i64 e] : Array Value).all (·.oneCell') = true := by simp [Value.oneCell']
theorem ev_new (w : World) (x : Ev) (t : TypeId) {b : Nat} (h : w.heap.size = b) : ∀ (j : Nat) (u : Value), (evC x)[j]? = some u → (w.alloc (.cells #[.int .u8 x.k, .int .i64 x.r, .int .i64 x.v, .int .i64 x.f, .int .i64 x.a] t)).cell? ((⟨b, 0, none⟩ : Addr).add j) = some u := by
  subst h
  intro j u hj
  rw [Addr.add_lit]
  simp only [World.cell?, heap_alloc_new, Nat.zero_add]
  simpa [evC] using hj

set_option maxRecDepth 100000 in
set_option maxHeartbeats 6400000 in
theorem seen_any (v0 v1 v2 v3 : Value) (st : PSt) (S : List Int) (lv kd : Int) (a : Value) (es : List Ev) (w : World) (h : PolIn w v0 v1 v2 v3 st S) (hw : Wide S) (hTz : Tz w) (hsh : Short6 st) (ha : EvRow w.heap.size w a es) (hx : es.length ≤ 1000000) :
    Calls Tryz.prog 21 #[.agg #[v0, v1, v2, v3, .int .i64 st.D], .int .i64 lv, .int .u8 kd, a] w fun e w' => (∃ v, e = .returned v ∧ EvRow w'.heap.size w' v (seenList st S lv kd es)) ∧ Below w.heap.size w w' := by
  obtain ⟨a0, k0, rfl⟩ := h.s0.form
  obtain ⟨a1, k1, rfl⟩ := h.s1.form
  obtain ⟨a2, k2, rfl⟩ := h.s2.form
  obtain ⟨a3, k3, rfl⟩ := h.s3.form
  obtain ⟨aa, ca, rfl⟩ := ha.form
  obtain ⟨i0, hi0, hz0, hz1, hz2⟩ := info_parts Tryz.infoQEvent
  have hzc := fun (w : World) => run_zeroEv w
  obtain ⟨W0, eW0⟩ : ∃ W0, W0 = w.alloc (.cells #[.slice a0 st.L.length k0, .slice a1 S.length k1, .slice a2 st.I.length k2, .slice a3 st.O.length k3, .int .i64 st.D] 26) := ⟨_, rfl⟩
  have HB0 := Lib.hid (show Below w.heap.size w W0 by rw [eW0]; exact (Below.refl _ _).alloc (Nat.le_refl _) _)
  have HO0 := Lib.hid (show W0.heap[w.heap.size]? = some (.cells #[.slice a0 st.L.length k0, .slice a1 S.length k1, .slice a2 st.I.length k2, .slice a3 st.O.length k3, .int .i64 st.D] 26) by rw [eW0]; exact new_block rfl rfl)
  have HP0 := Lib.hid (h.below HB0.out)
  have HT0 := Lib.hid (hTz.on HB0.out)
  have HA0 := Lib.hid ha
  have HSH := Lib.hid hsh
  have HWD := Lib.hid hw
  have EW0 := Lib.hid eW0
  clear h hTz hsh hw eW0 ha
  cases hl : lowsOk st S lv
  · have HLO := Lib.hid hl
    have HE := Lib.hid (show seenList st S lv kd es = [] by unfold seenList; rw [hl]; rfl)
    clear hl
    go_enter Tryz.func21, Tryz.ntmps21
    go_wp2_with (go_at_call 37; rw [← EW0.out]; refine (qbelow_any _ _ _ _ st S lv _ HP0.out HWD.out HT0.out HSH.out).mono ?_; rintro e w1 ⟨hb, ⟨h1, _⟩ | ⟨h1, rfl⟩⟩; (rw [HLO.out] at h1; cases h1); have HB1 := Lib.hid hb; clear hb h1)
    go_ret
    exact ⟨⟨_, rfl, by rw [HE.out]; exact .inl ⟨⟨_, _, rfl, fun _ => rfl⟩, rfl⟩⟩, QQ.step HB0.out HB1.out⟩
  · have HLO := Lib.hid hl
    have hr : rightP st S = true := by unfold lowsOk at hl; simp only [Bool.and_eq_true] at hl; exact hl.1.1
    have HRS := Lib.hid (right_sizes hr)
    have HE := Lib.hid (show seenList st S lv kd es = es.filter (picksB st.L.length st.O (lowB S lv) kd) by unfold seenList; rw [if_pos hl])
    clear hl hr
    go_enter Tryz.func21, Tryz.ntmps21
    go_wp2_with (first
      | (go_at_call 38; refine (viewer_any _ _ _ _ st _ a0 a3 k0 k3 rfl rfl kd g (lowB S lv) w1 HGR.out (chans_on HP0.out.s3 HB1.out)).mono ?_; rintro e w2 ⟨kb, nb, lb, pb, rfl, hv, hb2⟩; have HV2 := Lib.hid hv; have HB2 := Lib.hid (HB1.out.trans (hb2.mono HB1.out.size)); clear hv hb2 p0 p1 p2 p3 p4)
      | (go_at_call 37; rw [← EW0.out]; refine (qbelow_any _ _ _ _ st S lv _ HP0.out HWD.out HT0.out HSH.out).mono ?_; rintro e w1 ⟨hb, ⟨h1, g, rfl, hgB, hgr⟩ | ⟨h1, _⟩⟩; (case inr => rw [HLO.out] at h1; cases h1); have HB1 := Lib.hid hb; have HGR := Lib.hid hgr; obtain ⟨p0, p1, p2, p3, p4⟩ := obj5_cell HO0.out hb; clear hb h1 hgB hgr))
    have HBW := Lib.hid (HB0.out.trans (HB2.out.mono HB0.out.size))
    go_loopw [12, 29] (fun o k wr => ∃ i : Nat, i ≤ es.length ∧ k = .int .i64 (i : Int) ∧ wr.ownsRow w2.heap.size 44 5 o ((es.take i).filter (picksB st.L.length st.O (lowB S lv) kd)).length (evCells ((es.take i).filter (picksB st.L.length st.O (lowB S lv) kd))) ∧ Below w2.heap.size w2 wr) (fun _ k _ => es.length - (intOf k).toNat)
    case atStart => exact ⟨0, by omega, rfl, by simpa [evCells] using World.ownsRow_nil w2 w2.heap.size 44 5, Below.refl _ _⟩
    case round =>
      obtain ⟨i, hi, rfl, hO, hB⟩ := hrel
      have HO := Lib.hid hO
      have HB := Lib.hid hB
      clear hO hB
      by_cases hlt : i < es.length
      · obtain ⟨eb, eo, rfl, _, hc⟩ := (HA0.out.below (HBW.out.trans (HB.out.mono HBW.out.size))).at hlt
        have HNO := Lib.hid (fun h => filter_no (p := picksB st.L.length st.O (lowB S lv) kd) hlt h)
        have HYES := Lib.hid (fun h => filter_yes (p := picksB st.L.length st.O (lowB S lv) kd) hlt h)
        have HLEN := Lib.hid (filter_len (picksB st.L.length st.O (lowB S lv) kd) es i)
        have i1 : (0 : Int) ≤ i ∧ (i : Int) < es.length := by omega
        obtain ⟨x, ex⟩ : ∃ x, x = evAt es i := ⟨_, rfl⟩
        rw [← ex] at hc HNO HYES
        have HC := Lib.hid hc
        clear ex hc
        obtain ⟨xs, hxs⟩ : ∃ xs, xs = (es.take i).filter (picksB st.L.length st.O (lowB S lv) kd) := ⟨_, rfl⟩
        rw [← hxs] at HO HNO HYES HLEN
        clear hxs
        obtain ⟨wa, ewa⟩ : ∃ wa, wa = wr.alloc (.cells #[.int .u8 x.k, .int .i64 x.r, .int .i64 x.v, .int .i64 x.f, .int .i64 x.a] 44) := ⟨_, rfl⟩
        have HWA := Lib.hid (show Below wr.heap.size wr wa by rw [ewa]; exact (Below.refl _ _).alloc (Nat.le_refl _) _)
        have HOA := Lib.hid (show wa.heap[wr.heap.size]? = some (.cells #[.int .u8 x.k, .int .i64 x.r, .int .i64 x.v, .int .i64 x.f, .int .i64 x.a] 44) by rw [ewa]; exact new_block rfl rfl)
        have HBA := Lib.hid (HB.out.trans (HWA.out.mono HB.out.size))
        have HVA := Lib.hid (HV2.out.on HBA.out)
        have HOW := Lib.hid (show wa.ownsRow w2.heap.size 44 5 u12 xs.length (evCells xs) by rw [ewa]; exact HO.out.alloc _)
        have EWA := Lib.hid ewa
        clear ewa
        cases hp : picksB st.L.length st.O (lowB S lv) kd x
        · have HPX := Lib.hid hp
          have HNX := Lib.hid (HNO.out hp)
          clear hp
          go_wp2_with (first
            | (refine wpList_loadEv rfl (.tmp 31) rfl eb (eo + i * 5) rfl x HC.out ?_)
            | (refine wpList_store_row rfl 44 (.tmp 14) (.tmp 32) rfl _ #[.int .u8 x.k, .int .i64 x.r, .int .i64 x.v, .int .i64 x.f, .int .i64 x.a] rfl rfl 44 #[.int .u8 0, .int .i64 0, .int .i64 0, .int .i64 0, .int .i64 0] (heap_alloc_new _ _) (by kernel_rfl) rfl (ev_one _ _ _ _ _) ?_
               rw [setRow_new6])
            | (go_at_call 53; rw [← EWA.out]; refine (view_any x HVA.out HRS.out.2.2.2.2.2.2 HRS.out.2.2.2.1 HRS.out.1).mono ?_; rintro e w4 ⟨rfl, hb⟩; rw [HPX.out]; have HB4 := Lib.hid hb; clear hb))
          go_roundw
          case rel => exact ⟨i + 1, by omega, by go_num, by rw [HNX.out]; exact HOW.out.kept (row := none) ⟨HB4.out.os, HB4.out.tape, HB4.out.output, HB4.out.size, fun k hk _ => HB4.out.block k hk⟩ (Classical.em _), HBA.out.trans (HB4.out.mono HBA.out.size)⟩
          case measure => simp [intOf]; omega
        · have HPX := Lib.hid hp
          have HNX := Lib.hid (HYES.out hp)
          clear hp
          go_wp2_with (first
            | (refine wpList_loadEv rfl (.tmp 31) rfl eb (eo + i * 5) rfl x HC.out ?_)
            | (refine wpList_store_row rfl 44 (.tmp 14) (.tmp 32) rfl _ #[.int .u8 x.k, .int .i64 x.r, .int .i64 x.v, .int .i64 x.f, .int .i64 x.a] rfl rfl 44 #[.int .u8 0, .int .i64 0, .int .i64 0, .int .i64 0, .int .i64 0] (heap_alloc_new _ _) (by kernel_rfl) rfl (ev_one _ _ _ _ _) ?_
               rw [setRow_new6])
            | (go_at_call 53; rw [← EWA.out]; refine (view_any x HVA.out HRS.out.2.2.2.2.2.2 HRS.out.2.2.2.1 HRS.out.1).mono ?_; rintro e w4 ⟨rfl, hb⟩; rw [HPX.out]; have HB4 := Lib.hid hb; have HB5 := Lib.hid (HBA.out.trans (hb.mono HBA.out.size)); have HOX := Lib.hid (show w4.ownsRow w2.heap.size 44 5 u12 xs.length (evCells xs) from HOW.out.kept (row := none) ⟨hb.os, hb.tape, hb.output, hb.size, fun k hk _ => hb.block k hk⟩ (Classical.em _)); obtain ⟨q0, q1, q2, q3, q4⟩ := obj5_cell HOA.out hb; clear hb)
            | (at_builtin
               go_loud (
               refine wpList_append_any rfl _ _ 37 rfl w2.heap.size 44 i0 (.agg #[.int .u8 0, .int .i64 0, .int .i64 0, .int .i64 0, .int .i64 0]) 5 40 Tryz.underlying37 hi0 hz0 hz1 hz2 rfl (by decide) u12 xs.length (evCells xs) rfl (HOX.out.alloc _) (.slice (some ⟨w4.heap.size, 0, none⟩) 1 1) 1 (evC x) rfl rfl (.inr ⟨_, _, rfl, ev_new _ _ _ rfl⟩) (evC_one x) (by have := HLEN.out; unfold maxLen; omega) (by have := HLEN.out; omega) (by have := HB5.out.size; simp; omega) ?_
               intro v5 w5 ho hg
               have HD := Lib.hid (show w5.ownsRow w2.heap.size 44 5 v5 (xs ++ [x]).length (evCells (xs ++ [x])) ∧ Below w2.heap.size w2 w5 from ⟨by rw [List.length_append, evCells_snoc]; exact ho, (HB5.out.alloc HB5.out.size _).grown hg (by have := HB5.out.size; simp; omega) (fun k e => (HOX.out.lt k e).1)⟩)
               clear ho hg)))
          go_roundw
          case rel => exact ⟨i + 1, by omega, by go_num, by rw [HNX.out]; exact HD.out.1, HD.out.2⟩
          case measure => simp [intOf]; omega
      · have HY := Lib.hid (show EvRow wr.heap.size wr u12 (seenList st S lv kd es) by
          have h := ev_of_row HO.out
          rw [List.take_of_length_le (by omega)] at h
          rw [HE.out]; exact h)
        go_wp2_with fail
        go_ret
        exact ⟨⟨_, rfl, HY.out⟩, HBW.out.trans (HB.out.mono HBW.out.size)⟩
end Go.Proofs.YtopffoklhfpjpaaGreatDoor
