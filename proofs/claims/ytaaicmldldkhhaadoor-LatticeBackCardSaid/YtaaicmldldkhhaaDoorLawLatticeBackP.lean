import Derived.Test.YtaaicmldldkhhaaDoorLawLatticeBack
import Derived.Deep.RegionLaw
set_option linter.unusedSimpArgs false
set_option linter.unusedVariables false
/-! LatticeBack: the walk, where there are pairs -/
namespace Go.Proofs.YtaaicmldldkhhaaDoor
open Go.RowKit

theorem below4 (w : World) (o : Obj) : Below w.heap.size w (w.drew.alloc o) := ((below_drewN (Below.refl _ _) 1).alloc (Nat.le_refl _) o)
theorem after1 {w w4 w5 : World} {o : Obj} {c : Nat} (hB : Below w.heap.size w w4) (hg : (w4.drew.alloc o).grownBy w5 (Value.slice (some ⟨w4.heap.size, 0, none⟩) 0 c).ownBlock) : Below w.heap.size w w5 ∧ Below w4.heap.size w4 w5 := by
  have h1 : Below w4.heap.size w4 w5 := (below4 w4 o).grown hg (by simp) (fun j hj => by simp [Value.ownBlock] at hj; omega)
  exact ⟨bstep hB h1, h1⟩
theorem own1 {W : World} {b : Nat} {e : TypeId} {v : Value} {q : Nat} {xs : List Value} (h : W.ownsRow b e 2 v (0 + q) ([] ++ xs)) : W.ownsRow b e 2 v q xs := by
  rw [Nat.zero_add] at h; exact h
theorem after2 {w w5 w6 : World} {e : TypeId} {v : Value} {q : Nat} {xs : List Value} (hB : Below w.heap.size w w5) (ho : w5.ownsRow w.heap.size e 2 v q xs) (hg : w5.grownBy w6 v.ownBlock) : Below w.heap.size w w6 := hB.grown hg hB.size (fun j hj => (ho.lt j hj).1)
theorem own2 {W : World} {b q : Nat} {e : TypeId} {v : Value} {L : List (Int × Int)} (hq : q < L.length) (h : W.ownsRow b e 2 v (q + (L.length - (q + 1))) (cellsI (L.take q) ++ cellsI (L.drop (q + 1)))) : PrsI W.heap.size W v (L.take q ++ L.drop (q + 1)) := by
  refine prs_of_row (base := b) (e := e) ?_
  rw [cellsI_app, List.length_append, List.length_take, List.length_drop, Nat.min_eq_left (by omega)]
  exact h
theorem cast_less (l : List (Nat × Nat)) (q : Nat) : (castP l).take q ++ (castP l).drop (q + 1) = castP (l.take q ++ l.drop (q + 1)) := by
  unfold castP
  rw [List.map_append, List.map_take, List.map_drop]
/-- what Build answers at pairs whose order is another one -/
theorem build_less {k : Nat} {l : List (Nat × Nat)} {xs : List Int} {e : Ending} {W : World} (h : BuildP k (castP l) e W) (h1 : 1 ≤ k) (h2 : k ≤ 64) (hl : ∀ p ∈ l, p.1 < k ∧ p.2 < k) (hx : ¬ LL.IsClose k l xs) :
    ∃ (a : Option Addr) (S : List Int) (cap : Nat) (c : Int), e = .returned (.tuple #[.slice a S.length cap, .int .i64 c]) ∧ Nums .u64 W.heap.size W (.slice a S.length cap) S ∧ S.length ≤ 64 ∧ ((c = 0 ∧ (S == xs) = false) ∨ c = 11) := by
  obtain ⟨v, S, q, rfl, hv, hw, hc⟩ := h
  obtain ⟨a, cap, rfl⟩ := hv.form
  rcases hc with ⟨hbad, _⟩ | ⟨_, _, _, T, hT, hs⟩
  · exact absurd ⟨by omega, by omega, by rw [Int.toNat_natCast]; exact cast_ok hl⟩ hbad
  · rw [Int.toNat_natCast, toPrs_cast] at hT
    rcases hs with ⟨_, rfl, rfl⟩ | ⟨_, rfl, rfl⟩
    · exact ⟨a, S, cap, 0, rfl, hv, by have := hT.1; omega, .inl ⟨rfl, by rw [beq_eq_false_iff_ne]; intro e; exact hx (e ▸ hT)⟩⟩
    · exact ⟨a, [], cap, 11, rfl, hv, by simp, .inr rfl⟩
theorem news_take {n₀ : Nat} {w : World} {b off q : Nat} {ps : List (Int × Int)} (hb : b < n₀)
    (hc : ∀ j, j < ps.length → w.cell? ⟨b, off + j * 2, none⟩ = some (.int .i64 (ps[j]?.getD (0, 0)).1) ∧ w.cell? ⟨b, off + j * 2 + 1, none⟩ = some (.int .i64 (ps[j]?.getD (0, 0)).2)) :
    ∀ W, Below n₀ w W → ∀ j u, (cellsI (ps.take q))[j]? = some u → W.cell? ((⟨b, off, none⟩ : Addr).add j) = some u := fun W hB =>
  newsP hb (fun j hj => by
    rw [List.length_take] at hj
    rw [List.getElem?_take_of_lt (by omega)]
    exact hc j (by omega)) hB
theorem news_drop {n₀ : Nat} {w : World} {b off q : Nat} {ps : List (Int × Int)} (hb : b < n₀)
    (hc : ∀ j, j < ps.length → w.cell? ⟨b, off + j * 2, none⟩ = some (.int .i64 (ps[j]?.getD (0, 0)).1) ∧ w.cell? ⟨b, off + j * 2 + 1, none⟩ = some (.int .i64 (ps[j]?.getD (0, 0)).2)) :
    ∀ W, Below n₀ w W → ∀ j u, (cellsI (ps.drop q))[j]? = some u → W.cell? ((⟨b, off + q * 2, none⟩ : Addr).add j) = some u := fun W hB =>
  newsP hb (fun j hj => by
    rw [List.length_drop] at hj
    rw [List.getElem?_drop, Nat.add_assoc, ← Nat.add_mul]
    exact hc (q + j) (by omega)) hB

theorem step_append_own {P : Program} {w : World} {ops : Array Oper} {o : Oper} {a : Act} {K : Act → World → Prop} {Q : Exit → Act → World → Prop} {E : Prop} (hg : o.guard = none) (s x : Operand) (t : TypeId)
    (ho : o.op = .call { callee := .builtin .append, args := #[s, x], argTypes := #[t, t] })
    (base : Nat) (e : TypeId) (i : TypeInfo) (z : Value) (size bytes : Nat) (ht : P.underlying t = some (.slice e)) (hi : P.info? e = some i) (hz : i.zero = some z)
    (hsize : i.size = size) (hby : i.bytes = bytes) (hzs : z.cells.size = size) (hsz : 0 < size)
    (v : Value) (n : Nat) (xs : List Value) (hs : a.eval s = v) (hown : w.ownsRow base e size v n xs)
    (ad : Addr) (m c : Nat) (news : List Value) (hx : a.eval x = .slice (some ad) m c) (hl : news.length = m * size) (hnews : ∀ j u, news[j]? = some u → w.cell? (ad.add j) = some u) (h1 : ∀ u ∈ news, u.oneCell' = true)
    (h63 : n + m ≤ maxLen) (hbytes : (n + m) * bytes ≤ 140737488355328) (hbase : base ≤ w.heap.size)
    (h : ∀ v' w', w'.ownsRow base e size v' (n + m) (xs ++ news) → w.grownBy w' v.ownBlock → (v' = .slice none 0 0 ↔ v = .slice none 0 0 ∧ m = 0) → K (a.put o.dst v') w') :
    if Region.wanted o (yielded ops a.tmps) = true then Oper.wp P o a w K Q else E := by
  rw [if_pos (by simp [Region.wanted, hg])]
  exact wp_append_own w s x t ho base e i z size bytes ht hi hz hsize hby hzs hsz v n xs hs hown ad m c news hx hl hnews h1 h63 hbytes hbase h

set_option maxRecDepth 100000 in
set_option maxHeartbeats 1600000 in
theorem back_some (hB : BuildC) (hH : HeightC) (hR : RightC) (hC : CoversC) (v : Value) (xs : List Int) (k : Int) (w : World) (hTz : Tz w) (hv : Nums .u64 w.heap.size w v xs) (hw : Wide xs) (hl : xs.length ≤ big5) (hr : LL.rightB xs = true) (h0 : LL.coversL xs ≠ []) :
    Calls Tryd.prog 10 #[v, .int .i64 k] w fun e w' => e = .returned (.bool true) ∧ Below w.heap.size w w' := by
  have H0 := Lib.hid h0
  clear h0
  have HBd := Lib.hid hB
  have HHt := Lib.hid hH
  have HRt := Lib.hid hR
  have HCv := Lib.hid hC
  have HV := Lib.hid hv
  have HW := Lib.hid hw
  have HL := Lib.hid hl
  have HR := Lib.hid hr
  have H64 := Lib.hid (LL.ord_len (LL.right_ord hr))
  obtain ⟨sa, cap, rfl⟩ := hv.form
  clear hB hH hR hC hv hw hl hr
  go_enter Tryd.func10, Tryd.ntmps10
  go_wp2_with fail
  refine (HRt.out _ xs w.heap.size w HV.out (Nat.le_refl _) HW.out HL.out (by first | exact hTz | exact hTz.on (by assumption) | exact hTz.on HBB.out | exact hTz.alloc _ | exact (hTz.on (by assumption)).alloc _ | exact (hTz.on HBB.out).alloc _ | exact (hTz.on (by assumption)).drewN _ | exact (hTz.on HBB.out).drewN _ | exact (hTz.alloc _).alloc _ | exact ((hTz.on (by assumption)).alloc _).alloc _)).mono ?_
  rintro e w1 ⟨rfl, hb1⟩
  rw [HR.out]
  have HB1 := Lib.hid hb1
  clear hb1
  go_wp2_with fail
  refine (HCv.out _ xs w.heap.size w1 (HV.out.below HB1.out) HB1.out.size HW.out HL.out (by first | exact hTz | exact hTz.on (by assumption) | exact hTz.on HBB.out | exact hTz.alloc _ | exact (hTz.on (by assumption)).alloc _ | exact (hTz.on HBB.out).alloc _ | exact (hTz.on (by assumption)).drewN _ | exact (hTz.on HBB.out).drewN _ | exact (hTz.alloc _).alloc _ | exact ((hTz.on (by assumption)).alloc _).alloc _)).mono ?_
  rintro e w2 ⟨u, rfl, hp, hb2⟩
  have HB2 := Lib.hid (bstep HB1.out hb2)
  rw [HR.out, if_pos rfl] at hp
  have HP := Lib.hid hp.toI
  obtain ⟨a1, c1, rfl⟩ := HP.out.form
  clear HB1 hb2 hp
  have HL9 := Lib.hid (show (castP (LL.coversL xs)).length ≤ 4160 by rw [castP_len]; have h1 := LL.coversUp_len xs xs.length; have h2 := H64.out.2; have h3 : xs.length * xs.length ≤ 64 * 64 := Nat.mul_le_mul h2 h2; unfold LL.coversL; omega)
  have hwk := Lib.hid (show (Lit.int .i64 (xs.length : Int)).wf = true by have := H64.out.2; simp only [Lit.wf, Bool.and_eq_true, decide_eq_true_eq]; exact ⟨show (-9223372036854775808 : Int) ≤ (xs.length : Int) by omega, show (xs.length : Int) ≤ (9223372036854775807 : Int) by omega⟩)
  go_wp2_with fail
  refine (HBd.out _ (castP (LL.coversL xs)) _ xs.length w2 HP.out (Nat.le_refl _) (by have := HL9.out; simp only [big5]; omega) hwk.out (by first | exact hTz | exact hTz.on (by assumption) | exact hTz.on HBB.out | exact hTz.alloc _ | exact (hTz.on (by assumption)).alloc _ | exact (hTz.on HBB.out).alloc _ | exact (hTz.on (by assumption)).drewN _ | exact (hTz.on HBB.out).drewN _ | exact (hTz.alloc _).alloc _ | exact ((hTz.on (by assumption)).alloc _).alloc _)).mono ?_
  rintro e w3 ⟨hbp, hb3⟩
  obtain ⟨a2, c2, rfl, hn2⟩ := build_back hbp H64.out.1 H64.out.2 (LL.covers_ok xs) (LL.covers_close (LL.right_ord HR.out) HW.out) HR.out
  have HB3 := Lib.hid (bstep HB2.out hb3)
  have HN2 := Lib.hid hn2
  have HP3 := Lib.hid ((PrsI.below hb3 HP.out).mono hb3.size)
  clear hbp hb3 hn2 HB2 HP
  go_wp2_with fail
  refine (rsame5_any _ _ xs xs w3.heap.size w3 HN2.out ((HV.out.below HB3.out).mono HB3.out.size) (by have := H64.out.2; omega) (by have := H64.out.2; omega)).mono ?_
  rintro e w4 ⟨rfl, hb4⟩
  rw [show (xs == xs) = true by simp]
  have HB4 := Lib.hid (bstep HB3.out hb4)
  have HP4 := Lib.hid ((PrsI.below hb4 HP3.out).mono hb4.size)
  clear HB3 hb4 HP3 HN2
  obtain ⟨L, hLe⟩ : ∃ L, castP (LL.coversL xs) = L := ⟨_, rfl⟩
  have HLe := Lib.hid hLe
  have hlc := castP_len (LL.coversL xs)
  have hpos : 0 < (LL.coversL xs).length := List.length_pos_iff.2 H0.out
  rw [hLe] at HP4 HL9 hlc
  rw [hLe]
  have hz : ((L.length : Int) == 0) = false := by rw [beq_eq_false_iff_ne]; omega
  have hl9 := HL9.out
  have hw9 : IntKind.u64.wrap (L.length : Int) = L.length := by simp [IntKind.wrap, IntKind.bits, IntKind.signed]; omega
  have hk0 : 0 ≤ IntKind.u64.wrap k ∧ IntKind.u64.wrap k ≤ 18446744073709551615 := by simp [IntKind.wrap, IntKind.bits, IntKind.signed]; omega
  obtain ⟨q, hq, hql⟩ : ∃ q : Nat, IntKind.u64.wrap k % (L.length : Int) = (q : Int) ∧ q < L.length := ⟨(IntKind.u64.wrap k % (L.length : Int)).toNat, by
    have := Int.emod_nonneg (IntKind.u64.wrap k) (b := (L.length : Int)) (by omega)
    omega, by
    have := Int.emod_lt_of_pos (IntKind.u64.wrap k) (b := (L.length : Int)) (by omega)
    have := Int.emod_nonneg (IntKind.u64.wrap k) (b := (L.length : Int)) (by omega)
    omega⟩
  have hq2 : Int.tmod (IntKind.u64.wrap k) (L.length : Int) = (q : Int) := by rw [Int.tmod_eq_emod_of_nonneg hk0.1, hq]
  have hw64 : wrap64 (q : Int) = (q : Int) := by unfold wrap64; omega
  have HLC := Lib.hid hlc
  clear hlc hpos hLe hk0
  have hpr := HP4.out
  rcases hpr with ⟨_, h⟩ | ⟨bu, ou, c1', he, hbu, hcl, hcu⟩
  · rw [h] at hql; exact absurd hql (Nat.not_lt_zero _)
  obtain ⟨rfl, _, rfl⟩ := Value.slice.inj he
  have HT1 := Lib.hid (show (cellsI (L.take q)).length = q * 2 by rw [cellsI_len, List.length_take]; omega)
  have HD1 := Lib.hid (show (cellsI (L.drop (q + 1))).length = (L.length - (q + 1)) * 2 by rw [cellsI_len, List.length_drop])
  have HT2 := Lib.hid (news_take (q := q) hbu hcu)
  have hqq := Lib.hid hql
  have hwq : IntKind.i64.wrap ((q : Int) + 1) = (q : Int) + 1 := by simp [IntKind.wrap, IntKind.bits, IntKind.signed]; omega
  have htq : ((q : Int) + 1).toNat = q + 1 := by omega
  have hq0 : (0 : Int) ≤ (q : Int) + 1 := by omega
  clear he
  have hqc : (q : Int) ≤ c1 := by omega
  have hqc2 : (q : Int) + 1 ≤ L.length := by omega
  have hqc3 : (L.length : Int) ≤ c1 := by omega
  by_cases hc : c1 = q + 1
  · have hcc : (c1 = q + 1) = True := eq_true hc
    have HD2 := Lib.hid (show ∀ W, Below w4.heap.size w4 W → ∀ j u, (cellsI (L.drop (q + 1)))[j]? = some u → W.cell? ((⟨bu, ou, none⟩ : Addr).add j) = some u from fun W _ j u h => by
      rw [List.drop_eq_nil_of_le (by omega)] at h
      simp [cellsI] at h)
    clear hc hcu
    obtain ⟨i0, hi, hz0, hz1, hz2⟩ := info_parts Tryd.infoPair
    go_wp2_with fail
    go_region_law (first
      | (refine step_append_own rfl (.tmp 48) (.tmp 51) 22 rfl w.heap.size 40 i0 (.agg #[.int .i64 0, .int .i64 0]) 2 16 Tryd.underlying22 hi hz0 hz1 hz2 rfl (by decide) _ _ _ rfl (World.ownsRow_lit (base := w.heap.size) (e := 40) (size := 2) _ #[] 0 HB4.out.size (by unfold maxLen; omega) rfl) ⟨bu, ou, none⟩ q c1 (cellsI (L.take q)) rfl HT1.out (HT2.out _ (below4 w4 _)) (cellsI_one _) (by unfold maxLen; omega) (by omega) (by have := HB4.out.size; simp; omega) ?_
         intro v1 w5 hown' hgrow _
         have HG1 := Lib.hid (after1 HB4.out hgrow)
         have HO1 := Lib.hid (own1 hown')
         clear hown' hgrow)
      | (refine step_append_own rfl (.tmp 52) (.tmp 56) 22 rfl w.heap.size 40 i0 (.agg #[.int .i64 0, .int .i64 0]) 2 16 Tryd.underlying22 hi hz0 hz1 hz2 rfl (by decide) _ _ _ rfl HO1.out ⟨bu, ou, none⟩ (L.length - (q + 1)) (c1 - (q + 1)) (cellsI (L.drop (q + 1))) rfl HD1.out (HD2.out _ HG1.out.2) (cellsI_one _) (by unfold maxLen; omega) (by omega) HG1.out.1.size ?_
         intro v2 w6 hown' hgrow _
         have HO2 := Lib.hid (own2 hqq.out hown')
         have HB6 := Lib.hid (after2 HG1.out.1 HO1.out hgrow)
         clear hown' hgrow HO1 HG1))
    all_goals
      go_wp2_with fail
      rw [← HLe.out, cast_less] at HO2
      refine (HBd.out _ _ _ xs.length _ HO2.out (Nat.le_refl _) (by have := HL9.out; have := hqq.out; rw [castP_len, List.length_append, List.length_take, List.length_drop]; have := HLC.out; simp only [big5]; omega) hwk.out (by first | exact hTz | exact hTz.on (by assumption) | exact hTz.on HBB.out | exact hTz.alloc _ | exact (hTz.on (by assumption)).alloc _ | exact (hTz.on HBB.out).alloc _ | exact (hTz.on (by assumption)).drewN _ | exact (hTz.on HBB.out).drewN _ | exact (hTz.alloc _).alloc _ | exact ((hTz.on (by assumption)).alloc _).alloc _)).mono ?_
      rintro e w7 ⟨hbp, hb7⟩
      obtain ⟨a3, S, c3, f, rfl, hn3, hs3, hcase⟩ := build_less (xs := xs) hbp H64.out.1 H64.out.2 (fun p hp => LL.covers_ok xs p ((List.mem_append.1 hp).elim List.mem_of_mem_take List.mem_of_mem_drop)) (LL.less_close (LL.right_ord HR.out) HW.out (by have := hqq.out; have := HLC.out; omega))
      have HB7 := Lib.hid (bstep HB6.out hb7)
      have HN3 := Lib.hid hn3
      have HS3 := Lib.hid hs3
      clear hbp hb7 hn3 hs3 HO2 HB6
      rcases hcase with ⟨rfl, hne⟩ | rfl
      · have HNe := Lib.hid hne
        clear hne
        go_wp2_with fail
        refine (rsame5_any _ _ S xs w7.heap.size w7 HN3.out ((HV.out.below HB7.out).mono HB7.out.size) (by have := HS3.out; omega) (by have := H64.out.2; omega)).mono ?_
        rintro e w8 ⟨rfl, hb8⟩
        rw [HNe.out]
        have HB8 := Lib.hid (bstep HB7.out hb8)
        clear hb8 HB7
        go_wp2_with fail
        refine (awake5_any HBd.out HHt.out _ (by first | exact hTz | exact hTz.on (by assumption) | exact hTz.on HBB.out | exact hTz.alloc _ | exact (hTz.on (by assumption)).alloc _ | exact (hTz.on HBB.out).alloc _ | exact (hTz.on (by assumption)).drewN _ | exact (hTz.on HBB.out).drewN _ | exact (hTz.alloc _).alloc _ | exact ((hTz.on (by assumption)).alloc _).alloc _)).mono ?_
        rintro e w99 ⟨rfl, hb99⟩
        go_wp2_with fail
        go_ret
        exact ⟨rfl, bstep HB8.out hb99⟩
      · go_wp2_with fail
        refine (awake5_any HBd.out HHt.out _ (by first | exact hTz | exact hTz.on (by assumption) | exact hTz.on HBB.out | exact hTz.alloc _ | exact (hTz.on (by assumption)).alloc _ | exact (hTz.on HBB.out).alloc _ | exact (hTz.on (by assumption)).drewN _ | exact (hTz.on HBB.out).drewN _ | exact (hTz.alloc _).alloc _ | exact ((hTz.on (by assumption)).alloc _).alloc _)).mono ?_
        rintro e w99 ⟨rfl, hb99⟩
        go_wp2_with fail
        go_ret
        exact ⟨rfl, bstep HB7.out hb99⟩
  · have hcc : (c1 = q + 1) = False := eq_false hc
    have HD2 := Lib.hid (news_drop (q := q + 1) hbu hcu)
    clear hc hcu
    obtain ⟨i0, hi, hz0, hz1, hz2⟩ := info_parts Tryd.infoPair
    go_wp2_with fail
    go_region_law (first
      | (refine step_append_own rfl (.tmp 48) (.tmp 51) 22 rfl w.heap.size 40 i0 (.agg #[.int .i64 0, .int .i64 0]) 2 16 Tryd.underlying22 hi hz0 hz1 hz2 rfl (by decide) _ _ _ rfl (World.ownsRow_lit (base := w.heap.size) (e := 40) (size := 2) _ #[] 0 HB4.out.size (by unfold maxLen; omega) rfl) ⟨bu, ou, none⟩ q c1 (cellsI (L.take q)) rfl HT1.out (HT2.out _ (below4 w4 _)) (cellsI_one _) (by unfold maxLen; omega) (by omega) (by have := HB4.out.size; simp; omega) ?_
         intro v1 w5 hown' hgrow _
         have HG1 := Lib.hid (after1 HB4.out hgrow)
         have HO1 := Lib.hid (own1 hown')
         clear hown' hgrow)
      | (refine step_append_own rfl (.tmp 52) (.tmp 56) 22 rfl w.heap.size 40 i0 (.agg #[.int .i64 0, .int .i64 0]) 2 16 Tryd.underlying22 hi hz0 hz1 hz2 rfl (by decide) _ _ _ rfl HO1.out ⟨bu, ou + (q + 1) * 2, none⟩ (L.length - (q + 1)) (c1 - (q + 1)) (cellsI (L.drop (q + 1))) rfl HD1.out (HD2.out _ HG1.out.2) (cellsI_one _) (by unfold maxLen; omega) (by omega) HG1.out.1.size ?_
         intro v2 w6 hown' hgrow _
         have HO2 := Lib.hid (own2 hqq.out hown')
         have HB6 := Lib.hid (after2 HG1.out.1 HO1.out hgrow)
         clear hown' hgrow HO1 HG1))
    all_goals
      go_wp2_with fail
      rw [← HLe.out, cast_less] at HO2
      refine (HBd.out _ _ _ xs.length _ HO2.out (Nat.le_refl _) (by have := HL9.out; have := hqq.out; rw [castP_len, List.length_append, List.length_take, List.length_drop]; have := HLC.out; simp only [big5]; omega) hwk.out (by first | exact hTz | exact hTz.on (by assumption) | exact hTz.on HBB.out | exact hTz.alloc _ | exact (hTz.on (by assumption)).alloc _ | exact (hTz.on HBB.out).alloc _ | exact (hTz.on (by assumption)).drewN _ | exact (hTz.on HBB.out).drewN _ | exact (hTz.alloc _).alloc _ | exact ((hTz.on (by assumption)).alloc _).alloc _)).mono ?_
      rintro e w7 ⟨hbp, hb7⟩
      obtain ⟨a3, S, c3, f, rfl, hn3, hs3, hcase⟩ := build_less (xs := xs) hbp H64.out.1 H64.out.2 (fun p hp => LL.covers_ok xs p ((List.mem_append.1 hp).elim List.mem_of_mem_take List.mem_of_mem_drop)) (LL.less_close (LL.right_ord HR.out) HW.out (by have := hqq.out; have := HLC.out; omega))
      have HB7 := Lib.hid (bstep HB6.out hb7)
      have HN3 := Lib.hid hn3
      have HS3 := Lib.hid hs3
      clear hbp hb7 hn3 hs3 HO2 HB6
      rcases hcase with ⟨rfl, hne⟩ | rfl
      · have HNe := Lib.hid hne
        clear hne
        go_wp2_with fail
        refine (rsame5_any _ _ S xs w7.heap.size w7 HN3.out ((HV.out.below HB7.out).mono HB7.out.size) (by have := HS3.out; omega) (by have := H64.out.2; omega)).mono ?_
        rintro e w8 ⟨rfl, hb8⟩
        rw [HNe.out]
        have HB8 := Lib.hid (bstep HB7.out hb8)
        clear hb8 HB7
        go_wp2_with fail
        refine (awake5_any HBd.out HHt.out _ (by first | exact hTz | exact hTz.on (by assumption) | exact hTz.on HBB.out | exact hTz.alloc _ | exact (hTz.on (by assumption)).alloc _ | exact (hTz.on HBB.out).alloc _ | exact (hTz.on (by assumption)).drewN _ | exact (hTz.on HBB.out).drewN _ | exact (hTz.alloc _).alloc _ | exact ((hTz.on (by assumption)).alloc _).alloc _)).mono ?_
        rintro e w99 ⟨rfl, hb99⟩
        go_wp2_with fail
        go_ret
        exact ⟨rfl, bstep HB8.out hb99⟩
      · go_wp2_with fail
        refine (awake5_any HBd.out HHt.out _ (by first | exact hTz | exact hTz.on (by assumption) | exact hTz.on HBB.out | exact hTz.alloc _ | exact (hTz.on (by assumption)).alloc _ | exact (hTz.on HBB.out).alloc _ | exact (hTz.on (by assumption)).drewN _ | exact (hTz.on HBB.out).drewN _ | exact (hTz.alloc _).alloc _ | exact ((hTz.on (by assumption)).alloc _).alloc _)).mono ?_
        rintro e w99 ⟨rfl, hb99⟩
        go_wp2_with fail
        go_ret
        exact ⟨rfl, bstep HB7.out hb99⟩
theorem latticeBack_walk (hB : BuildC) (hH : HeightC) (hR : RightC) (hC : CoversC) (v : Value) (xs : List Int) (k : Int) (w : World) (hTz : Tz w) (hv : Nums .u64 w.heap.size w v xs) (hw : Wide xs) (hl : xs.length ≤ big5) :
    Calls Tryd.prog 10 #[v, .int .i64 k] w fun e w' => e = .returned (.bool true) ∧ Below w.heap.size w w' := by
  cases hr : LL.rightB xs
  · exact back_no hB hH hR v xs k w hTz hv hw hl hr
  · by_cases h0 : LL.coversL xs = []
    · exact back_one hB hH hR hC v xs k w hTz hv hw hl hr h0
    · exact back_some hB hH hR hC v xs k w hTz hv hw hl hr h0
end Go.Proofs.YtaaicmldldkhhaaDoor
