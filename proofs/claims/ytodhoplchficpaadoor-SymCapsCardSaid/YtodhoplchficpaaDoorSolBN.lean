import Derived.Test.YtodhoplchficpaaDoorSolJK
set_option linter.unusedSimpArgs false
set_option linter.unusedVariables false
/-! solve: Bounds: are two rows of sums as they are when joined -/
namespace Go.Proofs.YtodhoplchficpaaDoor
open Go.RowKit
open SV (Lab SysOk Least labs sumOf mu sumP at' natsL askT askI fanN lok)
def sbel (p r : Int × Int) : Bool := decide (bits .and .u64 p.1 r.1 = p.1) && decide (bits .or .u64 p.2 r.2 = p.2)
set_option maxRecDepth 100000 in
set_option maxHeartbeats 1600000 in
theorem bounds1_any (a b c d : Int) (W : World) : Calls Tryd.prog 65 #[.agg #[.int .u64 a, .int .u64 b], .agg #[.int .u64 c, .int .u64 d]] W fun e V => e = .returned (.bool (sbel (a, b) (c, d))) ∧ Below W.heap.size W V := by
  obtain ⟨W0, eW0⟩ : ∃ W0, W0 = (W.alloc (.cells #[.int .u64 a, .int .u64 b] 97)).alloc (.cells #[.int .u64 c, .int .u64 d] 97) := ⟨_, rfl⟩
  have HB0 := Lib.hid (show Below W.heap.size W W0 by rw [eW0]; exact ((Below.refl _ _).alloc (Nat.le_refl _) _).alloc (by simp) _)
  have HH1 := Lib.hid (show W0.heap[W.heap.size]? = some (.cells #[.int .u64 a, .int .u64 b] 97) by rw [eW0, heap_alloc_old _ _ (by simp), heap_alloc_new])
  have HH2 := Lib.hid (show W0.heap[W.heap.size + 1]? = some (.cells #[.int .u64 c, .int .u64 d] 97) by rw [eW0]; exact SS.new_at (by simp))
  have HZ := Lib.hid (show W0.heap.size = W.heap.size + 2 by rw [eW0]; simp)
  have HE := Lib.hid (fun w => show (Op.equalIn 10000 97 (.agg #[.int .u64 (bits .and .u64 a c), .int .u64 (bits .or .u64 b d)]) (.agg #[.int .u64 a, .int .u64 b])).run Tryd.prog w = .ok (sbel (a, b) (c, d)) w from eq_sum (bits .and .u64 a c) (bits .or .u64 b d) a b w)
  go_enter Tryd.func65, Tryd.ntmps65
  go_upto_region 1 with fail
  rw [← eW0]
  clear eW0
  refine wp_region_held_drew (S := (fun V => V.cell? ⟨W.heap.size, 0, none⟩ = some (.int .u64 a) ∧ V.cell? ⟨W.heap.size, 1, none⟩ = some (.int .u64 b) ∧ V.cell? ⟨W.heap.size + 1, 0, none⟩ = some (.int .u64 c) ∧ V.cell? ⟨W.heap.size + 1, 1, none⟩ = some (.int .u64 d))) (by kernel_rfl) ?_ (fun hHeld => ?_)
  · exact ⟨cell_of_row _ _ 0 _ _ _ HH1.out, cell_of_row _ _ 1 _ _ _ HH1.out, cell_of_row _ _ 0 _ _ _ HH2.out, cell_of_row _ _ 1 _ _ _ HH2.out⟩
  have HB4 := Lib.hid (show Below W.heap.size W W0.drew from HB0.out.drew)
  have HZ4 := Lib.hid (show W0.drew.heap.size = W.heap.size + 2 from HZ.out)
  generalize W0.drew = w7 at HB4 HZ4 hHeld ⊢
  refine wpAnyH_take (i := 0) (v := .agg #[.int .u64 a, .int .u64 b]) rfl (by kernel_rfl) (by kernel_rfl) (by kernel_rfl) (fun _ _ _ h => h) (Or.inl ⟨by rfl, fun W hSW => ?_⟩) hHeld ?_
  · ((try dsimp only at hSW); go_split_ands; go_simp <;> with_reducible rfl)
  try simp only [List.getElem_toArray, List.getElem_cons_succ, List.getElem_cons_zero, Act.put, List.setIfInBounds_toArray, List.set_cons_zero, List.set_cons_succ]
  refine wpAnyH_take (i := 1) (v := .agg #[.int .u64 c, .int .u64 d]) rfl (by kernel_rfl) (by kernel_rfl) (by kernel_rfl) (fun _ _ _ h => h) (Or.inl ⟨by rfl, fun W hSW => ?_⟩) hHeld ?_
  · ((try dsimp only at hSW); go_split_ands; go_simp <;> with_reducible rfl)
  try simp only [List.getElem_toArray, List.getElem_cons_succ, List.getElem_cons_zero, Act.put, List.setIfInBounds_toArray, List.set_cons_zero, List.set_cons_succ]
  refine wpAnyH_take (i := 3) (v := .agg #[.int .u64 a, .int .u64 b]) rfl (by kernel_rfl) (by kernel_rfl) (by kernel_rfl) (fun _ _ _ h => h) (Or.inl ⟨by rfl, fun W hSW => ?_⟩) hHeld ?_
  · ((try dsimp only at hSW); go_split_ands; go_simp <;> with_reducible rfl)
  try simp only [List.getElem_toArray, List.getElem_cons_succ, List.getElem_cons_zero, Act.put, List.setIfInBounds_toArray, List.set_cons_zero, List.set_cons_succ]
  refine wpAnyH_ready (rs := [2]) (by kernel_rfl) (by simp) ?_
  refine AllReadyH.cons rfl (fun K hK => ?_) AllReadyH.nil
  try simp only [List.getElem_toArray, List.getElem_cons_succ, List.getElem_cons_zero]
  go_simp
  (go_at_call 61; refine (sjoin_any a b c d _).mono ?_; rintro e w8 ⟨rfl, hb8⟩)
  try go_wp2_with fail
  refine hK.out _ _ ?_ (fun hHeld => ?_)
  · exact ⟨(hb8.cell (p := ⟨W.heap.size, 0, none⟩) (by rw [HZ4.out]; show W.heap.size < W.heap.size + 2; omega)).trans hHeld.1, (hb8.cell (p := ⟨W.heap.size, 1, none⟩) (by rw [HZ4.out]; show W.heap.size < W.heap.size + 2; omega)).trans hHeld.2.1, (hb8.cell (p := ⟨W.heap.size + 1, 0, none⟩) (by rw [HZ4.out]; show W.heap.size + 1 < W.heap.size + 2; omega)).trans hHeld.2.2.1, (hb8.cell (p := ⟨W.heap.size + 1, 1, none⟩) (by rw [HZ4.out]; show W.heap.size + 1 < W.heap.size + 2; omega)).trans hHeld.2.2.2⟩
  clear hK K
  try simp only [List.getElem_toArray, List.getElem_cons_succ, List.getElem_cons_zero, Act.put, List.setIfInBounds_toArray, List.set_cons_zero, List.set_cons_succ]
  have HB8 := Lib.hid (HB4.out.trans (hb8.mono HB4.out.size))
  have hE := HE.out
  refine wpAnyH_take (i := 4) (v := .bool (sbel (a, b) (c, d))) rfl (by kernel_rfl) (by kernel_rfl) (by kernel_rfl) (fun _ _ _ h => h) (Or.inl ⟨by rfl, fun W hSW => ?_⟩) hHeld ?_
  · ((try dsimp only at hSW); go_split_ands; go_simp <;> with_reducible rfl)
  try simp only [List.getElem_toArray, List.getElem_cons_succ, List.getElem_cons_zero, Act.put, List.setIfInBounds_toArray, List.set_cons_zero, List.set_cons_succ]
  refine wpAnyH_take (i := 5) (v := .bool (sbel (a, b) (c, d))) rfl (by kernel_rfl) (by kernel_rfl) (by kernel_rfl) (fun _ _ _ h => h) (Or.inl ⟨by rfl, fun W hSW => ?_⟩) hHeld ?_
  · ((try dsimp only at hSW); go_split_ands; go_simp <;> with_reducible rfl)
  try simp only [List.getElem_toArray, List.getElem_cons_succ, List.getElem_cons_zero, Act.put, List.setIfInBounds_toArray, List.set_cons_zero, List.set_cons_succ]
  refine wpAnyH_done (by kernel_rfl) ?_ _
  clear hHeld hb8 hE
  go_wp2_with fail
  go_ret
  exact ⟨rfl, HB8.out⟩
theorem sbel_all {ps rs : List (Int × Int)} {j : Nat} (hj : j < ps.length) (h : sbel (ps[j]?.getD s0) (rs[j]?.getD s0) = false) : (List.range ps.length).all (fun i => sbel (ps[i]?.getD s0) (rs[i]?.getD s0)) = false := by
  rw [List.all_eq_false]
  exact ⟨j, List.mem_range.2 hj, by rw [h]; simp⟩
set_option maxRecDepth 100000 in
set_option maxHeartbeats 1600000 in
theorem eqf_any {va vb : Value} {ps rs : List (Int × Int)} {n B : Nat} (W : World) (ha : W.ownsRow B 97 2 va n (sumC ps)) (hb : W.ownsRow B 97 2 vb n (sumC rs)) (hp : ps.length = n) (hr : rs.length = n) (hn : n ≤ 1000000) :
    Calls Tryd.prog 64 #[va, vb, .func (.func 65) #[] #[]] W fun e V => e = .returned (.bool ((List.range n).all (fun i => sbel (ps[i]?.getD s0) (rs[i]?.getD s0)))) ∧ Below W.heap.size W V := by
  obtain ⟨aa, ca, rfl⟩ := SS.ownOf ha
  obtain ⟨ab, cb, rfl⟩ := SS.ownOf hb
  subst hp
  have hne : ((ps.length : Int) != (ps.length : Int)) = false := bne_self_eq_false _
  have b0 : (ps.length : Int) ≤ 1000000 := by omega
  have HA := Lib.hid ha
  have HB := Lib.hid hb
  have HR := Lib.hid hr
  clear ha hb hr hn
  obtain ⟨z, ez⟩ : ∃ z, z = (List.range ps.length).all (fun i => sbel (ps[i]?.getD s0) (rs[i]?.getD s0)) := ⟨_, rfl⟩
  have HZ := Lib.hid ez
  rw [← ez]
  clear ez
  go_enter Tryd.func64, Tryd.ntmps64
  go_wp2_with fail
  go_loopw [17] (fun k wr => ∃ j : Nat, j ≤ ps.length ∧ k = .int .i64 (j : Int) ∧ Below W.heap.size W wr ∧ RowKit.Hid (∀ i, i < j → sbel (ps[i]?.getD s0) (rs[i]?.getD s0) = true)) (fun k _ => ps.length - (intOf k).toNat)
  case atStart => exact ⟨0, Nat.zero_le _, rfl, Below.refl _ _, Lib.hid fun i hi => absurd hi (Nat.not_lt_zero _)⟩
  case round =>
    obtain ⟨j, hj, rfl, hB1, HT⟩ := hrel
    have HB1 := Lib.hid hB1
    clear hB1
    by_cases hlt : j < ps.length
    · have HA1 := Lib.hid (SS.own_of_block HA.out (fun k e => HB1.out.block k (HA.out.lt k e).2))
      have HB2 := Lib.hid (SS.own_of_block HB.out (fun k e => HB1.out.block k (HB.out.lt k e).2))
      obtain ⟨ga, gac, e1⟩ := SS.own_some HA1.out (by omega)
      cases e1
      obtain ⟨gb, gbc, e2⟩ := SS.own_some HB2.out (by omega)
      cases e2
      have i1 : (0 : Int) ≤ j ∧ (j : Int) < ps.length := by omega
      have h1 := sumC_at (l := ps) hlt
      have h2 := sumC_at (l := rs) (show j < rs.length by rw [HR.out]; exact hlt)
      have HNX := Lib.hid (fun (h : sbel (ps[j]?.getD s0) (rs[j]?.getD s0) = true) (i : Nat) (hi : i < j + 1) => if e : i = j then e ▸ h else HT.out i (by omega))
      have HNO := Lib.hid (fun h => sbel_all (rs := rs) hlt h)
      obtain ⟨⟨p1, p2⟩, ep⟩ : ∃ p, p = ps[j]?.getD s0 := ⟨_, rfl⟩
      obtain ⟨⟨r1, r2⟩, er⟩ : ∃ r, r = rs[j]?.getD s0 := ⟨_, rfl⟩
      rw [← ep] at h1 HNX HNO
      rw [← er] at h2 HNX HNO
      have hc1 := own_cellZ HA1.out h1.1
      have hc2 := own_cellZ HA1.out h1.2
      have hc3 := own_cellZ HB2.out h2.1
      have hc4 := own_cellZ HB2.out h2.2
      simp only at hc1 hc2 hc3 hc4
      have HLA := Lib.hid (HA1.out.lt ga rfl).2
      have HLB := Lib.hid (HB2.out.lt gb rfl).2
      have hd3 : (wr.alloc (.cells #[.int .u64 p1, .int .u64 p2] 97)).cell? ⟨gb, j * 2, none⟩ = some (.int .u64 r1) := (cell_blk (heap_alloc_old _ _ HLB.out)).trans hc3
      have hd4 : (wr.alloc (.cells #[.int .u64 p1, .int .u64 p2] 97)).cell? ⟨gb, j * 2 + 1, none⟩ = some (.int .u64 r2) := (cell_blk (heap_alloc_old _ _ HLB.out)).trans hc4
      clear ep er h1 h2
      have HB3 := Lib.hid ((HB1.out.alloc HB1.out.size (.cells #[.int .u64 p1, .int .u64 p2] 97)).alloc (by have := HB1.out.size; simp; omega) (.cells #[.int .u64 r1, .int .u64 r2] 97))
      cases hs : sbel (p1, p2) (r1, r2) with
      | true =>
        have HN := Lib.hid (HNX.out hs)
        have HS := Lib.hid hs
        clear hs
        go_wp2_with (go_at_call 65; refine (bounds1_any p1 p2 r1 r2 _).mono ?_; rintro e w8 ⟨rfl, hb8⟩; rw [HS.out]; have HB8 := Lib.hid (HB3.out.trans (hb8.mono HB3.out.size)); clear hb8)
        go_roundw
        case rel => exact ⟨j + 1, by omega, by go_num, HB8.out, Lib.hid HN.out⟩
        case measure => simp [intOf]; omega
      | false =>
        have hz : z = false := by rw [HZ.out]; exact HNO.out hs
        have HS := Lib.hid hs
        clear hs
        go_wp2_with (go_at_call 65; refine (bounds1_any p1 p2 r1 r2 _).mono ?_; rintro e w8 ⟨rfl, hb8⟩; rw [HS.out]; have HB8 := Lib.hid (HB3.out.trans (hb8.mono HB3.out.size)); clear hb8)
        go_ret
        exact ⟨by first | (rw [hz]; rfl) | rfl | (subst hz; rfl), HB8.out⟩
    · have hz : z = true := by
        rw [HZ.out, List.all_eq_true]
        intro i hi
        exact HT.out i (by have := List.mem_range.1 hi; omega)
      have hjz : ¬ ((j : Int) < ps.length) := by omega
      go_wp2_with fail
      go_ret
      exact ⟨by first | (rw [hz]; rfl) | rfl | (subst hz; rfl), HB1.out⟩
end Go.Proofs.YtodhoplchficpaaDoor

/-! solve: Bounds -/
namespace Go.Proofs.YtodhoplchficpaaDoor
open Go.RowKit
open SV (Lab SysOk Least labs sumOf mu sumP at' natsL askT askI fanN lok Bnd val valT)
/-- what the least row has come to: i equations whole, k needs of the next -/
def prt (xs : List Int) (c : List (Int × Int)) (to : List (List Int)) (hr : LL.rightB xs = true) (hw : Wide xs) (l : List Lab) (i k a : Nat) : Lab :=
  if a < i then val (labs xs hr hw) (sysL c to) l a else if a = i then valT (labs xs hr hw) (sysL c to) l i k else at' (natL c) a
def PrtL (xs : List Int) (c : List (Int × Int)) (to : List (List Int)) (hr : LL.rightB xs = true) (hw : Wide xs) (l : List Lab) (i k : Nat) (t : List Lab) : Prop := t.length = c.length ∧ ∀ a, a < c.length → at' t a = prt xs c to hr hw l i k a
section
variable {xs : List Int} {c : List (Int × Int)} {to : List (List Int)} {hr : LL.rightB xs = true} {hw : Wide xs} {l : List Lab}
theorem prt_zero : PrtL xs c to hr hw l 0 0 (natL c) := ⟨natL_len c, fun a ha => by
  unfold prt
  rw [if_neg (by omega)]
  by_cases e : a = 0
  · subst e; rw [if_pos rfl, SV.valT_zero]; rfl
  · rw [if_neg e]⟩
theorem prt_step {i k j : Nat} {t : List Lab} (h : PrtL xs c to hr hw l i k t) (hi : i < c.length) (hj : ((sysL c to).nd i)[k]? = some j) : PrtL xs c to hr hw l i (k + 1) (t.set i (SV.ljoin xs (at' t i) (at' l j))) := by
  refine ⟨by rw [List.length_set]; exact h.1, fun a ha => ?_⟩
  rw [SV.at_set _ _ _ _ (by rw [h.1]; exact hi)]
  unfold prt
  by_cases e : a = i
  · subst e
    rw [if_pos rfl, if_neg (by omega), if_pos rfl, SV.valT_step hj, h.2 a hi]
    unfold prt
    rw [if_neg (by omega), if_pos rfl]
    rfl
  · rw [if_neg e, h.2 a ha]
    unfold prt
    rw [if_neg e, if_neg e]
theorem prt_row {i k : Nat} {t : List Lab} (h : PrtL xs c to hr hw l i k t) (hk : ((sysL c to).nd i).length ≤ k) : PrtL xs c to hr hw l (i + 1) 0 t := by
  refine ⟨h.1, fun a ha => ?_⟩
  rw [h.2 a ha]
  unfold prt
  by_cases e : a < i
  · rw [if_pos e, if_pos (by omega)]
  · by_cases e2 : a = i
    · subst e2
      rw [if_neg e, if_pos rfl, if_pos (by omega), SV.valT_all hk]
    · rw [if_neg e, if_neg e2, if_neg (by omega)]
      by_cases e3 : a = i + 1
      · subst e3; rw [if_pos rfl, SV.valT_zero]; rfl
      · rw [if_neg e3]
theorem prt_ok {i k a : Nat} (hS : SysOk (labs xs hr hw) (sysL c to)) (hl : ∀ i, i < c.length → lok xs (at' l i)) (ha : a < c.length) : lok xs (prt xs c to hr hw l i k a) := by
  have hC : (sysL c to).C.length = c.length := natL_len c
  have hl' : ∀ i, i < (sysL c to).C.length → (labs xs hr hw).ok (at' l i) := fun i hi => hl i (by omega)
  unfold prt
  by_cases e : a < i
  · rw [if_pos e]; exact (SV.val_is hS hl' (by omega)).1
  · by_cases e2 : a = i
    · rw [if_neg e, if_pos e2]
      subst e2
      unfold valT
      exact (SV.fold_val (M := labs xs hr hw) l _ _ (hS.ok a (by omega)) (fun j hj => hl' j (hS.lt a (by omega) j (List.mem_of_mem_take hj)))).1
    · rw [if_neg e, if_neg e2]; exact hS.ok a (by omega)
/-- two rows of sums, joined, tell what bounds -/
theorem bnd_all (hS : SysOk (labs xs hr hw) (sysL c to)) (hl : ∀ i, i < c.length → lok xs (at' l i)) (hlen : l.length = c.length) {t : List Lab} {k : Nat} (h : PrtL xs c to hr hw l c.length k t) :
    (List.range c.length).all (fun i => sbel ((l.map (sumOf xs))[i]?.getD s0) ((t.map (sumOf xs))[i]?.getD s0)) = true ↔ Bnd (labs xs hr hw) (sysL c to) l := by
  have hC : (sysL c to).C.length = c.length := natL_len c
  have hl' : ∀ i, i < (sysL c to).C.length → (labs xs hr hw).ok (at' l i) := fun i hi => hl i (by omega)
  rw [SV.bnd_iff hS (hlen.trans hC.symm) hl', List.all_eq_true]
  have key : ∀ i, i < c.length → (sbel ((l.map (sumOf xs))[i]?.getD s0) ((t.map (sumOf xs))[i]?.getD s0) = true ↔ SV.le (labs xs hr hw) (val (labs xs hr hw) (sysL c to) l i) (at' l i)) := fun i hi => by
    have hv := (SV.val_is hS hl' (show i < (sysL c to).C.length by omega)).1
    have e1 : at' t i = val (labs xs hr hw) (sysL c to) l i := by rw [h.2 i hi]; unfold prt; rw [if_pos hi]
    rw [SV.map_at (by omega), SV.map_at (by rw [h.1]; exact hi), e1]
    have e2 := SV.sumOf_join hr hw (hl i hi) hv
    have e3 : sbel (sumOf xs (at' l i)) (sumOf xs (val (labs xs hr hw) (sysL c to) l i)) = true ↔ sumOf xs (SV.ljoin xs (at' l i) (val (labs xs hr hw) (sysL c to) l i)) = sumOf xs (at' l i) := by
      rw [e2]
      unfold sbel
      rw [Bool.and_eq_true, decide_eq_true_eq, decide_eq_true_eq]
      exact ⟨fun h => Prod.ext h.1 h.2, fun h => ⟨congrArg Prod.fst h, congrArg Prod.snd h⟩⟩
    rw [e3]
    constructor
    · intro e
      exact SV.le_of_same (M := labs xs hr hw) (hl i hi) hv (SV.sumOf_one hr ((labs xs hr hw).cl (hl i hi) hv) (hl i hi) e)
    · intro e
      have := SV.same_of_le (M := labs xs hr hw) (hl i hi) hv e
      rw [show SV.ljoin xs (at' l i) (val (labs xs hr hw) (sysL c to) l i) = at' l i from this]
  constructor
  · intro h i hi
    exact (key i (by omega)).1 (h i (List.mem_range.2 (by omega)))
  · intro h i hi
    exact (key i (List.mem_range.1 hi)).2 (h i (by have := List.mem_range.1 hi; omega))
end
/-- do labels bound a system? -/
def BoundZ (xs : List Int) (c : List (Int × Int)) (to : List (List Int)) (l : List (Int × Int)) (z : Bool) : Prop :=
  z = true ↔ sysB xs c to = true ∧ l.length = c.length ∧ l.all (labOk xs.length) = true ∧ ∃ (hr : LL.rightB xs = true) (hw : Wide xs), Bnd (labs xs hr hw) (sysL c to) (natL l)
def BoundsE (xs : List Int) (c : List (Int × Int)) (to : List (List Int)) (l : List (Int × Int)) (W : World) (e : Ending) (V : World) : Prop :=
  Below W.heap.size W V ∧ ∃ z, e = .returned (.bool z) ∧ BoundZ xs c to l z
theorem lab_yes2 {n : Nat} {l : List (Int × Int)} (h : l.all (labOk n) = true) {j : Nat} (hj : j < l.length) : 0 ≤ (l[j]?.getD s0).1 ∧ (l[j]?.getD s0).1 < n := by
  rw [List.all_eq_true] at h
  have := h _ (GG.getD_mem (d := s0) hj)
  unfold labOk at this
  exact of_decide_eq_true this
theorem lok_at {xs : List Int} {l : List (Int × Int)} (hwl : WideL l) (h : l.all (labOk xs.length) = true) {j : Nat} (hj : j < l.length) : lok xs (at' (natL l) j) := by
  rw [natL_at hj]
  have h1 := lab_yes2 h hj
  have h2 := hwl _ (GG.getD_mem (d := s0) hj)
  exact ⟨by simp only; omega, h2.1, h2.2⟩
theorem own_freeZ {W : World} {B e size n cap g : Nat} {xs : List Value} (h : W.ownsRow B e size (.slice (some ⟨g, 0, none⟩) n cap) n xs) (k : Nat) : W.frozen? ⟨g, k, none⟩ = false := SS.own_free h k
theorem row_put {W : World} {B n sc sb o : Nat} {ss : List (Int × Int)} (h : W.ownsRow B 97 2 (.slice (some ⟨sb, 0, none⟩) n sc) n (sumC ss)) (ho : o < ss.length) (x y : Int) :
    ((W.setCell ⟨sb, o * 2, none⟩ (.int .u64 x)).setCell ⟨sb, o * 2 + 1, none⟩ (.int .u64 y)).ownsRow B 97 2 (.slice (some ⟨sb, 0, none⟩) n sc) n (sumC (ss.set o (x, y))) ∧ ∀ k, k ≠ sb → ((W.setCell ⟨sb, o * 2, none⟩ (.int .u64 x)).setCell ⟨sb, o * 2 + 1, none⟩ (.int .u64 y)).heap[k]? = W.heap[k]? := by
  have q1 := World.ownsRow.stored h (o * 2) (.int .u64 x)
  have q2 := (World.ownsRow.stored q1.1 (o * 2 + 1) (.int .u64 y)).1
  rw [sumC_set ho (x, y)] at q2
  exact ⟨q2, fun k hk => (Below.heap_setCell _ _ _ _ hk).trans (Below.heap_setCell _ _ _ _ hk)⟩
/-- two rows of sums, in blocks of their own -/
def TwoP (W : World) (n : Nat) (ps qs : List (Int × Int)) (v7 v8 : Value) (V : World) : Prop :=
  Below W.heap.size W V ∧ V.ownsRow W.heap.size 97 2 v7 n (sumC ps) ∧ V.ownsRow W.heap.size 97 2 v8 n (sumC qs) ∧ (∀ k, v7.ownBlock = some k → v8.ownBlock ≠ some k)
set_option maxRecDepth 100000 in
set_option maxHeartbeats 6400000 in
theorem bounds_any {uv cv nv lv : Value} {xs : List Int} {c l : List (Int × Int)} {to : List (List Int)} (W : World) (hu : Nums .u64 W.heap.size W uv xs) (hx : Wide xs) (hxl : xs.length ≤ big5) (hT : Tz W) (hv : LabRow W.heap.size W cv c) (hwc : WideL c) (hg : GraphM W.heap.size W nv to) (hl : LabRow W.heap.size W lv l) (hwl : WideL l) (hcl : c.length ≤ 17592186044416) (hll : l.length ≤ 17592186044416) (htl : to.length ≤ 17592186044416) (hm : ∀ a : Nat, (to[a]?.getD []).length ≤ 1000000) :
    Calls Tryd.prog 40 #[uv, .agg #[cv, nv], lv] W fun e V => BoundsE xs c to l W e V := by
  obtain ⟨ua, uc, rfl⟩ := hu.form
  obtain ⟨ca, cc, rfl⟩ := hv.form
  obtain ⟨na, nc, rfl⟩ := hg.form
  obtain ⟨la, lc, rfl⟩ := hl.form
  have HU := Lib.hid hu
  have HX := Lib.hid hx
  have HT := Lib.hid hT
  have HC := Lib.hid hv
  have HG := Lib.hid hg
  have HL := Lib.hid hl
  have HWC := Lib.hid hwc
  have HWL := Lib.hid hwl
  have HLL := Lib.hid hll
  have HTM := Lib.hid hm
  have HR := Lib.hid (fun w (hb : Below W.heap.size W w) => sright_any w ((HU.out.below hb).mono hb.size) hx hxl (hT.on hb) ((HC.out.below hb).mono hb.size) ((HG.out.below hb).mono hb.size) hcl htl (fun a => Nat.le_trans (hm a) (by omega)))
  have b0 : (c.length : Int) ≤ 17592186044416 := by omega
  have b1 : (l.length : Int) ≤ 17592186044416 := by omega
  obtain ⟨z, ez⟩ : ∃ z, z = sysB xs c to := ⟨_, rfl⟩
  have HZ := Lib.hid ez
  clear hu hx hxl hT hv hwc hg hl hwl hcl hll htl hm ez
  have HB0 := Lib.hid (show Below W.heap.size W (W.alloc (.cells #[.slice ca c.length cc, .slice na to.length nc] 26)) from (Below.refl _ _).alloc (Nat.le_refl _) _)
  cases z with
  | false =>
    go_enter Tryd.func40, Tryd.ntmps40
    go_wp2_with (go_at_call 34; refine (HR.out _ HB0.out).mono ?_; rintro e w2 ⟨rfl, hb2⟩; rw [← HZ.out]; have HB2 := Lib.hid (HB0.out.trans (hb2.mono HB0.out.size)); clear hb2)
    go_ret
    exact ⟨HB2.out, false, rfl, Iff.intro (fun h => by cases h) (fun h => by have h1 := HZ.out; rw [h.1] at h1; exact h1)⟩
  | true =>
    by_cases hlen : l.length = c.length
    · have HLN := Lib.hid hlen
      rw [hlen] at HL ⊢
      have hq2 : ((c.length : Int) != (c.length : Int)) = false := bne_self_eq_false _
      clear hlen b1
      cases hal : l.all (labOk xs.length) with
      | false =>
        have HAL := Lib.hid hal
        clear hal
        go_enter Tryd.func40, Tryd.ntmps40
        go_wp2_with (first
          | (go_at_call 34; refine (HR.out _ HB0.out).mono ?_; rintro e w2 ⟨rfl, hb2⟩; rw [← HZ.out]; have HB2 := Lib.hid (HB0.out.trans (hb2.mono HB0.out.size)); have hc0 := (hb2.cell (p := ⟨W.heap.size, 0, none⟩) (by simp)).trans (cell_of_row _ _ 0 _ _ _ (heap_alloc_new _ _)); clear hb2)
          | (go_at_call 56; refine (allowed_any _ ((HL.out.below HB2.out).mono HB2.out.size) HLL.out).mono ?_; rintro e w3 ⟨rfl, hb3⟩; rw [HAL.out]; have HB3 := Lib.hid (HB2.out.trans (hb3.mono HB2.out.size)); clear hb3))
        go_ret
        exact ⟨HB3.out, false, rfl, Iff.intro (fun h => by cases h) (fun h => by have h1 := h.2.2.1; rw [HAL.out] at h1; exact h1)⟩
      | true =>
        have HAL := Lib.hid hal
        obtain ⟨hln, htn, hr, hin, hti⟩ := sys_parts HZ.out.symm
        have HIN := Lib.hid hin
        have HTI := Lib.hid hti
        have HTN := Lib.hid htn
        have HLNB := Lib.hid hln
        have HX64 := Lib.hid (show xs.length ≤ 64 from (LL.ord_len (LL.right_ord hr)).2)
        have HS := Lib.hid (sys_ok hr HX.out HWC.out htn hin hti)
        have HLK := Lib.hid (fun i (hi : i < c.length) => lok_at HWL.out hal (show i < l.length by rw [HLN.out]; exact hi))
        clear hal hln htn hin hti
        go_enter Tryd.func40, Tryd.ntmps40
        go_upto_region 3 with (first
          | (go_at_call 34; refine (HR.out _ HB0.out).mono ?_; rintro e w2 ⟨rfl, hb2⟩; rw [← HZ.out]; have HB2 := Lib.hid (HB0.out.trans (hb2.mono HB0.out.size)); have HSZ2 := Lib.hid (show W.heap.size + 1 ≤ w2.heap.size from by have := hb2.size; simp at this; omega); have hc0 := (hb2.cell (p := ⟨W.heap.size, 0, none⟩) (by simp)).trans (cell_of_row _ _ 0 _ _ _ (heap_alloc_new _ _)); have hc1 := (hb2.cell (p := ⟨W.heap.size, 1, none⟩) (by simp)).trans (cell_of_row _ _ 1 _ _ _ (heap_alloc_new _ _)); clear hb2)
          | (go_at_call 56; refine (allowed_any _ ((HL.out.below HB2.out).mono HB2.out.size) HLL.out).mono ?_; rintro e w3 ⟨rfl, hb3⟩; rw [HAL.out]; have HB3 := Lib.hid (HB2.out.trans (hb3.mono HB2.out.size)); have HSZ3 := Lib.hid (Nat.le_trans HSZ2.out hb3.size); have HC0 := Lib.hid ((hb3.cell (p := ⟨W.heap.size, 0, none⟩) (by have := HSZ2.out; show W.heap.size < _; omega)).trans hc0); have HC1 := Lib.hid ((hb3.cell (p := ⟨W.heap.size, 1, none⟩) (by have := HSZ2.out; show W.heap.size < _; omega)).trans hc1); clear hb3 hc0 hc1))
        go_cut [7, 8] from 31 (fun v7 v8 w9 => TwoP W c.length ((natL l).map (sumOf xs)) ((natL c).map (sumOf xs)) v7 v8 w9 ∧ w9.cell? ⟨W.heap.size, 1, none⟩ = some (.slice na to.length nc))
        case first =>
          have HB4 := Lib.hid (show Below W.heap.size W w3.drew from HB3.out.drew)
          have HSZ4 := Lib.hid (show W.heap.size + 1 ≤ w3.drew.heap.size from HSZ3.out)
          refine wp_region_held_drew (S := (fun V => V.cell? ⟨W.heap.size, 0, none⟩ = some (.slice ca c.length cc) ∧ V.cell? ⟨W.heap.size, 1, none⟩ = some (.slice na to.length nc))) (by kernel_rfl) ?_ (fun hHeld => ?_)
          · exact ⟨HC0.out, HC1.out⟩
          generalize w3.drew = x0 at HB4 HSZ4 hHeld ⊢
          refine wpAnyH_take (i := 0) (v := .slice ua xs.length uc) rfl (by kernel_rfl) (by kernel_rfl) (by kernel_rfl) (fun _ _ _ h => h) (Or.inl ⟨by rfl, fun W hSW => ?_⟩) hHeld ?_
          · ((try dsimp only at hSW); go_split_ands; go_simp <;> with_reducible rfl)
          try simp only [List.getElem_toArray, List.getElem_cons_succ, List.getElem_cons_zero, Act.put, List.setIfInBounds_toArray, List.set_cons_zero, List.set_cons_succ]
          refine wpAnyH_take (i := 1) (v := .slice la c.length lc) rfl (by kernel_rfl) (by kernel_rfl) (by kernel_rfl) (fun _ _ _ h => h) (Or.inl ⟨by rfl, fun W hSW => ?_⟩) hHeld ?_
          · ((try dsimp only at hSW); go_split_ands; go_simp <;> with_reducible rfl)
          try simp only [List.getElem_toArray, List.getElem_cons_succ, List.getElem_cons_zero, Act.put, List.setIfInBounds_toArray, List.set_cons_zero, List.set_cons_succ]
          refine wpAnyH_take (i := 3) (v := .slice ua xs.length uc) rfl (by kernel_rfl) (by kernel_rfl) (by kernel_rfl) (fun _ _ _ h => h) (Or.inl ⟨by rfl, fun W hSW => ?_⟩) hHeld ?_
          · ((try dsimp only at hSW); go_split_ands; go_simp <;> with_reducible rfl)
          try simp only [List.getElem_toArray, List.getElem_cons_succ, List.getElem_cons_zero, Act.put, List.setIfInBounds_toArray, List.set_cons_zero, List.set_cons_succ]
          refine wpAnyH_take (i := 4) (v := .pointer (some ⟨W.heap.size, 0, none⟩)) rfl (by kernel_rfl) (by kernel_rfl) (by kernel_rfl) (fun _ _ _ h => h) (Or.inl ⟨by rfl, fun W hSW => ?_⟩) hHeld ?_
          · ((try dsimp only at hSW); go_split_ands; go_simp <;> with_reducible rfl)
          try simp only [List.getElem_toArray, List.getElem_cons_succ, List.getElem_cons_zero, Act.put, List.setIfInBounds_toArray, List.set_cons_zero, List.set_cons_succ]
          refine wpAnyH_take (i := 5) (v := .slice ca c.length cc) rfl (by kernel_rfl) (by kernel_rfl) (by kernel_rfl) (fun _ _ _ h => h) (Or.inl ⟨by rfl, fun W hSW => ?_⟩) hHeld ?_
          · ((try dsimp only at hSW); go_split_ands; go_simp <;> with_reducible rfl)
          try simp only [List.getElem_toArray, List.getElem_cons_succ, List.getElem_cons_zero, Act.put, List.setIfInBounds_toArray, List.set_cons_zero, List.set_cons_succ]
          refine wpAnyH_ready (rs := [2]) (by kernel_rfl) (by simp) ?_
          refine AllReadyH.cons rfl (fun K hK => ?_) AllReadyH.nil
          try simp only [List.getElem_toArray, List.getElem_cons_succ, List.getElem_cons_zero]
          go_simp
          (go_at_call 57; refine (sums_any _ ((HU.out.below HB4.out).mono HB4.out.size) ((HL.out.below HB4.out).mono HB4.out.size) HX64.out (by rw [HLN.out]; exact Nat.le_trans HLNB.out (by decide)) (fun j hj => lab_yes2 HAL.out hj)).mono ?_; rintro e x1 ⟨sv, rfl, hs1, hb1⟩; rewrite [HLN.out] at hs1; obtain ⟨sa, sc, rfl⟩ := SS.ownOf hs1; have HS1 := Lib.hid hs1; have HB5 := Lib.hid (HB4.out.trans (hb1.mono HB4.out.size)); have HSZ5 := Lib.hid (Nat.le_trans HSZ4.out hb1.size); clear hs1)
          try go_wp2_with fail
          refine hK.out _ _ ?_ (fun hHeld => ?_)
          · exact ⟨(hb1.cell (p := ⟨W.heap.size, 0, none⟩) (by have := HSZ4.out; show W.heap.size < _; omega)).trans hHeld.1, (hb1.cell (p := ⟨W.heap.size, 1, none⟩) (by have := HSZ4.out; show W.heap.size < _; omega)).trans hHeld.2⟩
          clear hK K
          try simp only [List.getElem_toArray, List.getElem_cons_succ, List.getElem_cons_zero, Act.put, List.setIfInBounds_toArray, List.set_cons_zero, List.set_cons_succ]
          refine wpAnyH_ready (rs := [6]) (by kernel_rfl) (by simp) ?_
          refine AllReadyH.cons rfl (fun K hK => ?_) AllReadyH.nil
          try simp only [List.getElem_toArray, List.getElem_cons_succ, List.getElem_cons_zero]
          go_simp
          (go_at_call 57; refine (sums_any _ ((HU.out.below HB5.out).mono HB5.out.size) ((HC.out.below HB5.out).mono HB5.out.size) HX64.out (Nat.le_trans HLNB.out (by decide)) HIN.out).mono ?_; rintro e x2 ⟨sv2, rfl, hs2, hb2⟩; obtain ⟨sa2, sc2, rfl⟩ := SS.ownOf hs2; have HS2 := Lib.hid hs2; have HB6 := Lib.hid (HB5.out.trans (hb2.mono HB5.out.size)); clear hs2)
          try go_wp2_with fail
          refine hK.out _ _ ?_ (fun hHeld => ?_)
          · exact ⟨(hb2.cell (p := ⟨W.heap.size, 0, none⟩) (by have := HSZ5.out; show W.heap.size < _; omega)).trans hHeld.1, (hb2.cell (p := ⟨W.heap.size, 1, none⟩) (by have := HSZ5.out; show W.heap.size < _; omega)).trans hHeld.2⟩
          clear hK K
          try simp only [List.getElem_toArray, List.getElem_cons_succ, List.getElem_cons_zero, Act.put, List.setIfInBounds_toArray, List.set_cons_zero, List.set_cons_succ]
          have HF := Lib.hid (show TwoP W c.length ((natL l).map (sumOf xs)) ((natL c).map (sumOf xs)) (.slice sa c.length sc) (.slice sa2 c.length sc2) x2 from ⟨HB6.out, by rw [natL_sum]; exact SS.own_lower HB4.out.size (SS.own_of_block HS1.out (fun k e => hb2.block k (HS1.out.lt k e).2)), by rw [natL_sum]; exact SS.own_lower HB5.out.size HS2.out, fun k e e2 => by have h1 := (HS1.out.lt k e).2; have h2 := (HS2.out.lt k e2).1; omega⟩)
          have HH := Lib.hid hHeld.2
          refine wpAnyH_take (i := 7) (v := .slice sa c.length sc) rfl (by kernel_rfl) (by kernel_rfl) (by kernel_rfl) (fun _ _ _ h => h) (Or.inl ⟨by rfl, fun W hSW => ?_⟩) hHeld ?_
          · ((try dsimp only at hSW); go_split_ands; go_simp <;> with_reducible rfl)
          try simp only [List.getElem_toArray, List.getElem_cons_succ, List.getElem_cons_zero, Act.put, List.setIfInBounds_toArray, List.set_cons_zero, List.set_cons_succ]
          refine wpAnyH_take (i := 8) (v := .slice sa2 c.length sc2) rfl (by kernel_rfl) (by kernel_rfl) (by kernel_rfl) (fun _ _ _ h => h) (Or.inl ⟨by rfl, fun W hSW => ?_⟩) hHeld ?_
          · ((try dsimp only at hSW); go_split_ands; go_simp <;> with_reducible rfl)
          try simp only [List.getElem_toArray, List.getElem_cons_succ, List.getElem_cons_zero, Act.put, List.setIfInBounds_toArray, List.set_cons_zero, List.set_cons_succ]
          refine wpAnyH_done (by kernel_rfl) ?_ _
          clear hHeld hb1 hb2
          go_wp2_with fail
          go_meet
          case rel => exact ⟨HF.out, HH.out⟩
        case rest =>
          obtain ⟨⟨hb9, ho7, ho8, hap⟩, hcN⟩ := hcut
          obtain ⟨ga, gac, rfl⟩ := SS.ownOf ho7
          obtain ⟨ma, mac, rfl⟩ := SS.ownOf ho8
          have HB9 := Lib.hid hb9
          have HO7 := Lib.hid ho7
          have HO8 := Lib.hid ho8
          have HAP := Lib.hid hap
          have b2 : (c.length : Int) ≤ 16384 := by have := HLNB.out; omega
          have htq : (to.length : Int) = c.length := by have := HTN.out; omega
          have HTQ := Lib.hid htq
          clear hb9 ho7 ho8 hap htq
          go_wp2_with fail
          clear hcN
          go_loopw [41] (fun k wr => ∃ (i : Nat) (t : List Lab), i ≤ to.length ∧ k = .int .i64 (i : Int) ∧ Below W.heap.size W wr ∧ wr.ownsRow W.heap.size 97 2 (.slice ga c.length gac) c.length (sumC ((natL l).map (sumOf xs))) ∧ wr.ownsRow W.heap.size 97 2 (.slice ma c.length mac) c.length (sumC (t.map (sumOf xs))) ∧ PrtL xs c to hr HX.out (natL l) i 0 t) (fun k _ => to.length - (intOf k).toNat)
          case atStart => exact ⟨0, _, Nat.zero_le _, rfl, HB9.out, HO7.out, HO8.out, prt_zero⟩
          case round =>
            obtain ⟨i, t, hi, rfl, hb1, h7, h8, hpr⟩ := hrel
            have HB1 := Lib.hid hb1
            have H7 := Lib.hid h7
            have H8 := Lib.hid h8
            have HPR := Lib.hid hpr
            clear hb1 h7 h8 hpr HB9 HO7 HO8
            by_cases hlt : i < to.length
            · obtain ⟨va, vo, vc2, e1⟩ := HG.out.addr (by omega)
              cases e1
              obtain ⟨ra, rac, hx1, hrx⟩ := (HG.out.below HB1.out).at hlt
              have i1 : (0 : Int) ≤ i ∧ (i : Int) < to.length := by omega
              have i2 : (0 : Int) ≤ i ∧ (i : Int) < c.length := by have := HTQ.out; omega
              have HIC := Lib.hid (show i < c.length by have := HTQ.out; omega)
              have b3 : (to[i]?.getD []).length ≤ 1000000 := HTM.out i
              have HRI := Lib.hid (fun x (hx : x ∈ to[i]?.getD []) => HTI.out i x hx)
              have HND := Lib.hid (nd_at c to i)
              obtain ⟨r, er⟩ : ∃ r, r = to[i]?.getD [] := ⟨_, rfl⟩
              rw [← er] at hx1 hrx b3 HRI HND
              have HRX := Lib.hid hrx
              clear er hrx
              go_wp2_with fail
              obtain ⟨wo, ewo⟩ : ∃ wo : World, wo = wr := ⟨_, rfl⟩
              rw [← ewo]
              rw [← ewo] at HB1 HRX hx1 H7 H8
              clear ewo hx1
              go_loopw [48] (fun k wr => ∃ (q : Nat) (t : List Lab), q ≤ r.length ∧ k = .int .i64 (q : Int) ∧ Below W.heap.size W wr ∧ wr.ownsRow W.heap.size 97 2 (.slice ga c.length gac) c.length (sumC ((natL l).map (sumOf xs))) ∧ wr.ownsRow W.heap.size 97 2 (.slice ma c.length mac) c.length (sumC (t.map (sumOf xs))) ∧ PrtL xs c to hr HX.out (natL l) i q t) (fun k _ => r.length - (intOf k).toNat)
              case atStart => exact ⟨0, t, Nat.zero_le _, rfl, HB1.out, H7.out, H8.out, HPR.out⟩
              case round =>
                obtain ⟨q, t, hq, rfl, hb2, h7, h8, hpr⟩ := hrel
                have HB2B := Lib.hid hb2
                have H7B := Lib.hid h7
                have H8B := Lib.hid h8
                have HPRB := Lib.hid hpr
                clear hb2 h7 h8 hpr H7 H8 HPR
                by_cases hqt : q < r.length
                · obtain ⟨xb2, xo2, rfl, hx2⟩ := (HRX.out.of_both HB1.out HB2B.out).cellAt hqt
                  have i3 : (0 : Int) ≤ q ∧ (q : Int) < r.length := by omega
                  have HX2 := Lib.hid (HRI.out _ (GG.getD_mem (d := 0) hqt))
                  have HNQ := Lib.hid (show ((sysL c to).nd i)[q]? = some (r[q]?.getD 0).toNat by rw [HND.out, List.getElem?_map, List.getElem?_eq_getElem hqt]; rfl)
                  obtain ⟨x, ex⟩ : ∃ x, x = r[q]?.getD 0 := ⟨_, rfl⟩
                  rw [← ex] at hx2 HX2 HNQ
                  clear ex
                  obtain ⟨y, rfl⟩ : ∃ y : Nat, x = (y : Int) := ⟨x.toNat, by have := HX2.out; omega⟩
                  have i4 : (0 : Int) ≤ (y : Int) ∧ (y : Int) < c.length := by have h1 := HX2.out; have h2 := HTQ.out; omega
                  have HYC := Lib.hid (show y < c.length by omega)
                  obtain ⟨mb, mbc, e2⟩ := SS.own_some H8B.out (by omega)
                  cases e2
                  obtain ⟨gb, gbc, e3⟩ := SS.own_some H7B.out (by omega)
                  cases e3
                  have HGM := Lib.hid (show mb ≠ gb from fun e => HAP.out gb rfl (by rw [e]; rfl))
                  have HTL2 := Lib.hid HPRB.out.1
                  have h1 := sumC_at (l := t.map (sumOf xs)) (i := i) (by rw [List.length_map, HPRB.out.1]; exact HIC.out)
                  have h2 := sumC_at (l := (natL l).map (sumOf xs)) (i := y) (by rw [List.length_map, natL_len, HLN.out]; exact HYC.out)
                  rw [SV.map_at (by rw [HPRB.out.1]; exact HIC.out)] at h1
                  rw [SV.map_at (by rw [natL_len, HLN.out]; exact HYC.out)] at h2
                  have HLI := Lib.hid (show lok xs (at' t i) by rw [HPRB.out.2 i HIC.out]; exact prt_ok HS.out HLK.out HIC.out)
                  have HLY := Lib.hid (HLK.out y HYC.out)
                  have HJ := Lib.hid (SV.sumOf_join hr HX.out HLI.out HLY.out)
                  have HPN := Lib.hid (prt_step HPRB.out HIC.out (by rw [HNQ.out, Int.toNat_natCast]))
                  obtain ⟨tn, etn⟩ : ∃ tn, tn = SV.ljoin xs (at' t i) (at' (natL l) y) := ⟨_, rfl⟩
                  rw [← etn] at HJ HPN
                  clear etn
                  obtain ⟨⟨pa, pm⟩, ep⟩ : ∃ p, p = sumOf xs (at' t i) := ⟨_, rfl⟩
                  obtain ⟨⟨ua2, um⟩, eu⟩ : ∃ u, u = sumOf xs (at' (natL l) y) := ⟨_, rfl⟩
                  rw [← ep] at h1 HJ
                  rw [← eu] at h2 HJ
                  clear ep eu
                  go_upto_region 10 with fail
                  have HW7 := Lib.hid (show Below W.heap.size W wr.drew from HB2B.out.drew)
                  have HO7 := Lib.hid (show wr.drew.ownsRow _ _ _ _ _ _ from SS.own_of_block H7B.out (fun k e => rfl))
                  have HO8 := Lib.hid (show wr.drew.ownsRow _ _ _ _ _ _ from SS.own_of_block H8B.out (fun k e => rfl))
                  refine wp_region_held_drew (S := (fun _ => True)) (by kernel_rfl) ?_ (fun hHeld => ?_)
                  · trivial
                  generalize wr.drew = w7 at HW7 HO7 HO8 ⊢
                  have hc1 := own_cellZ HO8.out h1.1
                  have hc2 := own_cellZ HO8.out h1.2
                  have hc3 := own_cellZ HO7.out h2.1
                  have hc4 := own_cellZ HO7.out h2.2
                  simp only at hc1 hc2 hc3 hc4
                  refine wpAnyH_take (i := 0) (v := .slice (some ⟨mb, 0, none⟩) c.length mac) rfl (by kernel_rfl) (by kernel_rfl) (by kernel_rfl) (fun _ _ _ h => h) (Or.inl ⟨by rfl, fun W hSW => ?_⟩) hHeld ?_
                  · ((try dsimp only at hSW); go_split_ands; go_simp <;> with_reducible rfl)
                  try simp only [List.getElem_toArray, List.getElem_cons_succ, List.getElem_cons_zero, Act.put, List.setIfInBounds_toArray, List.set_cons_zero, List.set_cons_succ]
                  refine wpAnyH_take (i := 1) (v := .int .i64 i) rfl (by kernel_rfl) (by kernel_rfl) (by kernel_rfl) (fun _ _ _ h => h) (Or.inl ⟨by rfl, fun W hSW => ?_⟩) hHeld ?_
                  · ((try dsimp only at hSW); go_split_ands; go_simp <;> with_reducible rfl)
                  try simp only [List.getElem_toArray, List.getElem_cons_succ, List.getElem_cons_zero, Act.put, List.setIfInBounds_toArray, List.set_cons_zero, List.set_cons_succ]
                  refine wpAnyH_take (i := 2) (v := .slice (some ⟨mb, 0, none⟩) c.length mac) rfl (by kernel_rfl) (by kernel_rfl) (by kernel_rfl) (fun _ _ _ h => h) (Or.inl ⟨by rfl, fun W hSW => ?_⟩) hHeld ?_
                  · ((try dsimp only at hSW); go_split_ands; go_simp <;> with_reducible rfl)
                  try simp only [List.getElem_toArray, List.getElem_cons_succ, List.getElem_cons_zero, Act.put, List.setIfInBounds_toArray, List.set_cons_zero, List.set_cons_succ]
                  refine wpAnyH_take (i := 3) (v := .int .i64 i) rfl (by kernel_rfl) (by kernel_rfl) (by kernel_rfl) (fun _ _ _ h => h) (Or.inl ⟨by rfl, fun W hSW => ?_⟩) hHeld ?_
                  · ((try dsimp only at hSW); go_split_ands; go_simp <;> with_reducible rfl)
                  try simp only [List.getElem_toArray, List.getElem_cons_succ, List.getElem_cons_zero, Act.put, List.setIfInBounds_toArray, List.set_cons_zero, List.set_cons_succ]
                  refine wpAnyH_take (i := 4) (v := .pointer (some ⟨mb, i * 2, none⟩)) rfl (by kernel_rfl) (by kernel_rfl) (by kernel_rfl) (fun _ _ _ h => h) (Or.inl ⟨by rfl, fun W hSW => ?_⟩) hHeld ?_
                  · ((try dsimp only at hSW); go_split_ands; go_simp <;> with_reducible rfl)
                  try simp only [List.getElem_toArray, List.getElem_cons_succ, List.getElem_cons_zero, Act.put, List.setIfInBounds_toArray, List.set_cons_zero, List.set_cons_succ]
                  refine wpAnyH_take (i := 6) (v := .slice (some ⟨gb, 0, none⟩) c.length gac) rfl (by kernel_rfl) (by kernel_rfl) (by kernel_rfl) (fun _ _ _ h => h) (Or.inl ⟨by rfl, fun W hSW => ?_⟩) hHeld ?_
                  · ((try dsimp only at hSW); go_split_ands; go_simp <;> with_reducible rfl)
                  try simp only [List.getElem_toArray, List.getElem_cons_succ, List.getElem_cons_zero, Act.put, List.setIfInBounds_toArray, List.set_cons_zero, List.set_cons_succ]
                  refine wpAnyH_take (i := 7) (v := .int .i64 (y : Int)) rfl (by kernel_rfl) (by kernel_rfl) (by kernel_rfl) (fun _ _ _ h => h) (Or.inl ⟨by rfl, fun W hSW => ?_⟩) hHeld ?_
                  · ((try dsimp only at hSW); go_split_ands; go_simp <;> with_reducible rfl)
                  try simp only [List.getElem_toArray, List.getElem_cons_succ, List.getElem_cons_zero, Act.put, List.setIfInBounds_toArray, List.set_cons_zero, List.set_cons_succ]
                  refine wpAnyH_take (i := 8) (v := .pointer (some ⟨gb, y * 2, none⟩)) rfl (by kernel_rfl) (by kernel_rfl) (by kernel_rfl) (fun _ _ _ h => h) (Or.inl ⟨by rfl, fun W hSW => ?_⟩) hHeld ?_
                  · ((try dsimp only at hSW); go_split_ands; go_simp <;> with_reducible rfl)
                  try simp only [List.getElem_toArray, List.getElem_cons_succ, List.getElem_cons_zero, Act.put, List.setIfInBounds_toArray, List.set_cons_zero, List.set_cons_succ]
                  refine wpAnyH_ready (rs := [5, 9]) (by kernel_rfl) (by simp) ?_
                  refine AllReadyH.cons rfl (fun K hK => ?_) (AllReadyH.cons rfl (fun K hK => ?_) AllReadyH.nil)
                  · skip
                    try simp only [List.getElem_toArray, List.getElem_cons_succ, List.getElem_cons_zero]
                    go_simp
                    try go_wp2_with fail
                    refine hK.out _ _ ?_ (fun hHeld => ?_)
                    · trivial
                    clear hK K
                    try simp only [List.getElem_toArray, List.getElem_cons_succ, List.getElem_cons_zero, Act.put, List.setIfInBounds_toArray, List.set_cons_zero, List.set_cons_succ]
                    refine wpAnyH_ready (rs := [9]) (by kernel_rfl) (by simp) ?_
                    refine AllReadyH.cons rfl (fun K hK => ?_) AllReadyH.nil
                    try simp only [List.getElem_toArray, List.getElem_cons_succ, List.getElem_cons_zero]
                    go_simp
                    try go_wp2_with fail
                    refine hK.out _ _ ?_ (fun hHeld => ?_)
                    · trivial
                    clear hK K
                    try simp only [List.getElem_toArray, List.getElem_cons_succ, List.getElem_cons_zero, Act.put, List.setIfInBounds_toArray, List.set_cons_zero, List.set_cons_succ]
                    refine wpAnyH_ready (rs := [10]) (by kernel_rfl) (by simp) ?_
                    refine AllReadyH.cons rfl (fun K hK => ?_) AllReadyH.nil
                    try simp only [List.getElem_toArray, List.getElem_cons_succ, List.getElem_cons_zero]
                    go_simp
                    (go_at_call 61; refine (sjoin_any pa pm ua2 um _).mono ?_; rintro e w8 ⟨rfl, hb8⟩; have HO7C := Lib.hid (SS.own_of_block HO7.out (fun k e => hb8.block k (HO7.out.lt k e).2)); have HO8C := Lib.hid (SS.own_of_block HO8.out (fun k e => hb8.block k (HO8.out.lt k e).2)); have HW8 := Lib.hid (HW7.out.trans (hb8.mono HW7.out.size)); clear hb8)
                    try go_wp2_with fail
                    refine hK.out _ _ ?_ (fun hHeld => ?_)
                    · trivial
                    clear hK K
                    try simp only [List.getElem_toArray, List.getElem_cons_succ, List.getElem_cons_zero, Act.put, List.setIfInBounds_toArray, List.set_cons_zero, List.set_cons_succ]
                    have hd1 := own_cellZ HO8C.out h1.1
                    have hd2 := own_cellZ HO8C.out h1.2
                    try simp only at hd1 hd2
                    have hf1 := own_freeZ HO8C.out (i * 2)
                    have hf2 := own_freeZ HO8C.out (i * 2 + 1)
                    have HPUT := Lib.hid (row_put HO8C.out (show i < (t.map (sumOf xs)).length by rw [List.length_map, HTL2.out]; exact HIC.out) (bits .and .u64 pa ua2) (bits .or .u64 pm um))
                    clear hc1 hc2 hc3 hc4
                    refine wpAnyH_take (i := 11) (v := .pointer (some ⟨mb, i * 2, none⟩)) rfl (by kernel_rfl) (by kernel_rfl) (by kernel_rfl) (fun _ _ _ h => h) (Or.inl ⟨by rfl, fun W hSW => ?_⟩) hHeld ?_
                    · ((try dsimp only at hSW); go_split_ands; go_simp <;> with_reducible rfl)
                    try simp only [List.getElem_toArray, List.getElem_cons_succ, List.getElem_cons_zero, Act.put, List.setIfInBounds_toArray, List.set_cons_zero, List.set_cons_succ]
                    refine wpAnyH_ready (rs := [12]) (by kernel_rfl) (by simp) ?_
                    refine AllReadyH.cons rfl (fun K hK => ?_) AllReadyH.nil
                    try simp only [List.getElem_toArray, List.getElem_cons_succ, List.getElem_cons_zero]
                    go_simp
                    try go_wp2_with fail
                    refine hK.out _ _ ?_ (fun hHeld => ?_)
                    · trivial
                    clear hK K
                    try simp only [List.getElem_toArray, List.getElem_cons_succ, List.getElem_cons_zero, Act.put, List.setIfInBounds_toArray, List.set_cons_zero, List.set_cons_succ]
                    refine wpAnyH_done (by kernel_rfl) ?_ _
                    clear hHeld hd1 hd2 hf1 hf2
                    have HN8 := Lib.hid (show (((w8.setCell ⟨mb, i * 2, none⟩ (.int .u64 (bits .and .u64 pa ua2))).setCell ⟨mb, i * 2 + 1, none⟩ (.int .u64 (bits .or .u64 pm um)))).ownsRow W.heap.size 97 2 (.slice (some ⟨mb, 0, none⟩) c.length mac) c.length (sumC ((t.set i tn).map (sumOf xs))) by rw [List.map_set, HJ.out]; exact HPUT.out.1)
                    have HN7 := Lib.hid (SS.own_of_block HO7C.out (fun k e => HPUT.out.2 k (fun e2 => HGM.out (by have h3 : gb = k := Option.some.inj e; rw [h3, e2]))))
                    have HNB := Lib.hid ((HW8.out.setCell (p := ⟨mb, i * 2, none⟩) (HO8C.out.lt mb rfl).1 (.int .u64 (bits .and .u64 pa ua2))).setCell (p := ⟨mb, i * 2 + 1, none⟩) (HO8C.out.lt mb rfl).1 (.int .u64 (bits .or .u64 pm um)))
                    generalize (w8.setCell ⟨mb, i * 2, none⟩ (.int .u64 (bits .and .u64 pa ua2))).setCell ⟨mb, i * 2 + 1, none⟩ (.int .u64 (bits .or .u64 pm um)) = w55 at HN8 HN7 HNB HPUT ⊢
                    go_wp2_with fail
                    go_roundw
                    case rel => exact ⟨q + 1, _, by omega, by go_num, HNB.out, HN7.out, HN8.out, HPN.out⟩
                    case measure => simp [intOf]; omega
                  · skip
                    try simp only [List.getElem_toArray, List.getElem_cons_succ, List.getElem_cons_zero]
                    go_simp
                    try go_wp2_with fail
                    refine hK.out _ _ ?_ (fun hHeld => ?_)
                    · trivial
                    clear hK K
                    try simp only [List.getElem_toArray, List.getElem_cons_succ, List.getElem_cons_zero, Act.put, List.setIfInBounds_toArray, List.set_cons_zero, List.set_cons_succ]
                    refine wpAnyH_ready (rs := [5]) (by kernel_rfl) (by simp) ?_
                    refine AllReadyH.cons rfl (fun K hK => ?_) AllReadyH.nil
                    try simp only [List.getElem_toArray, List.getElem_cons_succ, List.getElem_cons_zero]
                    go_simp
                    try go_wp2_with fail
                    refine hK.out _ _ ?_ (fun hHeld => ?_)
                    · trivial
                    clear hK K
                    try simp only [List.getElem_toArray, List.getElem_cons_succ, List.getElem_cons_zero, Act.put, List.setIfInBounds_toArray, List.set_cons_zero, List.set_cons_succ]
                    refine wpAnyH_ready (rs := [10]) (by kernel_rfl) (by simp) ?_
                    refine AllReadyH.cons rfl (fun K hK => ?_) AllReadyH.nil
                    try simp only [List.getElem_toArray, List.getElem_cons_succ, List.getElem_cons_zero]
                    go_simp
                    (go_at_call 61; refine (sjoin_any pa pm ua2 um _).mono ?_; rintro e w8 ⟨rfl, hb8⟩; have HO7C := Lib.hid (SS.own_of_block HO7.out (fun k e => hb8.block k (HO7.out.lt k e).2)); have HO8C := Lib.hid (SS.own_of_block HO8.out (fun k e => hb8.block k (HO8.out.lt k e).2)); have HW8 := Lib.hid (HW7.out.trans (hb8.mono HW7.out.size)); clear hb8)
                    try go_wp2_with fail
                    refine hK.out _ _ ?_ (fun hHeld => ?_)
                    · trivial
                    clear hK K
                    try simp only [List.getElem_toArray, List.getElem_cons_succ, List.getElem_cons_zero, Act.put, List.setIfInBounds_toArray, List.set_cons_zero, List.set_cons_succ]
                    have hd1 := own_cellZ HO8C.out h1.1
                    have hd2 := own_cellZ HO8C.out h1.2
                    try simp only at hd1 hd2
                    have hf1 := own_freeZ HO8C.out (i * 2)
                    have hf2 := own_freeZ HO8C.out (i * 2 + 1)
                    have HPUT := Lib.hid (row_put HO8C.out (show i < (t.map (sumOf xs)).length by rw [List.length_map, HTL2.out]; exact HIC.out) (bits .and .u64 pa ua2) (bits .or .u64 pm um))
                    clear hc1 hc2 hc3 hc4
                    refine wpAnyH_take (i := 11) (v := .pointer (some ⟨mb, i * 2, none⟩)) rfl (by kernel_rfl) (by kernel_rfl) (by kernel_rfl) (fun _ _ _ h => h) (Or.inl ⟨by rfl, fun W hSW => ?_⟩) hHeld ?_
                    · ((try dsimp only at hSW); go_split_ands; go_simp <;> with_reducible rfl)
                    try simp only [List.getElem_toArray, List.getElem_cons_succ, List.getElem_cons_zero, Act.put, List.setIfInBounds_toArray, List.set_cons_zero, List.set_cons_succ]
                    refine wpAnyH_ready (rs := [12]) (by kernel_rfl) (by simp) ?_
                    refine AllReadyH.cons rfl (fun K hK => ?_) AllReadyH.nil
                    try simp only [List.getElem_toArray, List.getElem_cons_succ, List.getElem_cons_zero]
                    go_simp
                    try go_wp2_with fail
                    refine hK.out _ _ ?_ (fun hHeld => ?_)
                    · trivial
                    clear hK K
                    try simp only [List.getElem_toArray, List.getElem_cons_succ, List.getElem_cons_zero, Act.put, List.setIfInBounds_toArray, List.set_cons_zero, List.set_cons_succ]
                    refine wpAnyH_done (by kernel_rfl) ?_ _
                    clear hHeld hd1 hd2 hf1 hf2
                    have HN8 := Lib.hid (show (((w8.setCell ⟨mb, i * 2, none⟩ (.int .u64 (bits .and .u64 pa ua2))).setCell ⟨mb, i * 2 + 1, none⟩ (.int .u64 (bits .or .u64 pm um)))).ownsRow W.heap.size 97 2 (.slice (some ⟨mb, 0, none⟩) c.length mac) c.length (sumC ((t.set i tn).map (sumOf xs))) by rw [List.map_set, HJ.out]; exact HPUT.out.1)
                    have HN7 := Lib.hid (SS.own_of_block HO7C.out (fun k e => HPUT.out.2 k (fun e2 => HGM.out (by have h3 : gb = k := Option.some.inj e; rw [h3, e2]))))
                    have HNB := Lib.hid ((HW8.out.setCell (p := ⟨mb, i * 2, none⟩) (HO8C.out.lt mb rfl).1 (.int .u64 (bits .and .u64 pa ua2))).setCell (p := ⟨mb, i * 2 + 1, none⟩) (HO8C.out.lt mb rfl).1 (.int .u64 (bits .or .u64 pm um)))
                    generalize (w8.setCell ⟨mb, i * 2, none⟩ (.int .u64 (bits .and .u64 pa ua2))).setCell ⟨mb, i * 2 + 1, none⟩ (.int .u64 (bits .or .u64 pm um)) = w55 at HN8 HN7 HNB HPUT ⊢
                    go_wp2_with fail
                    go_roundw
                    case rel => exact ⟨q + 1, _, by omega, by go_num, HNB.out, HN7.out, HN8.out, HPN.out⟩
                    case measure => simp [intOf]; omega
                · have HN := Lib.hid (prt_row HPRB.out (show ((sysL c to).nd i).length ≤ q by rw [HND.out, List.length_map]; omega))
                  go_wp2_with fail
                  go_roundw
                  case rel => exact ⟨i + 1, t, by omega, by go_num, HB2B.out, H7B.out, H8B.out, HN.out⟩
                  case measure => simp [intOf]; omega
            · have HPE := Lib.hid (show PrtL xs c to hr HX.out (natL l) c.length 0 t by have h1 := HPR.out; rw [show i = c.length by have := HTQ.out; omega] at h1; exact h1)
              have hjz : ¬ ((i : Int) < to.length) := by omega
              have hba := bnd_all HS.out HLK.out (by rw [natL_len]; exact HLN.out) HPE.out
              obtain ⟨zb, ezb⟩ : ∃ zb, zb = (List.range c.length).all (fun i => sbel (((natL l).map (sumOf xs))[i]?.getD s0) ((t.map (sumOf xs))[i]?.getD s0)) := ⟨_, rfl⟩
              rw [← ezb] at hba
              have HBA := Lib.hid hba
              have HZB := Lib.hid ezb
              clear hba ezb
              go_wp2_with (go_at_call 64; refine (eqf_any _ H7.out H8.out (by rw [List.length_map, natL_len]; exact HLN.out) (by rw [List.length_map]; exact HPE.out.1) (Nat.le_trans HLNB.out (by decide))).mono ?_; rintro e w8 ⟨rfl, hb8⟩; rw [← HZB.out]; have HB8 := Lib.hid (HB1.out.trans (hb8.mono HB1.out.size)); clear hb8)
              go_ret
              exact ⟨HB8.out, _, rfl, HBA.out.trans ⟨fun h => ⟨HZ.out.symm, HLN.out, HAL.out, hr, HX.out, h⟩, fun h => h.2.2.2.2.2⟩⟩
    · have hq1 : ((l.length : Int) == (c.length : Int)) = false := by simp; omega
      have hq2 : ((l.length : Int) != (c.length : Int)) = true := by simp; omega
      have HLN := Lib.hid hlen
      clear hlen
      go_enter Tryd.func40, Tryd.ntmps40
      go_wp2_with (go_at_call 34; refine (HR.out _ HB0.out).mono ?_; rintro e w2 ⟨rfl, hb2⟩; rw [← HZ.out]; have HB2 := Lib.hid (HB0.out.trans (hb2.mono HB0.out.size)); have hc0 := (hb2.cell (p := ⟨W.heap.size, 0, none⟩) (by simp)).trans (cell_of_row _ _ 0 _ _ _ (heap_alloc_new _ _)); clear hb2)
      go_ret
      exact ⟨HB2.out, false, rfl, Iff.intro (fun h => by cases h) (fun h => absurd h.2.1 HLN.out)⟩
end Go.Proofs.YtodhoplchficpaaDoor

/-! solve's laws: is a system small enough; labels there and back -/
namespace Go.Proofs.YtodhoplchficpaaDoor
open Go.RowKit
open SV (Lab SysOk Least labs sumOf mu sumP at' natsL askT askI fanN lok Bnd val valT)
theorem natL_labI (s : List Lab) : natL (labI s) = s := by
  unfold natL labI
  rw [List.map_map]
  conv => rhs; rw [← List.map_id s]
  exact List.map_congr_left fun a _ => by simp
theorem labI_natL {n : Nat} {l : List (Int × Int)} (h : l.all (labOk n) = true) : labI (natL l) = l := by
  unfold natL labI
  rw [List.map_map]
  conv => rhs; rw [← List.map_id l]
  rw [List.all_eq_true] at h
  exact List.map_congr_left fun a ha => by
    have h1 := h a ha
    unfold labOk at h1
    have h2 := of_decide_eq_true h1
    exact Prod.ext (by simp only [Function.comp, id]; omega) rfl
theorem labI_at {s : List Lab} {i : Nat} (h : i < s.length) : (labI s)[i]?.getD s0 = (((at' s i).1 : Int), (at' s i).2) := by
  unfold labI at'
  rw [List.getElem?_map, List.getElem?_eq_getElem h]
  rfl
theorem at_mem {s : List Lab} {i : Nat} (h : i < s.length) : at' s i ∈ s := by
  unfold at'
  rw [List.getElem?_eq_getElem h]
  exact List.getElem_mem h
theorem mem_at {s : List Lab} {a : Lab} (h : a ∈ s) : ∃ i, i < s.length ∧ at' s i = a := by
  obtain ⟨i, hi, e⟩ := List.mem_iff_getElem.1 h
  exact ⟨i, hi, by unfold at'; rw [List.getElem?_eq_getElem hi]; exact e⟩
/-- labels that may be, as the program has them -/
theorem labI_ok {xs : List Int} {s : List Lab} (h : ∀ i, i < s.length → lok xs (at' s i)) : (labI s).all (labOk xs.length) = true ∧ WideL (labI s) := by
  constructor
  · rw [List.all_eq_true]
    intro p hp
    obtain ⟨a, ha, rfl⟩ := List.mem_map.1 hp
    obtain ⟨i, hi, rfl⟩ := mem_at ha
    have := (h i hi).1
    exact decide_eq_true ⟨by show (0 : Int) ≤ ((at' s i).1 : Int); omega, by show ((at' s i).1 : Int) < (xs.length : Int); omega⟩
  · intro p hp
    obtain ⟨a, ha, rfl⟩ := List.mem_map.1 hp
    obtain ⟨i, hi, rfl⟩ := mem_at ha
    exact (h i hi).2
theorem le_iff {xs : List Int} (hr : LL.rightB xs = true) (hw : Wide xs) {a b : Lab} (ha : lok xs a) (hb : lok xs b) : SV.le (labs xs hr hw) a b ↔ lleqB xs a b = true := by
  have hj := (LL.joinN_is hr ha.1 hb.1).1
  unfold lleqB
  rw [Bool.and_eq_true, decide_eq_true_eq]
  constructor
  · intro h
    have h1 : SV.ljoin xs a b = b := h
    unfold SV.ljoin at h1
    have e1 := congrArg Prod.fst h1
    have e2 := congrArg Prod.snd h1
    simp only at e1 e2
    refine ⟨?_, e2⟩
    have h2 := hj.2.1
    rw [e1] at h2
    exact h2
  · intro h
    have e1 : LL.joinN xs a.1 b.1 = b.1 := LL.one_join hr hj ⟨hb.1, h.1, LL.le_refl5 hr hb.1, fun _ _ _ e => e⟩
    show SV.ljoin xs a b = b
    unfold SV.ljoin
    rw [e1, h.2]
def fewB (l : List (Int × Int)) (to : List (List Int)) : Bool := decide (l.length ≤ 60) && decide (to.length ≤ 60) && to.all (fun r => decide (r.length ≤ 60))
theorem few_parts {l : List (Int × Int)} {to : List (List Int)} (h : fewB l to = true) : l.length ≤ 60 ∧ to.length ≤ 60 ∧ ∀ a : Nat, (to[a]?.getD []).length ≤ 60 := by
  unfold fewB at h
  simp only [Bool.and_eq_true, decide_eq_true_eq] at h
  obtain ⟨⟨h1, h2⟩, h3⟩ := h
  refine ⟨h1, h2, fun a => ?_⟩
  by_cases ha : a < to.length
  · rw [List.all_eq_true] at h3
    exact of_decide_eq_true (h3 _ (GG.getD_mem (d := []) ha))
  · rw [List.getElem?_eq_none (by omega)]; simp
set_option maxRecDepth 100000 in
set_option maxHeartbeats 1600000 in
theorem few_any {ca : Option Addr} {cc : Nat} {nv : Value} {l : List (Int × Int)} {to : List (List Int)} (W : World) (hg : GraphM W.heap.size W nv to) (hl : l.length ≤ 17592186044416) (hs : Small to) :
    Calls Tryd.prog 11 #[.agg #[.slice ca l.length cc, nv]] W fun e V => e = .returned (.bool (fewB l to)) ∧ Below W.heap.size W V := by
  obtain ⟨na, nc, rfl⟩ := hg.form
  have HG := Lib.hid hg
  have HSM := Lib.hid hs
  have b0 : (l.length : Int) ≤ 17592186044416 := by omega
  have b1 : (to.length : Int) ≤ 17592186044416 := by have := hs.1; omega
  have HB0 := Lib.hid (show Below W.heap.size W (W.alloc (.cells #[.slice ca l.length cc, .slice na to.length nc] 26)) from (Below.refl _ _).alloc (Nat.le_refl _) _)
  have HC1 := Lib.hid (show (W.alloc (.cells #[.slice ca l.length cc, .slice na to.length nc] 26)).cell? ⟨W.heap.size, 1, none⟩ = some (.slice na to.length nc) from cell_of_row _ _ 1 _ _ _ (heap_alloc_new _ _))
  obtain ⟨z, ez⟩ : ∃ z, z = fewB l to := ⟨_, rfl⟩
  have HZ := Lib.hid ez
  rw [← ez]
  clear hg hs hl ez
  by_cases hA : (60 : Int) < l.length
  · have hz : z = false := by rw [HZ.out]; unfold fewB; rw [decide_eq_false (by omega)]; rfl
    go_enter Tryd.func11, Tryd.ntmps11
    go_wp2_with fail
    go_ret
    exact ⟨by first | (rw [hz]; rfl) | rfl | (subst hz; rfl), HB0.out⟩
  · by_cases hB : (60 : Int) < to.length
    · have hz : z = false := by rw [HZ.out]; unfold fewB; rw [decide_eq_false (show ¬ to.length ≤ 60 by omega)]; simp
      go_enter Tryd.func11, Tryd.ntmps11
      go_wp2_with fail
      go_ret
      exact ⟨by first | (rw [hz]; rfl) | rfl | (subst hz; rfl), HB0.out⟩
    · go_enter Tryd.func11, Tryd.ntmps11
      go_wp2_with fail
      obtain ⟨w1, ew1⟩ : ∃ w1, w1 = W.alloc (.cells #[.slice ca l.length cc, .slice na to.length nc] 26) := ⟨_, rfl⟩
      rw [← ew1] at HB0 HC1 ⊢
      clear ew1
      go_loopw [3] (fun k wr => ∃ i : Nat, i ≤ to.length ∧ k = .int .i64 (i : Int) ∧ wr = w1 ∧ RowKit.Hid (∀ a, a < i → (to[a]?.getD []).length ≤ 60)) (fun k _ => to.length - (intOf k).toNat)
      case atStart => exact ⟨0, Nat.zero_le _, rfl, rfl, Lib.hid fun a ha => absurd ha (Nat.not_lt_zero _)⟩
      case round =>
        obtain ⟨i, hi, rfl, e8, HA⟩ := hrel
        rewrite [e8]
        clear e8
        have hc1 := HC1.out
        by_cases hlt : i < to.length
        · obtain ⟨va, vo, vc2, e1⟩ := HG.out.addr (by omega)
          cases e1
          obtain ⟨ra, rac, hx1, hrx⟩ := (HG.out.below HB0.out).at hlt
          have i1 : (0 : Int) ≤ i ∧ (i : Int) < to.length := by omega
          have b2 : (to[i]?.getD []).length ≤ 17592186044416 := HSM.out.row i
          have HNX := Lib.hid (fun (h : (to[i]?.getD []).length ≤ 60) (a : Nat) (ha : a < i + 1) => if e : a = i then e ▸ h else HA.out a (by omega))
          have HNO := Lib.hid (show ¬ (to[i]?.getD []).length ≤ 60 → fewB l to = false from fun h => by
            unfold fewB
            have : to.all (fun r => decide (r.length ≤ 60)) = false := by
              rw [List.all_eq_false]
              exact ⟨to[i]?.getD [], GG.getD_mem hlt, by rw [decide_eq_false h]; simp⟩
            rw [this]; simp)
          obtain ⟨r, er⟩ : ∃ r, r = to[i]?.getD [] := ⟨_, rfl⟩
          rw [← er] at hx1 b2 HNX HNO
          clear er hrx
          by_cases h60 : (60 : Int) < r.length
          · have hz : z = false := by rw [HZ.out]; exact HNO.out (by omega)
            go_wp2_with fail
            go_ret
            exact ⟨by first | (rw [hz]; rfl) | rfl | (subst hz; rfl), HB0.out⟩
          · have HN := Lib.hid (HNX.out (by omega))
            go_wp2_with fail
            go_roundw
            case rel => exact ⟨i + 1, by omega, by go_num, (by first | rfl | trivial), Lib.hid HN.out⟩
            case measure => simp [intOf]; omega
        · have hz : z = true := by
            rw [HZ.out]
            unfold fewB
            have h3 : to.all (fun r => decide (r.length ≤ 60)) = true := by
              rw [List.all_eq_true]
              intro r hr
              obtain ⟨a, ha, rfl⟩ := List.mem_iff_getElem.1 hr
              have := HA.out a (by omega)
              rw [List.getElem?_eq_getElem ha] at this
              exact decide_eq_true this
            rw [decide_eq_true (by omega), decide_eq_true (by omega), h3]
            rfl
          have hjz : ¬ ((i : Int) < to.length) := by omega
          go_wp2_with fail
          go_ret
          exact ⟨by first | (rw [hz]; rfl) | rfl | (subst hz; rfl), HB0.out⟩
/-- a system in a cell of its own, and all that was there ahead -/
def SysAt (W : World) (cv nv : Value) (w : World) : Prop := Below W.heap.size W w ∧ W.heap.size < w.heap.size ∧ w.cell? ⟨W.heap.size, 0, none⟩ = some cv ∧ w.cell? ⟨W.heap.size, 1, none⟩ = some nv
theorem sysAt_start (W : World) (cv nv : Value) : SysAt W cv nv (W.alloc (.cells #[cv, nv] 26)) :=
  ⟨(Below.refl _ _).alloc (Nat.le_refl _) _, by simp, cell_of_row _ _ 0 _ _ _ (heap_alloc_new _ _), cell_of_row _ _ 1 _ _ _ (heap_alloc_new _ _)⟩
theorem SysAt.on {W w w' : World} {cv nv : Value} (h : SysAt W cv nv w) (hb : Below w.heap.size w w') : SysAt W cv nv w' :=
  ⟨h.1.trans (hb.mono h.1.size), Nat.lt_of_lt_of_le h.2.1 hb.size, (hb.cell (p := ⟨W.heap.size, 0, none⟩) h.2.1).trans h.2.2.1, (hb.cell (p := ⟨W.heap.size, 1, none⟩) h.2.1).trans h.2.2.2⟩
theorem SysAt.drewN {W w : World} {cv nv : Value} (h : SysAt W cv nv w) (d : Nat) : SysAt W cv nv (w.drewN d) := h.on ⟨rfl, rfl, rfl, Nat.le_refl _, fun _ _ => rfl⟩
theorem solveE_no {xs : List Int} {l : List (Int × Int)} {to : List (List Int)} {W V : World} {e : Ending} (h : SolveE xs l to W e V) (hs : sysB xs l to = false) : Below W.heap.size W V ∧ e = .returned (.tuple #[.slice none 0 0, .int .i64 0, .int .i64 1]) := by
  rcases h.2 with ⟨_, h1⟩ | ⟨h1, _⟩
  · exact ⟨h.1, h1⟩
  · rw [hs] at h1; cases h1
theorem solveE_yes {xs : List Int} {l : List (Int × Int)} {to : List (List Int)} {W V : World} {e : Ending} (h : SolveE xs l to W e V) (hs : sysB xs l to = true) (hr : LL.rightB xs = true) (hw : Wide xs) : Below W.heap.size W V ∧ ∃ (sol : List Lab) (k : Nat) (a : Option Addr) (cap : Nat), e = .returned (.tuple #[.slice a l.length cap, .int .i64 (k : Int), .int .i64 0]) ∧ V.ownsRow W.heap.size 38 2 (.slice a l.length cap) l.length (labC sol) ∧
      Least (labs xs hr hw) (sysL l to) sol ∧ sol.length = l.length ∧ (∀ i, i < l.length → lok xs (at' sol i)) ∧ l.length ≤ k ∧ k ≤ l.length + l.length * fanN (natsL to) * (LL.heightN xs + 64) := by
  rcases h.2 with ⟨h1, _⟩ | ⟨_, hr', hw', sol, k, lv, rfl, hown, hL, hk1, hk2⟩
  · rw [hs] at h1; cases h1
  · have e : sol.length = l.length := hL.1.len.trans (natL_len l)
    rw [e] at hown
    obtain ⟨a, cap, rfl⟩ := SS.ownOf hown
    exact ⟨h.1, sol, k, a, cap, rfl, hown, hL, e, fun i hi => hL.1.ok i (by have : (sysL l to).C.length = l.length := natL_len l; omega), hk1, hk2⟩
end Go.Proofs.YtodhoplchficpaaDoor
