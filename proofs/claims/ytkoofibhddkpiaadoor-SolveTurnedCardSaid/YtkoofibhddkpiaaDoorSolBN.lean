import Derived.Test.YtkoofibhddkpiaaDoorSolJK
set_option linter.unusedSimpArgs false
set_option linter.unusedVariables false
/-! solve: Bounds: are two rows of sums as they are when joined -/
namespace Go.Proofs.YtkoofibhddkpiaaDoor
open Go.RowKit
open SV (Lab SysOk Least labs sumOf mu sumP at' natsL askT askI fanN lok)
def sbel (p r : Int × Int) : Bool := decide (bits .and .u64 p.1 r.1 = p.1) && decide (bits .or .u64 p.2 r.2 = p.2)
theorem sbel_all {ps rs : List (Int × Int)} {j : Nat} (hj : j < ps.length) (h : sbel (ps[j]?.getD s0) (rs[j]?.getD s0) = false) : (List.range ps.length).all (fun i => sbel (ps[i]?.getD s0) (rs[i]?.getD s0)) = false := by
  rw [List.all_eq_false]
  exact ⟨j, List.mem_range.2 hj, by rw [h]; simp⟩
end Go.Proofs.YtkoofibhddkpiaaDoor

/-! solve: Bounds -/
namespace Go.Proofs.YtkoofibhddkpiaaDoor
open Go.RowKit
open SV (Lab SysOk Least labs sumOf mu sumP at' natsL askT askI fanN lok Bnd val valT)
/-- what the least row has come to: i equations whole, k needs of the next -/
def prt (xs : List Int) (c : List (Int × Int)) (to : List (List Int)) (hr : LL.rightB xs = true) (hw : Wide xs) (l : List Lab) (i k a : Nat) : Lab :=
  if a < i then val (labs xs hr hw) (sysL c to) l a else if a = i then valT (labs xs hr hw) (sysL c to) l i k else at' (natL c) a
def PrtL (xs : List Int) (c : List (Int × Int)) (to : List (List Int)) (hr : LL.rightB xs = true) (hw : Wide xs) (l : List Lab) (i k : Nat) (t : List Lab) : Prop := t.length = c.length ∧ ∀ a, a < c.length → at' t a = prt xs c to hr hw l i k a
section
variable {xs : List Int} {c : List (Int × Int)} {to : List (List Int)} {hr : LL.rightB xs = true} {hw : Wide xs} {l : List Lab}
theorem prt_zero : PrtL xs c to hr hw l 0 0 (natL c) := ⟨natL_len c, fun a ha => by
  unfold prt
  rw [if_neg (by omega)]
  by_cases e : a = 0
  · subst e; rw [if_pos rfl, SV.valT_zero]; rfl
  · rw [if_neg e]⟩
theorem prt_step {i k j : Nat} {t : List Lab} (h : PrtL xs c to hr hw l i k t) (hi : i < c.length) (hj : ((sysL c to).nd i)[k]? = some j) : PrtL xs c to hr hw l i (k + 1) (t.set i (SV.ljoin xs (at' t i) (at' l j))) := by
  refine ⟨by rw [List.length_set]; exact h.1, fun a ha => ?_⟩
  rw [SV.at_set _ _ _ _ (by rw [h.1]; exact hi)]
  unfold prt
  by_cases e : a = i
  · subst e
    rw [if_pos rfl, if_neg (by omega), if_pos rfl, SV.valT_step hj, h.2 a hi]
    unfold prt
    rw [if_neg (by omega), if_pos rfl]
    rfl
  · rw [if_neg e, h.2 a ha]
    unfold prt
    rw [if_neg e, if_neg e]
theorem prt_row {i k : Nat} {t : List Lab} (h : PrtL xs c to hr hw l i k t) (hk : ((sysL c to).nd i).length ≤ k) : PrtL xs c to hr hw l (i + 1) 0 t := by
  refine ⟨h.1, fun a ha => ?_⟩
  rw [h.2 a ha]
  unfold prt
  by_cases e : a < i
  · rw [if_pos e, if_pos (by omega)]
  · by_cases e2 : a = i
    · subst e2
      rw [if_neg e, if_pos rfl, if_pos (by omega), SV.valT_all hk]
    · rw [if_neg e, if_neg e2, if_neg (by omega)]
      by_cases e3 : a = i + 1
      · subst e3; rw [if_pos rfl, SV.valT_zero]; rfl
      · rw [if_neg e3]
theorem prt_ok {i k a : Nat} (hS : SysOk (labs xs hr hw) (sysL c to)) (hl : ∀ i, i < c.length → lok xs (at' l i)) (ha : a < c.length) : lok xs (prt xs c to hr hw l i k a) := by
  have hC : (sysL c to).C.length = c.length := natL_len c
  have hl' : ∀ i, i < (sysL c to).C.length → (labs xs hr hw).ok (at' l i) := fun i hi => hl i (by omega)
  unfold prt
  by_cases e : a < i
  · rw [if_pos e]; exact (SV.val_is hS hl' (by omega)).1
  · by_cases e2 : a = i
    · rw [if_neg e, if_pos e2]
      subst e2
      unfold valT
      exact (SV.fold_val (M := labs xs hr hw) l _ _ (hS.ok a (by omega)) (fun j hj => hl' j (hS.lt a (by omega) j (List.mem_of_mem_take hj)))).1
    · rw [if_neg e, if_neg e2]; exact hS.ok a (by omega)
/-- two rows of sums, joined, tell what bounds -/
theorem bnd_all (hS : SysOk (labs xs hr hw) (sysL c to)) (hl : ∀ i, i < c.length → lok xs (at' l i)) (hlen : l.length = c.length) {t : List Lab} {k : Nat} (h : PrtL xs c to hr hw l c.length k t) :
    (List.range c.length).all (fun i => sbel ((l.map (sumOf xs))[i]?.getD s0) ((t.map (sumOf xs))[i]?.getD s0)) = true ↔ Bnd (labs xs hr hw) (sysL c to) l := by
  have hC : (sysL c to).C.length = c.length := natL_len c
  have hl' : ∀ i, i < (sysL c to).C.length → (labs xs hr hw).ok (at' l i) := fun i hi => hl i (by omega)
  rw [SV.bnd_iff hS (hlen.trans hC.symm) hl', List.all_eq_true]
  have key : ∀ i, i < c.length → (sbel ((l.map (sumOf xs))[i]?.getD s0) ((t.map (sumOf xs))[i]?.getD s0) = true ↔ SV.le (labs xs hr hw) (val (labs xs hr hw) (sysL c to) l i) (at' l i)) := fun i hi => by
    have hv := (SV.val_is hS hl' (show i < (sysL c to).C.length by omega)).1
    have e1 : at' t i = val (labs xs hr hw) (sysL c to) l i := by rw [h.2 i hi]; unfold prt; rw [if_pos hi]
    rw [SV.map_at (by omega), SV.map_at (by rw [h.1]; exact hi), e1]
    have e2 := SV.sumOf_join hr hw (hl i hi) hv
    have e3 : sbel (sumOf xs (at' l i)) (sumOf xs (val (labs xs hr hw) (sysL c to) l i)) = true ↔ sumOf xs (SV.ljoin xs (at' l i) (val (labs xs hr hw) (sysL c to) l i)) = sumOf xs (at' l i) := by
      rw [e2]
      unfold sbel
      rw [Bool.and_eq_true, decide_eq_true_eq, decide_eq_true_eq]
      exact ⟨fun h => Prod.ext h.1 h.2, fun h => ⟨congrArg Prod.fst h, congrArg Prod.snd h⟩⟩
    rw [e3]
    constructor
    · intro e
      exact SV.le_of_same (M := labs xs hr hw) (hl i hi) hv (SV.sumOf_one hr ((labs xs hr hw).cl (hl i hi) hv) (hl i hi) e)
    · intro e
      have := SV.same_of_le (M := labs xs hr hw) (hl i hi) hv e
      rw [show SV.ljoin xs (at' l i) (val (labs xs hr hw) (sysL c to) l i) = at' l i from this]
  constructor
  · intro h i hi
    exact (key i (by omega)).1 (h i (List.mem_range.2 (by omega)))
  · intro h i hi
    exact (key i (List.mem_range.1 hi)).2 (h i (by have := List.mem_range.1 hi; omega))
end
/-- do labels bound a system? -/
def BoundZ (xs : List Int) (c : List (Int × Int)) (to : List (List Int)) (l : List (Int × Int)) (z : Bool) : Prop :=
  z = true ↔ sysB xs c to = true ∧ l.length = c.length ∧ l.all (labOk xs.length) = true ∧ ∃ (hr : LL.rightB xs = true) (hw : Wide xs), Bnd (labs xs hr hw) (sysL c to) (natL l)
def BoundsE (xs : List Int) (c : List (Int × Int)) (to : List (List Int)) (l : List (Int × Int)) (W : World) (e : Ending) (V : World) : Prop :=
  Below W.heap.size W V ∧ ∃ z, e = .returned (.bool z) ∧ BoundZ xs c to l z
theorem lab_yes2 {n : Nat} {l : List (Int × Int)} (h : l.all (labOk n) = true) {j : Nat} (hj : j < l.length) : 0 ≤ (l[j]?.getD s0).1 ∧ (l[j]?.getD s0).1 < n := by
  rw [List.all_eq_true] at h
  have := h _ (GG.getD_mem (d := s0) hj)
  unfold labOk at this
  exact of_decide_eq_true this
theorem lok_at {xs : List Int} {l : List (Int × Int)} (hwl : WideL l) (h : l.all (labOk xs.length) = true) {j : Nat} (hj : j < l.length) : lok xs (at' (natL l) j) := by
  rw [natL_at hj]
  have h1 := lab_yes2 h hj
  have h2 := hwl _ (GG.getD_mem (d := s0) hj)
  exact ⟨by simp only; omega, h2.1, h2.2⟩
theorem own_freeZ {W : World} {B e size n cap g : Nat} {xs : List Value} (h : W.ownsRow B e size (.slice (some ⟨g, 0, none⟩) n cap) n xs) (k : Nat) : W.frozen? ⟨g, k, none⟩ = false := SS.own_free h k
theorem row_put {W : World} {B n sc sb o : Nat} {ss : List (Int × Int)} (h : W.ownsRow B 55 2 (.slice (some ⟨sb, 0, none⟩) n sc) n (sumC ss)) (ho : o < ss.length) (x y : Int) :
    ((W.setCell ⟨sb, o * 2, none⟩ (.int .u64 x)).setCell ⟨sb, o * 2 + 1, none⟩ (.int .u64 y)).ownsRow B 55 2 (.slice (some ⟨sb, 0, none⟩) n sc) n (sumC (ss.set o (x, y))) ∧ ∀ k, k ≠ sb → ((W.setCell ⟨sb, o * 2, none⟩ (.int .u64 x)).setCell ⟨sb, o * 2 + 1, none⟩ (.int .u64 y)).heap[k]? = W.heap[k]? := by
  have q1 := World.ownsRow.stored h (o * 2) (.int .u64 x)
  have q2 := (World.ownsRow.stored q1.1 (o * 2 + 1) (.int .u64 y)).1
  rw [sumC_set ho (x, y)] at q2
  exact ⟨q2, fun k hk => (Below.heap_setCell _ _ _ _ hk).trans (Below.heap_setCell _ _ _ _ hk)⟩
/-- two rows of sums, in blocks of their own -/
def TwoP (W : World) (n : Nat) (ps qs : List (Int × Int)) (v7 v8 : Value) (V : World) : Prop :=
  Below W.heap.size W V ∧ V.ownsRow W.heap.size 55 2 v7 n (sumC ps) ∧ V.ownsRow W.heap.size 55 2 v8 n (sumC qs) ∧ (∀ k, v7.ownBlock = some k → v8.ownBlock ≠ some k)
end Go.Proofs.YtkoofibhddkpiaaDoor

/-! solve's laws: is a system small enough; labels there and back -/
namespace Go.Proofs.YtkoofibhddkpiaaDoor
open Go.RowKit
open SV (Lab SysOk Least labs sumOf mu sumP at' natsL askT askI fanN lok Bnd val valT)
theorem natL_labI (s : List Lab) : natL (labI s) = s := by
  unfold natL labI
  rw [List.map_map]
  conv => rhs; rw [← List.map_id s]
  exact List.map_congr_left fun a _ => by simp
theorem labI_natL {n : Nat} {l : List (Int × Int)} (h : l.all (labOk n) = true) : labI (natL l) = l := by
  unfold natL labI
  rw [List.map_map]
  conv => rhs; rw [← List.map_id l]
  rw [List.all_eq_true] at h
  exact List.map_congr_left fun a ha => by
    have h1 := h a ha
    unfold labOk at h1
    have h2 := of_decide_eq_true h1
    exact Prod.ext (by simp only [Function.comp, id]; omega) rfl
theorem labI_at {s : List Lab} {i : Nat} (h : i < s.length) : (labI s)[i]?.getD s0 = (((at' s i).1 : Int), (at' s i).2) := by
  unfold labI at'
  rw [List.getElem?_map, List.getElem?_eq_getElem h]
  rfl
theorem at_mem {s : List Lab} {i : Nat} (h : i < s.length) : at' s i ∈ s := by
  unfold at'
  rw [List.getElem?_eq_getElem h]
  exact List.getElem_mem h
theorem mem_at {s : List Lab} {a : Lab} (h : a ∈ s) : ∃ i, i < s.length ∧ at' s i = a := by
  obtain ⟨i, hi, e⟩ := List.mem_iff_getElem.1 h
  exact ⟨i, hi, by unfold at'; rw [List.getElem?_eq_getElem hi]; exact e⟩
/-- labels that may be, as the program has them -/
theorem labI_ok {xs : List Int} {s : List Lab} (h : ∀ i, i < s.length → lok xs (at' s i)) : (labI s).all (labOk xs.length) = true ∧ WideL (labI s) := by
  constructor
  · rw [List.all_eq_true]
    intro p hp
    obtain ⟨a, ha, rfl⟩ := List.mem_map.1 hp
    obtain ⟨i, hi, rfl⟩ := mem_at ha
    have := (h i hi).1
    exact decide_eq_true ⟨by show (0 : Int) ≤ ((at' s i).1 : Int); omega, by show ((at' s i).1 : Int) < (xs.length : Int); omega⟩
  · intro p hp
    obtain ⟨a, ha, rfl⟩ := List.mem_map.1 hp
    obtain ⟨i, hi, rfl⟩ := mem_at ha
    exact (h i hi).2
theorem le_iff {xs : List Int} (hr : LL.rightB xs = true) (hw : Wide xs) {a b : Lab} (ha : lok xs a) (hb : lok xs b) : SV.le (labs xs hr hw) a b ↔ lleqB xs a b = true := by
  have hj := (LL.joinN_is hr ha.1 hb.1).1
  unfold lleqB
  rw [Bool.and_eq_true, decide_eq_true_eq]
  constructor
  · intro h
    have h1 : SV.ljoin xs a b = b := h
    unfold SV.ljoin at h1
    have e1 := congrArg Prod.fst h1
    have e2 := congrArg Prod.snd h1
    simp only at e1 e2
    refine ⟨?_, e2⟩
    have h2 := hj.2.1
    rw [e1] at h2
    exact h2
  · intro h
    have e1 : LL.joinN xs a.1 b.1 = b.1 := LL.one_join hr hj ⟨hb.1, h.1, LL.le_refl5 hr hb.1, fun _ _ _ e => e⟩
    show SV.ljoin xs a b = b
    unfold SV.ljoin
    rw [e1, h.2]
def fewB (l : List (Int × Int)) (to : List (List Int)) : Bool := decide (l.length ≤ 60) && decide (to.length ≤ 60) && to.all (fun r => decide (r.length ≤ 60))
theorem few_parts {l : List (Int × Int)} {to : List (List Int)} (h : fewB l to = true) : l.length ≤ 60 ∧ to.length ≤ 60 ∧ ∀ a : Nat, (to[a]?.getD []).length ≤ 60 := by
  unfold fewB at h
  simp only [Bool.and_eq_true, decide_eq_true_eq] at h
  obtain ⟨⟨h1, h2⟩, h3⟩ := h
  refine ⟨h1, h2, fun a => ?_⟩
  by_cases ha : a < to.length
  · rw [List.all_eq_true] at h3
    exact of_decide_eq_true (h3 _ (GG.getD_mem (d := []) ha))
  · rw [List.getElem?_eq_none (by omega)]; simp
set_option maxRecDepth 100000 in
set_option maxHeartbeats 1600000 in
theorem few_any {ca : Option Addr} {cc : Nat} {nv : Value} {l : List (Int × Int)} {to : List (List Int)} (W : World) (hg : GraphM W.heap.size W nv to) (hl : l.length ≤ 17592186044416) (hs : Small to) :
    Calls Tryd.prog 4 #[.agg #[.slice ca l.length cc, nv]] W fun e V => e = .returned (.bool (fewB l to)) ∧ Below W.heap.size W V := by
  obtain ⟨na, nc, rfl⟩ := hg.form
  have HG := Lib.hid hg
  have HSM := Lib.hid hs
  have b0 : (l.length : Int) ≤ 17592186044416 := by omega
  have b1 : (to.length : Int) ≤ 17592186044416 := by have := hs.1; omega
  have HB0 := Lib.hid (show Below W.heap.size W (W.alloc (.cells #[.slice ca l.length cc, .slice na to.length nc] 26)) from (Below.refl _ _).alloc (Nat.le_refl _) _)
  have HC1 := Lib.hid (show (W.alloc (.cells #[.slice ca l.length cc, .slice na to.length nc] 26)).cell? ⟨W.heap.size, 1, none⟩ = some (.slice na to.length nc) from cell_of_row _ _ 1 _ _ _ (heap_alloc_new _ _))
  obtain ⟨z, ez⟩ : ∃ z, z = fewB l to := ⟨_, rfl⟩
  have HZ := Lib.hid ez
  rw [← ez]
  clear hg hs hl ez
  by_cases hA : (60 : Int) < l.length
  · have hz : z = false := by rw [HZ.out]; unfold fewB; rw [decide_eq_false (by omega)]; rfl
    go_enter Tryd.func4, Tryd.ntmps4
    go_wp2_with fail
    go_ret
    exact ⟨by first | (rw [hz]; rfl) | rfl | (subst hz; rfl), HB0.out⟩
  · by_cases hB : (60 : Int) < to.length
    · have hz : z = false := by rw [HZ.out]; unfold fewB; rw [decide_eq_false (show ¬ to.length ≤ 60 by omega)]; simp
      go_enter Tryd.func4, Tryd.ntmps4
      go_wp2_with fail
      go_ret
      exact ⟨by first | (rw [hz]; rfl) | rfl | (subst hz; rfl), HB0.out⟩
    · go_enter Tryd.func4, Tryd.ntmps4
      go_wp2_with fail
      obtain ⟨w1, ew1⟩ : ∃ w1, w1 = W.alloc (.cells #[.slice ca l.length cc, .slice na to.length nc] 26) := ⟨_, rfl⟩
      rw [← ew1] at HB0 HC1 ⊢
      clear ew1
      go_loopw [3] (fun k wr => ∃ i : Nat, i ≤ to.length ∧ k = .int .i64 (i : Int) ∧ wr = w1 ∧ RowKit.Hid (∀ a, a < i → (to[a]?.getD []).length ≤ 60)) (fun k _ => to.length - (intOf k).toNat)
      case atStart => exact ⟨0, Nat.zero_le _, rfl, rfl, Lib.hid fun a ha => absurd ha (Nat.not_lt_zero _)⟩
      case round =>
        obtain ⟨i, hi, rfl, e8, HA⟩ := hrel
        rewrite [e8]
        clear e8
        have hc1 := HC1.out
        by_cases hlt : i < to.length
        · obtain ⟨va, vo, vc2, e1⟩ := HG.out.addr (by omega)
          cases e1
          obtain ⟨ra, rac, hx1, hrx⟩ := (HG.out.below HB0.out).at hlt
          have i1 : (0 : Int) ≤ i ∧ (i : Int) < to.length := by omega
          have b2 : (to[i]?.getD []).length ≤ 17592186044416 := HSM.out.row i
          have HNX := Lib.hid (fun (h : (to[i]?.getD []).length ≤ 60) (a : Nat) (ha : a < i + 1) => if e : a = i then e ▸ h else HA.out a (by omega))
          have HNO := Lib.hid (show ¬ (to[i]?.getD []).length ≤ 60 → fewB l to = false from fun h => by
            unfold fewB
            have : to.all (fun r => decide (r.length ≤ 60)) = false := by
              rw [List.all_eq_false]
              exact ⟨to[i]?.getD [], GG.getD_mem hlt, by rw [decide_eq_false h]; simp⟩
            rw [this]; simp)
          obtain ⟨r, er⟩ : ∃ r, r = to[i]?.getD [] := ⟨_, rfl⟩
          rw [← er] at hx1 b2 HNX HNO
          clear er hrx
          by_cases h60 : (60 : Int) < r.length
          · have hz : z = false := by rw [HZ.out]; exact HNO.out (by omega)
            go_wp2_with fail
            go_ret
            exact ⟨by first | (rw [hz]; rfl) | rfl | (subst hz; rfl), HB0.out⟩
          · have HN := Lib.hid (HNX.out (by omega))
            go_wp2_with fail
            go_roundw
            case rel => exact ⟨i + 1, by omega, by go_num, (by first | rfl | trivial), Lib.hid HN.out⟩
            case measure => simp [intOf]; omega
        · have hz : z = true := by
            rw [HZ.out]
            unfold fewB
            have h3 : to.all (fun r => decide (r.length ≤ 60)) = true := by
              rw [List.all_eq_true]
              intro r hr
              obtain ⟨a, ha, rfl⟩ := List.mem_iff_getElem.1 hr
              have := HA.out a (by omega)
              rw [List.getElem?_eq_getElem ha] at this
              exact decide_eq_true this
            rw [decide_eq_true (by omega), decide_eq_true (by omega), h3]
            rfl
          have hjz : ¬ ((i : Int) < to.length) := by omega
          go_wp2_with fail
          go_ret
          exact ⟨by first | (rw [hz]; rfl) | rfl | (subst hz; rfl), HB0.out⟩
/-- a system in a cell of its own, and all that was there ahead -/
def SysAt (W : World) (cv nv : Value) (w : World) : Prop := Below W.heap.size W w ∧ W.heap.size < w.heap.size ∧ w.cell? ⟨W.heap.size, 0, none⟩ = some cv ∧ w.cell? ⟨W.heap.size, 1, none⟩ = some nv
theorem sysAt_start (W : World) (cv nv : Value) : SysAt W cv nv (W.alloc (.cells #[cv, nv] 26)) :=
  ⟨(Below.refl _ _).alloc (Nat.le_refl _) _, by simp, cell_of_row _ _ 0 _ _ _ (heap_alloc_new _ _), cell_of_row _ _ 1 _ _ _ (heap_alloc_new _ _)⟩
theorem SysAt.on {W w w' : World} {cv nv : Value} (h : SysAt W cv nv w) (hb : Below w.heap.size w w') : SysAt W cv nv w' :=
  ⟨h.1.trans (hb.mono h.1.size), Nat.lt_of_lt_of_le h.2.1 hb.size, (hb.cell (p := ⟨W.heap.size, 0, none⟩) h.2.1).trans h.2.2.1, (hb.cell (p := ⟨W.heap.size, 1, none⟩) h.2.1).trans h.2.2.2⟩
theorem SysAt.drewN {W w : World} {cv nv : Value} (h : SysAt W cv nv w) (d : Nat) : SysAt W cv nv (w.drewN d) := h.on ⟨rfl, rfl, rfl, Nat.le_refl _, fun _ _ => rfl⟩
theorem solveE_no {xs : List Int} {l : List (Int × Int)} {to : List (List Int)} {W V : World} {e : Ending} (h : SolveE xs l to W e V) (hs : sysB xs l to = false) : Below W.heap.size W V ∧ e = .returned (.tuple #[.slice none 0 0, .int .i64 0, .int .i64 1]) := by
  rcases h.2 with ⟨_, h1⟩ | ⟨h1, _⟩
  · exact ⟨h.1, h1⟩
  · rw [hs] at h1; cases h1
theorem solveE_yes {xs : List Int} {l : List (Int × Int)} {to : List (List Int)} {W V : World} {e : Ending} (h : SolveE xs l to W e V) (hs : sysB xs l to = true) (hr : LL.rightB xs = true) (hw : Wide xs) : Below W.heap.size W V ∧ ∃ (sol : List Lab) (k : Nat) (a : Option Addr) (cap : Nat), e = .returned (.tuple #[.slice a l.length cap, .int .i64 (k : Int), .int .i64 0]) ∧ V.ownsRow W.heap.size 49 2 (.slice a l.length cap) l.length (labC sol) ∧
      Least (labs xs hr hw) (sysL l to) sol ∧ sol.length = l.length ∧ (∀ i, i < l.length → lok xs (at' sol i)) ∧ l.length ≤ k ∧ k ≤ l.length + l.length * fanN (natsL to) * (LL.heightN xs + 64) := by
  rcases h.2 with ⟨h1, _⟩ | ⟨_, hr', hw', sol, k, lv, rfl, hown, hL, hk1, hk2⟩
  · rw [hs] at h1; cases h1
  · have e : sol.length = l.length := hL.1.len.trans (natL_len l)
    rw [e] at hown
    obtain ⟨a, cap, rfl⟩ := SS.ownOf hown
    exact ⟨h.1, sol, k, a, cap, rfl, hown, hL, e, fun i hi => hL.1.ok i (by have : (sysL l to).C.length = l.length := natL_len l; omega), hk1, hk2⟩
end Go.Proofs.YtkoofibhddkpiaaDoor
