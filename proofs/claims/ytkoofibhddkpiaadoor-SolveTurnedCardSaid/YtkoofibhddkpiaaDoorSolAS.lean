import Derived.Test.YtkoofibhddkpiaaDoorSolPR
import Derived.Test.YtkoofibhddkpiaaDoorHeaT
import Derived.Deep.AppendLies
import Derived.Deep.Grids
set_option linter.unusedSimpArgs false
set_option linter.unusedVariables false
/-! solve: what the program's sums tell of labels -/
namespace Go.Proofs.YtkoofibhddkpiaaDoor
namespace SV
theorem map_at {xs : List Int} {s : List Lab} {i : Nat} (h : i < s.length) : (s.map (sumOf xs))[i]?.getD s0 = sumOf xs (at' s i) := by
  unfold at'
  rw [List.getElem?_map, List.getElem?_eq_getElem h]
  rfl
theorem sjoin_sum {xs : List Int} (hr : LL.rightB xs = true) (hw : Wide xs) {a b : Lab} (ha : lok xs a) (hb : lok xs b) : sjoin (sumOf xs a) (sumOf xs b) = sumOf xs (ljoin xs a b) := by
  rw [sumOf_join hr hw ha hb]
  rfl
/-- telling over sums is telling over labels -/
theorem tell_bridge {xs : List Int} (hr : LL.rightB xs = true) (hw : Wide xs) {S : Sys Lab} (hS : SysOk (labs xs hr hw) S) {s : List Lab} {q : List Nat} {v : Nat} {r : List Nat} (h : TellI (labs xs hr hw) S v r s q 0 s q) :
    ∀ k, k ≤ r.length → ∃ s', (tellT v r k (s.map (sumOf xs), q)).1 = s'.map (sumOf xs) ∧ TellI (labs xs hr hw) S v r s q k s' (tellT v r k (s.map (sumOf xs), q)).2 := by
  intro k
  induction k with
  | zero => intro _; exact ⟨s, by rw [tellT_zero], by rw [tellT_zero]; exact h⟩
  | succ k ih =>
    intro hk
    obtain ⟨s', e1, g⟩ := ih (by omega)
    obtain ⟨o, ho⟩ : ∃ o, r[k]? = some o := ⟨_, List.getElem?_eq_getElem (show k < r.length by omega)⟩
    have hm := g.1
    have hor : o ∈ r.drop k := by
      obtain ⟨hk2, e⟩ := List.getElem?_eq_some_iff.1 ho
      rw [List.drop_eq_getElem_cons hk2, e]
      exact List.mem_cons_self ..
    have hon := (hm.rest o hor).1
    have hol : o < s'.length := by have := hm.len; omega
    have hvl : v < s'.length := by have := hm.len; have := hm.vlt; omega
    rw [tellT_succ ho]
    generalize tellT v r k (s.map (sumOf xs), q) = st at e1 g hm ⊢
    obtain ⟨ss, q1⟩ := st
    simp only at e1 g hm
    subst e1
    have hj : sjoin ((s'.map (sumOf xs))[o]?.getD s0) ((s'.map (sumOf xs))[v]?.getD s0) = sumOf xs (ljoin xs (at' s' o) (at' s' v)) := by
      rw [map_at hol, map_at hvl]
      exact sjoin_sum hr hw (hm.ok o hon) (hm.ok v hm.vlt)
    by_cases he : ljoin xs (at' s' o) (at' s' v) = at' s' o
    · have e2 : tstep v o (s'.map (sumOf xs), q1) = (s'.map (sumOf xs), q1) := by
        unfold tstep
        rw [if_pos (by simp only; rw [hj, he, map_at hol])]
      rw [e2]
      exact ⟨s', rfl, tell_skip g ho he⟩
    · have hne : ¬ sumOf xs (ljoin xs (at' s' o) (at' s' v)) = sumOf xs (at' s' o) := fun e => he (sumOf_one hr ((labs xs hr hw).cl (hm.ok o hon) (hm.ok v hm.vlt)) (hm.ok o hon) e)
      have e2 : tstep v o (s'.map (sumOf xs), q1) = ((s'.map (sumOf xs)).set o (sumOf xs (ljoin xs (at' s' o) (at' s' v))), addQ o q1) := by
        unfold tstep
        rw [if_neg (by simp only; rw [hj, map_at hol]; exact hne)]
        simp only
        rw [hj]
      rw [e2]
      refine ⟨s'.set o (ljoin xs (at' s' o) (at' s' v)), by simp only [List.map_set], ?_⟩
      exact tell_grow hS g ho he (addQ_nodup hm.nodup) (fun u => mem_addQ) addQ_len
end SV
end Go.Proofs.YtkoofibhddkpiaaDoor

/-! solve: who needs whom, in memory (the table as graph's, in a namespace of its own: where graph's is not there) -/
namespace Go.Proofs.YtkoofibhddkpiaaDoor.SV
open Go.RowKit
theorem blk_set_other (W : World) (a : Addr) (k : Nat) (v : Value) (h : k ≠ a.block) : (W.setCell a v).heap[k]? = W.heap[k]? := heap_setCell_other W a k v h
/-- what is known of a table: the slices in it, each with a row of its own -/
structure Tab (W0 : World) (n : Nat) (rows : Nat → List Int) (vs : Nat → Value) (W : World) : Prop where
  tab : W.rowIs W0.heap.size 29 n vs
  own : ∀ j, j < n → W.ownsRow (W0.heap.size + 1) 3 1 (vs j) (rows j).length (intsV (rows j))
  apart : ∀ j k, j < n → k < n → j ≠ k → (vs j).ownBlock = none ∨ (vs j).ownBlock ≠ (vs k).ownBlock
  below : Below W0.heap.size W0 W
  size : W0.heap.size + 1 ≤ W.heap.size
def OwnG (W0 : World) (n : Nat) (rows : Nat → List Int) (W : World) : Prop := ∃ vs, Tab W0 n rows vs W
theorem OwnG.congr {W0 W : World} {n : Nat} {rows rows' : Nat → List Int} (h : OwnG W0 n rows W) (e : ∀ j, j < n → rows j = rows' j) : OwnG W0 n rows' W := by
  obtain ⟨vs, h1, h2, h3, h4, h5⟩ := h
  exact ⟨vs, h1, fun j hj => by rw [← e j hj]; exact h2 j hj, h3, h4, h5⟩
theorem ownG_new (W : World) (n : Nat) : OwnG W n (fun _ => []) (W.alloc (.cells (madeCells #[.slice none 0 0] n) 29)) :=
  ⟨fun _ => .slice none 0 0, World.rowIs_made W (.slice none 0 0) n 29, fun j _ => World.ownsRow_nil _ _ _ _, fun j k _ _ _ => .inl rfl, (Below.refl _ _).alloc (Nat.le_refl _) _, by simp⟩
theorem OwnG.graph {W0 W : World} {n : Nat} {rows : Nat → List Int} (h : OwnG W0 n rows W) : GraphM W.heap.size W (.slice (some ⟨W0.heap.size, 0, none⟩) n n) ((List.range n).map rows) := by
  obtain ⟨vs, h1, h2, h3, h4, h5⟩ := h
  refine ⟨(List.range n).map vs, .inr ⟨W0.heap.size, 0, n, by simp, World.rowIs.lt h1, by simp, fun j u hj => ?_⟩, by simp, fun j hj => ?_⟩
  · have hjn : j < n := by
      have := (List.getElem?_eq_some_iff.1 hj).1
      simpa using this
    rw [List.getElem?_map, List.getElem?_range hjn] at hj
    have := World.rowIs.cell h1 hjn
    rw [Nat.zero_add, this]
    exact hj
  · have hjn : j < n := by simpa using hj
    refine ⟨vs j, by rw [List.getElem?_map, List.getElem?_range hjn]; rfl, ?_⟩
    rw [List.getElem?_map, List.getElem?_range hjn]
    exact cells_of_row (h2 j hjn)
theorem Tab.app {W0 W w1 : World} {n : Nat} {rows : Nat → List Int} {vs : Nat → Value} (h : Tab W0 n rows vs W) {j : Nat} (hj : j < n) {x : Int} {g cap : Nat} {o : Obj}
    (ho : w1.ownsRow (W0.heap.size + 1) 3 1 (.slice (some ⟨g, 0, none⟩) ((rows j).length + 1) cap) ((rows j).length + 1) (intsV (rows j) ++ [.int .i64 x])) (hg : (W.alloc o).grownBy w1 (vs j).ownBlock) (hat : (vs j).ownBlock = some g ∨ g = W.heap.size + 1) :
    OwnG W0 n (fun k => if k = j then rows j ++ [x] else rows k) (w1.setCell ⟨W0.heap.size, j, none⟩ (.slice (some ⟨g, 0, none⟩) ((rows j).length + 1) cap)) ∧
      w1.cell? ⟨W0.heap.size, j, none⟩ = some (vs j) ∧ w1.frozen? ⟨W0.heap.size, j, none⟩ = false := by
  obtain ⟨h1, h2, h3, h4, h5⟩ := h
  have hb : ∀ k, (vs j).ownBlock = some k → W0.heap.size + 1 ≤ k ∧ k < W.heap.size := fun k e => (h2 j hj).lt k e
  have hgb : W0.heap.size + 1 ≤ g := by
    rcases hat with e | e
    · exact (hb g e).1
    · omega
  have h1' : w1.rowIs W0.heap.size 29 n vs := by
    refine h1.of_block ?_
    rw [hg.block _ (by simp; omega) (fun e => by have := (hb _ e.symm).1; omega)]
    exact heap_alloc_old W o (by omega)
  refine ⟨⟨fun k => if k = j then .slice (some ⟨g, 0, none⟩) ((rows j).length + 1) cap else vs k, World.rowIs.set h1' j _, fun k hk => ?_, fun k l hk hl hkl => ?_, ?_, ?_⟩, World.rowIs.cell h1' hj, World.rowIs.frozen h1' j⟩
  · have key : ∀ {v : Value} {m : Nat} {xs : List Value}, w1.ownsRow (W0.heap.size + 1) 3 1 v m xs → (w1.setCell ⟨W0.heap.size, j, none⟩ (.slice (some ⟨g, 0, none⟩) ((rows j).length + 1) cap)).ownsRow (W0.heap.size + 1) 3 1 v m xs := by
      intro v m xs hv
      refine ⟨hv.1, ?_⟩
      rcases hv.2 with hn | ⟨g', cap', cur, rfl, hb', hgg, rest⟩
      · exact .inl hn
      · exact .inr ⟨g', cap', cur, rfl, hb', by rw [blk_set_other _ _ _ _ (by simp; omega)]; exact hgg, rest⟩
    by_cases e : k = j
    · subst e
      simp only [if_true]
      refine key ?_
      have e1 : (rows k ++ [x]).length = (rows k).length + 1 := by simp
      have e2 : intsV (rows k ++ [x]) = intsV (rows k) ++ [.int .i64 x] := by simp [intsV]
      rw [e1, e2]; exact ho
    · simp only [if_neg e]
      exact key (((h2 k hk).alloc o).kept hg (h3 k j hk hj e))
  · by_cases e : k = j
    · subst e
      simp only [if_true, if_neg (fun e => hkl (Eq.symm e))]
      right
      intro e2
      have e2' : some g = (vs l).ownBlock := e2
      rcases hat with e1 | e1
      · rcases h3 l k hl hk (fun e => hkl e.symm) with h | h
        · rw [h] at e2'; cases e2'
        · exact h (e2'.symm.trans e1.symm)
      · have := ((h2 l hl).lt g e2'.symm).2
        omega
    · simp only [if_neg e]
      by_cases e3 : l = j
      · subst e3
        simp only [if_true]
        rcases hat with e1 | e1
        · rcases h3 k l hk hl hkl with h | h
          · exact .inl h
          · exact .inr (fun e2 => h (e2.trans e1.symm))
        · right
          intro e2
          have e2' : (vs k).ownBlock = some g := e2
          have := ((h2 k hk).lt g e2').2
          omega
      · simp only [if_neg e3]
        exact h3 k l hk hl hkl
  · exact ((h4.alloc (by omega) o).grown hg (by simp; omega) (fun k e => by have := (hb k e).1; omega)).setCell (by simp) _
  · have := hg.size; simp at this ⊢; omega

theorem askT_len {N : List (List Nat)} {m : Nat} (h : ∀ a : Nat, (N[a]?.getD []).length ≤ m) (i k j : Nat) : (askT N i k j).length ≤ i * m + m := by
  have key : ∀ i, ((List.range i).flatMap (fun a => ((N[a]?.getD []).filter (· == j)).map (fun _ => a))).length ≤ i * m := by
    intro i
    induction i with
    | zero => simp
    | succ i ih =>
      rw [List.range_succ, List.flatMap_append, List.length_append, Nat.succ_mul]
      have h1 := List.length_filter_le (· == j) (N[i]?.getD [])
      have h2 := h i
      simp only [List.flatMap_cons, List.flatMap_nil, List.append_nil, List.length_map]
      omega
  unfold askT
  rw [List.length_append, List.length_map]
  have h1 := List.length_filter_le (· == j) ((N[i]?.getD []).take k)
  have h2 := h i
  have h3 := key i
  rw [List.length_take] at h1
  omega
/-- needs as numbers -/
def natsL (to : List (List Int)) : List (List Nat) := to.map fun r => r.map Int.toNat
theorem natsL_at (to : List (List Int)) (i : Nat) : (natsL to)[i]?.getD [] = (to[i]?.getD []).map Int.toNat := by
  unfold natsL
  rw [List.getElem?_map]
  cases to[i]? <;> rfl
def askI (to : List (List Int)) (i k j : Nat) : List Int := (askT (natsL to) i k j).map Int.ofNat
theorem askI_step {to : List (List Int)} {i k y : Nat} (hk : k < (to[i]?.getD []).length) (hy : (to[i]?.getD [])[k]?.getD 0 = (y : Int)) (j : Nat) : (if j = y then askI to i k y ++ [(i : Int)] else askI to i k j) = askI to i (k + 1) j := by
  have h1 : ((natsL to)[i]?.getD [])[k]? = some y := by
    rw [natsL_at, List.getElem?_map, List.getElem?_eq_getElem hk, Option.map_some]
    rw [List.getElem?_eq_getElem hk, Option.getD_some] at hy
    rw [hy, Int.toNat_natCast]
  unfold askI
  rw [askT_step h1, List.map_append]
  by_cases e : j = y
  · subst e; simp
  · rw [if_neg e, if_neg (fun e2 => e e2.symm)]; simp
theorem askI_row {to : List (List Int)} {i k : Nat} (h : (to[i]?.getD []).length ≤ k) (j : Nat) : askI to i k j = askI to (i + 1) 0 j := by
  unfold askI
  rw [askT_row (by rw [natsL_at, List.length_map]; exact h)]
theorem askI_len {to : List (List Int)} {m : Nat} (h : ∀ a : Nat, (to[a]?.getD []).length ≤ m) (i k j : Nat) : (askI to i k j).length ≤ i * m + m := by
  unfold askI
  rw [List.length_map]
  exact askT_len (fun a => by rw [natsL_at, List.length_map]; exact h a) i k j
end Go.Proofs.YtkoofibhddkpiaaDoor.SV
namespace Go.Proofs.YtkoofibhddkpiaaDoor
open Go.RowKit
open SV (askI Tab OwnG ownG_new)
def AskE (to : List (List Int)) (W : World) (e : Ending) (V : World) : Prop := e = .returned (.slice (some ⟨W.heap.size, 0, none⟩) to.length to.length) ∧ OwnG W to.length (fun j => askI to to.length 0 j) V
set_option maxRecDepth 100000 in
set_option maxHeartbeats 3200000 in
theorem askers_any {v : Value} {to : List (List Int)} (W : World) (hv : GraphM W.heap.size W v to) (hl : to.length ≤ 1000000) (hm : ∀ a : Nat, (to[a]?.getD []).length ≤ 1000000) (hin : ∀ a : Nat, ∀ x ∈ to[a]?.getD [], 0 ≤ x ∧ x < to.length) :
    Calls Tryd.prog 18 #[v] W fun e V => AskE to W e V := by
  have HV := Lib.hid hv
  have HM := Lib.hid hm
  have HI := Lib.hid hin
  obtain ⟨va0, vc, rfl⟩ := hv.form
  obtain ⟨i0, hi0, hz0, hz1, hz2⟩ := info_parts Tryd.infoGInt
  have hmk := run_make_row' (P := Tryd.prog) 24 29 (.slice none 0 0) 24 (by kernel_rfl) Tryd.infoGRow rfl .i64 .i64 to.length (by omega) (by omega)
  have b0 : (to.length : Int) ≤ 1000000 := by omega
  clear hv hm hin
  go_enter Tryd.func18, Tryd.ntmps18
  go_wp2_with fail
  clear hmk
  have H0 := Lib.hid (ownG_new W to.length)
  go_loopw [13] (fun k wr => ∃ i : Nat, i ≤ to.length ∧ k = .int .i64 (i : Int) ∧ OwnG W to.length (fun j => askI to i 0 j) wr) (fun k _ => to.length - (intOf k).toNat)
  case atStart => exact ⟨0, Nat.zero_le _, rfl, H0.out.congr fun j _ => by simp [askI, SV.askT_zero]⟩
  case round =>
    obtain ⟨i, hi, rfl, hO⟩ := hrel
    clear H0
    have HO := Lib.hid hO
    clear hO
    by_cases hlt : i < to.length
    · obtain ⟨va, vo, vc2, e1⟩ := HV.out.addr (by omega)
      cases e1
      have HBo := Lib.hid (show Below W.heap.size W wr from HO.out.choose_spec.below)
      obtain ⟨ra, rac, hx1, hrx⟩ := (HV.out.below HBo.out).at hlt
      have i1 : (0 : Int) ≤ i ∧ (i : Int) < to.length := by omega
      have b1 : (to[i]?.getD []).length ≤ 1000000 := HM.out i
      have HRI := Lib.hid (HI.out i)
      have HSTP := Lib.hid (fun (q : Nat) (hq : q < (to[i]?.getD []).length) (y : Nat) hy j => SV.askI_step (to := to) (i := i) (k := q) (y := y) hq hy j)
      have HALL := Lib.hid (fun q (hq : (to[i]?.getD []).length ≤ q) j => SV.askI_row (to := to) hq j)
      obtain ⟨r, er⟩ : ∃ r, r = to[i]?.getD [] := ⟨_, rfl⟩
      rw [← er] at hx1 hrx b1 HRI HALL HSTP
      have HRX := Lib.hid hrx
      clear er hrx
      go_wp2_with fail
      obtain ⟨wo, ewo⟩ : ∃ wo : World, wo = wr := ⟨_, rfl⟩
      rw [← ewo]
      rw [← ewo] at HO HBo HRX hx1
      clear ewo hx1
      go_loopw [20] (fun k wr => ∃ q : Nat, q ≤ r.length ∧ k = .int .i64 (q : Int) ∧ OwnG W to.length (fun j => askI to i q j) wr) (fun k _ => r.length - (intOf k).toNat)
      case atStart => exact ⟨0, Nat.zero_le _, rfl, HO.out⟩
      case round =>
        obtain ⟨q, hq, rfl, hO2⟩ := hrel
        clear HO
        by_cases hqt : q < r.length
        · obtain ⟨vs, hT⟩ := hO2
          have HT := Lib.hid hT
          clear hT
          obtain ⟨xb2, xo2, rfl, hx2⟩ := (HRX.out.of_both HBo.out HT.out.below).cellAt hqt
          have i3 : (0 : Int) ≤ q ∧ (q : Int) < r.length := by omega
          have HX2 := Lib.hid (HRI.out _ (GG.getD_mem (d := 0) hqt))
          have HST := Lib.hid (fun y hy => HSTP.out q hqt y hy)
          obtain ⟨x, ex⟩ : ∃ x, x = r[q]?.getD 0 := ⟨_, rfl⟩
          rw [← ex] at hx2 HX2 HST
          clear ex
          obtain ⟨y, rfl⟩ : ∃ y : Nat, x = (y : Int) := ⟨x.toNat, by have := HX2.out; omega⟩
          have hyn : y < to.length := by have := HX2.out; omega
          have i4 : (0 : Int) ≤ (y : Int) ∧ (y : Int) < to.length := by omega
          have hcj := World.rowIs.cell HT.out.tab hyn
          have HLN := Lib.hid (show (askI to i q y).length ≤ 1000001000000 from Nat.le_trans (SV.askI_len HM.out i q y) (by omega))
          obtain ⟨sa, sc, hsv⟩ := GG.own_slice (HT.out.own y hyn)
          have HSV := Lib.hid hsv
          clear hsv
          go_wp2_with (first
            | (at_builtin
               refine wpList_append_lies _ rfl _ _ 29 rfl (W.heap.size + 1) 3 i0 (.int .i64 0) 1 8 Tryd.underlying29 hi0 hz0 hz1 hz2 rfl (by decide) (vs y) _ _ rfl ((HT.out.own y hyn).alloc _) ⟨wr.heap.size, 0, none⟩ 1 1 [.int .i64 (i : Int)] rfl rfl (GG.cell_one _ _ _) (by intro u hu; rw [List.mem_singleton.1 hu]; rfl) (by decide) (by have := HLN.out; unfold maxLen; omega) (by have := HLN.out; omega) (by have := HT.out.size; simp; omega) (wr.heap.size + 1) (by simp) ?_
               intro g cap w1 ho hg hat _
               have HA := Lib.hid (HT.out.app hyn ho hg hat)
               have hcw := HA.out.2.1
               have hfw := HA.out.2.2
               clear ho hg hat))
          go_roundw
          case rel => exact ⟨q + 1, by omega, by go_num, HA.out.1.congr fun j _ => HST.out y rfl j⟩
          case measure => simp [intOf]; omega
        · have HN := Lib.hid (show OwnG W to.length (fun j => askI to (i + 1) 0 j) wr from hO2.congr fun j _ => HALL.out q (by omega) j)
          clear hO2
          go_wp2_with fail
          go_roundw
          case rel => exact ⟨i + 1, by omega, by go_num, HN.out⟩
          case measure => simp [intOf]; omega
    · have HG := Lib.hid (show OwnG W to.length (fun j => askI to to.length 0 j) wr from HO.out.congr fun j _ => by rw [show i = to.length by omega])
      clear HO
      go_wp2_with fail
      go_ret
      exact ⟨rfl, HG.out⟩
end Go.Proofs.YtkoofibhddkpiaaDoor

/-! solve: labels in memory; sums of labels -/
namespace Go.Proofs.YtkoofibhddkpiaaDoor
open Go.RowKit
theorem infoSum : (Tryd.prog.info? 55).map (fun i => (i.zero, i.size, i.bytes)) = some (some (.agg #[.int .u64 0, .int .u64 0]), 2, 16) := by kernel_rfl
/-- a row of labels -/
def LabRow (n₀ : Nat) (W : World) (v : Value) (l : List (Int × Int)) : Prop :=
  ((∃ a c, v = .slice a 0 c ∧ (a = none → c = 0)) ∧ l = []) ∨ ∃ b off c, v = .slice (some ⟨b, off, none⟩) l.length c ∧ b < n₀ ∧ ∀ j, j < l.length → W.cell? ⟨b, off + j * 2, none⟩ = some (.int .i64 (l[j]?.getD s0).1) ∧ W.cell? ⟨b, off + j * 2 + 1, none⟩ = some (.int .u64 (l[j]?.getD s0).2)
theorem cell_blk {w V : World} {b i : Nat} (e : V.heap[b]? = w.heap[b]?) : V.cell? ⟨b, i, none⟩ = w.cell? ⟨b, i, none⟩ := by simp only [World.cell?, e]
theorem LabRow.below {n₀ : Nat} {A B : World} (h : Below n₀ A B) {v : Value} {l : List (Int × Int)} : LabRow n₀ A v l → LabRow n₀ B v l
  | .inl e => .inl e
  | .inr ⟨b, off, c, e, hb, hc⟩ => .inr ⟨b, off, c, e, hb, fun j hj => by rw [cell_blk (h.block b hb), cell_blk (h.block b hb)]; exact hc j hj⟩
theorem LabRow.mono {n n' : Nat} (h : n ≤ n') {A : World} {v : Value} {l : List (Int × Int)} : LabRow n A v l → LabRow n' A v l
  | .inl e => .inl e
  | .inr ⟨b, off, c, e, hb, hc⟩ => .inr ⟨b, off, c, e, by omega, hc⟩
theorem LabRow.form {n₀ : Nat} {A : World} {v : Value} {l : List (Int × Int)} (h : LabRow n₀ A v l) : ∃ a c, v = .slice a l.length c := by
  rcases h with ⟨⟨a, c, e, _⟩, rfl⟩ | ⟨b, off, c, e, _⟩
  · exact ⟨a, c, e⟩
  · exact ⟨_, c, e⟩
theorem LabRow.at {n₀ : Nat} {W : World} {a : Option Addr} {n c : Nat} {l : List (Int × Int)} (h : LabRow n₀ W (.slice a n c) l) {j : Nat} (hj : j < l.length) :
    ∃ b off, a = some ⟨b, off, none⟩ ∧ b < n₀ ∧ W.cell? ⟨b, off + j * 2, none⟩ = some (.int .i64 (l[j]?.getD s0).1) ∧ W.cell? ⟨b, off + j * 2 + 1, none⟩ = some (.int .u64 (l[j]?.getD s0).2) := by
  rcases h with ⟨_, rfl⟩ | ⟨b, off, c', e, hb, hc⟩
  · simp at hj
  · cases e
    exact ⟨b, off, rfl, hb, hc j hj⟩
def sumF (xs : List Int) (p : Int × Int) : Int × Int := (xs[p.1.toNat]?.getD 0, p.2)
theorem sumC_snoc (l : List (Int × Int)) (p : Int × Int) : sumC (l ++ [p]) = sumC l ++ [.int .u64 p.1, .int .u64 p.2] := by simp [sumC]
def SumsE (xs : List Int) (l : List (Int × Int)) (W : World) (e : Ending) (V : World) : Prop := ∃ sv, e = .returned sv ∧ V.ownsRow W.heap.size 55 2 sv l.length (sumC (l.map (sumF xs))) ∧ Below W.heap.size W V
set_option maxRecDepth 100000 in
set_option maxHeartbeats 6400000 in
theorem sums_any {uv v : Value} {xs : List Int} {l : List (Int × Int)} (W : World) (hu : Nums .u64 W.heap.size W uv xs) (hv : LabRow W.heap.size W v l) (hxl : xs.length ≤ 64) (hl : l.length ≤ 1000000) (hin : ∀ j, j < l.length → 0 ≤ (l[j]?.getD s0).1 ∧ (l[j]?.getD s0).1 < xs.length) :
    Calls Tryd.prog 17 #[uv, v] W fun e V => SumsE xs l W e V := by
  obtain ⟨la, lc, rfl⟩ := hv.form
  obtain ⟨ua, uc, rfl⟩ := hu.form
  obtain ⟨i0, hi0, hy0, hy1, hy2⟩ := info_parts infoSum
  have HU := Lib.hid hu
  have HV := Lib.hid hv
  have HI := Lib.hid hin
  have HXL := Lib.hid hxl
  have b0 : (l.length : Int) ≤ 1000000 := by omega
  clear hu hv hin hxl
  go_enter Tryd.func17, Tryd.ntmps17
  go_wp2_with fail
  go_loopw [5, 10] (fun x k wr => ∃ j : Nat, j ≤ l.length ∧ k = .int .i64 (j : Int) ∧ wr.ownsRow W.heap.size 55 2 x j (sumC ((l.map (sumF xs)).take j)) ∧ Below W.heap.size W wr) (fun _ k _ => l.length - (intOf k).toNat)
  case atStart => exact ⟨0, Nat.zero_le _, rfl, World.ownsRow_nil _ _ _ _, Below.refl _ _⟩
  case round =>
    obtain ⟨j, hj, rfl, hO, hB⟩ := hrel
    have HO := Lib.hid hO
    have HB := Lib.hid hB
    clear hO hB
    by_cases hjt : j < l.length
    · obtain ⟨lb, lo, rfl, hlb, hc1, hc2⟩ := (HV.out.below HB.out).at hjt
      have i1 : (0 : Int) ≤ j ∧ (j : Int) < l.length := by omega
      have HIN := Lib.hid (HI.out j hjt)
      have hsn : (l.map (sumF xs)).take (j + 1) = (l.map (sumF xs)).take j ++ [sumF xs (l[j]?.getD s0)] := by
        have hjm : j < (l.map (sumF xs)).length := by rw [List.length_map]; exact hjt
        rw [List.take_succ_eq_append_getElem hjm, List.getElem_map, List.getElem?_eq_getElem hjt]
        rfl
      obtain ⟨⟨pl, pm⟩, ep⟩ : ∃ p, p = l[j]?.getD s0 := ⟨_, rfl⟩
      rw [← ep] at hc1 hc2 HIN hsn
      have HSN := Lib.hid hsn
      simp only at hc1 hc2
      clear ep hsn
      obtain ⟨lev, rfl⟩ : ∃ lev : Nat, pl = (lev : Int) := ⟨pl.toNat, by have := HIN.out; simp only at this; omega⟩
      have hlv : lev < xs.length := by have := HIN.out; simp only at this; omega
      have i2 : (0 : Int) ≤ lev ∧ (lev : Int) < xs.length := by omega
      obtain ⟨ub, uo, uc2, rfl, hub, huc⟩ : ∃ ub uo uc2, ua = some ⟨ub, uo, none⟩ ∧ ub < W.heap.size ∧ W.cell? ⟨ub, uo + lev, none⟩ = some (.int .u64 (xs[lev]?.getD 0)) ∧ uc2 = uc := by
        rcases HU.out with ⟨_, e⟩ | ⟨b, off, cap, e, hb, _, hc⟩
        · rw [e] at hlv; simp at hlv
        · cases e
          exact ⟨b, off, _, rfl, hb, hc lev hlv, rfl⟩
      obtain ⟨av, eav⟩ : ∃ av, av = xs[lev]?.getD 0 := ⟨_, rfl⟩
      have HSF := Lib.hid (show sumF xs ((lev : Int), pm) = (av, pm) by unfold sumF; simp only [Int.toNat_natCast]; rw [eav])
      rw [← eav] at huc
      clear eav
      have huc2 : wr.cell? ⟨ub, uo + lev, none⟩ = some (.int .u64 av) := (cell_blk (HB.out.block ub hub)).trans huc.1
      clear huc
      go_upto_region 5 with fail
      have hnw := heap_alloc_new wr (.cells #[.int .i64 lev, .int .u64 pm] 49)
      have hg0 : (wr.alloc (.cells #[.int .i64 lev, .int .u64 pm] 49)).drew.cell? ⟨wr.heap.size, 0, none⟩ = some (.int .i64 lev) := cell_of_row (wr.alloc (.cells #[.int .i64 lev, .int .u64 pm] 49)) wr.heap.size 0 _ _ _ hnw
      have hg1 : (wr.alloc (.cells #[.int .i64 lev, .int .u64 pm] 49)).drew.cell? ⟨wr.heap.size, 1, none⟩ = some (.int .u64 pm) := cell_of_row (wr.alloc (.cells #[.int .i64 lev, .int .u64 pm] 49)) wr.heap.size 1 _ _ _ hnw
      have hg2 : (wr.alloc (.cells #[.int .i64 lev, .int .u64 pm] 49)).drew.cell? ⟨ub, uo + lev, none⟩ = some (.int .u64 av) := (cell_blk (w := wr) (heap_alloc_old _ _ (Nat.lt_of_lt_of_le hub HB.out.size))).trans huc2
      have HB7 := Lib.hid (show Below W.heap.size W (wr.alloc (.cells #[.int .i64 lev, .int .u64 pm] 49)).drew from (HB.out.alloc HB.out.size _).drew)
      have HO7 := Lib.hid (show (wr.alloc (.cells #[.int .i64 lev, .int .u64 pm] 49)).drew.ownsRow W.heap.size 55 2 u5 j (sumC ((l.map (sumF xs)).take j)) from SS.own_of_block HO.out (fun k e => heap_alloc_old _ _ (HO.out.lt k e).2))
      have HZ7 := Lib.hid (show (wr.alloc (.cells #[.int .i64 lev, .int .u64 pm] 49)).drew.heap.size = wr.heap.size + 1 from by simp)
      refine wp_region_held_drew (S := (fun V => V.cell? ⟨wr.heap.size, 0, none⟩ = some (.int .i64 lev) ∧ V.cell? ⟨wr.heap.size, 1, none⟩ = some (.int .u64 pm) ∧ V.cell? ⟨ub, uo + lev, none⟩ = some (.int .u64 av))) (by kernel_rfl) ?_ (fun hHeld => ?_)
      · exact ⟨hg0, hg1, hg2⟩
      generalize (wr.alloc (.cells #[.int .i64 lev, .int .u64 pm] 49)).drew = w7 at hg0 hg1 hg2 HB7 HO7 HZ7 hHeld ⊢
      clear hg0 hg1 hg2 hnw
      refine wpAnyH_take (i := 0) (v := u5) rfl (by kernel_rfl) (by kernel_rfl) (by kernel_rfl) (fun _ _ _ h => h) (Or.inl ⟨by rfl, fun W hSW => ?_⟩) hHeld ?_
      · ((try dsimp only at hSW); go_split_ands; go_simp <;> with_reducible rfl)
      try simp only [List.getElem_toArray, List.getElem_cons_succ, List.getElem_cons_zero, Act.put, List.setIfInBounds_toArray, List.set_cons_zero, List.set_cons_succ]
      refine wpAnyH_take (i := 1) (v := .slice (some ⟨ub, uo, none⟩) xs.length uc) rfl (by kernel_rfl) (by kernel_rfl) (by kernel_rfl) (fun _ _ _ h => h) (Or.inl ⟨by rfl, fun W hSW => ?_⟩) hHeld ?_
      · ((try dsimp only at hSW); go_split_ands; go_simp <;> with_reducible rfl)
      try simp only [List.getElem_toArray, List.getElem_cons_succ, List.getElem_cons_zero, Act.put, List.setIfInBounds_toArray, List.set_cons_zero, List.set_cons_succ]
      refine wpAnyH_take (i := 2) (v := .pointer (some ⟨wr.heap.size, 0, none⟩)) rfl (by kernel_rfl) (by kernel_rfl) (by kernel_rfl) (fun _ _ _ h => h) (Or.inl ⟨by rfl, fun W hSW => ?_⟩) hHeld ?_
      · ((try dsimp only at hSW); go_split_ands; go_simp <;> with_reducible rfl)
      try simp only [List.getElem_toArray, List.getElem_cons_succ, List.getElem_cons_zero, Act.put, List.setIfInBounds_toArray, List.set_cons_zero, List.set_cons_succ]
      refine wpAnyH_take (i := 3) (v := .int .i64 lev) rfl (by kernel_rfl) (by kernel_rfl) (by kernel_rfl) (fun _ _ _ h => h) (Or.inl ⟨by rfl, fun W hSW => ?_⟩) hHeld ?_
      · ((try dsimp only at hSW); go_split_ands; go_simp <;> with_reducible rfl)
      try simp only [List.getElem_toArray, List.getElem_cons_succ, List.getElem_cons_zero, Act.put, List.setIfInBounds_toArray, List.set_cons_zero, List.set_cons_succ]
      refine wpAnyH_take (i := 4) (v := .pointer (some ⟨ub, uo + lev, none⟩)) rfl (by kernel_rfl) (by kernel_rfl) (by kernel_rfl) (fun _ _ _ h => h) (Or.inl ⟨by rfl, fun W hSW => ?_⟩) hHeld ?_
      · ((try dsimp only at hSW); go_split_ands; go_simp <;> with_reducible rfl)
      try simp only [List.getElem_toArray, List.getElem_cons_succ, List.getElem_cons_zero, Act.put, List.setIfInBounds_toArray, List.set_cons_zero, List.set_cons_succ]
      refine wpAnyH_take (i := 5) (v := .int .u64 av) rfl (by kernel_rfl) (by kernel_rfl) (by kernel_rfl) (fun _ _ _ h => h) (Or.inl ⟨by rfl, fun W hSW => ?_⟩) hHeld ?_
      · ((try dsimp only at hSW); go_split_ands; go_simp <;> with_reducible rfl)
      try simp only [List.getElem_toArray, List.getElem_cons_succ, List.getElem_cons_zero, Act.put, List.setIfInBounds_toArray, List.set_cons_zero, List.set_cons_succ]
      refine wpAnyH_take (i := 6) (v := .pointer (some ⟨wr.heap.size, 1, none⟩)) rfl (by kernel_rfl) (by kernel_rfl) (by kernel_rfl) (fun _ _ _ h => h) (Or.inl ⟨by rfl, fun W hSW => ?_⟩) hHeld ?_
      · ((try dsimp only at hSW); go_split_ands; go_simp <;> with_reducible rfl)
      try simp only [List.getElem_toArray, List.getElem_cons_succ, List.getElem_cons_zero, Act.put, List.setIfInBounds_toArray, List.set_cons_zero, List.set_cons_succ]
      refine wpAnyH_take (i := 7) (v := .int .u64 pm) rfl (by kernel_rfl) (by kernel_rfl) (by kernel_rfl) (fun _ _ _ h => h) (Or.inl ⟨by rfl, fun W hSW => ?_⟩) hHeld ?_
      · ((try dsimp only at hSW); go_split_ands; go_simp <;> with_reducible rfl)
      try simp only [List.getElem_toArray, List.getElem_cons_succ, List.getElem_cons_zero, Act.put, List.setIfInBounds_toArray, List.set_cons_zero, List.set_cons_succ]
      refine wpAnyH_take (i := 8) (v := .agg #[.int .u64 av, .int .u64 pm]) rfl (by kernel_rfl) (by kernel_rfl) (by kernel_rfl) (fun _ _ _ h => h) (Or.inl ⟨by rfl, fun W hSW => ?_⟩) hHeld ?_
      · ((try dsimp only at hSW); go_split_ands; go_simp <;> with_reducible rfl)
      try simp only [List.getElem_toArray, List.getElem_cons_succ, List.getElem_cons_zero, Act.put, List.setIfInBounds_toArray, List.set_cons_zero, List.set_cons_succ]
      refine wpAnyH_ready (rs := [9]) (by kernel_rfl) (by simp) ?_
      refine AllReadyH.cons rfl (fun K hK => ?_) AllReadyH.nil
      try simp only [List.getElem_toArray, List.getElem_cons_succ, List.getElem_cons_zero]
      go_simp
      try go_wp2_with fail
      refine hK.out _ _ ?_ (fun hHeld => ?_)
      · exact ⟨(cell_blk (heap_alloc_old _ _ (by rw [HZ7.out]; omega))).trans hHeld.1, (cell_blk (heap_alloc_old _ _ (by rw [HZ7.out]; omega))).trans hHeld.2.1, (cell_blk (heap_alloc_old _ _ (Nat.lt_of_lt_of_le hub HB7.out.size))).trans hHeld.2.2⟩
      clear hK K
      try simp only [List.getElem_toArray, List.getElem_cons_succ, List.getElem_cons_zero, Act.put, List.setIfInBounds_toArray, List.set_cons_zero, List.set_cons_succ]
      refine wpAnyH_ready (rs := [10]) (by kernel_rfl) (by simp) ?_
      refine AllReadyH.cons rfl (fun K hK => ?_) AllReadyH.nil
      refine step_append_lies _ rfl (.tmp 14) (.tmp 23) 39 rfl W.heap.size 55 i0 (.agg #[.int .u64 0, .int .u64 0]) 2 16 Tryd.underlying39 hi0 hy0 hy1 hy2 rfl (by decide) u5 j (sumC ((l.map (sumF xs)).take j)) (by rfl) (HO7.out.alloc _) ⟨w7.heap.size, 0, none⟩ 1 1 [.int .u64 av, .int .u64 pm] (by rfl) rfl (World.news_of_block (cs := #[.int .u64 av, .int .u64 pm]) (t := 55) (fr := (0, 0)) (SS.new_at rfl)) (by intro u hu; simp only [List.mem_cons, List.mem_nil_iff, or_false] at hu; rcases hu with rfl | rfl <;> rfl) (by decide) (by unfold maxLen; omega) (by omega) (by have := HB7.out.size; simp; omega) (w7.heap.size + 1) (by simp) ?_
      intro g2 cap2 w3 hown hg hat hlt2
      have HN := Lib.hid (show w3.ownsRow W.heap.size 55 2 (.slice (some ⟨g2, 0, none⟩) (j + 1) cap2) (j + 1) (sumC ((l.map (sumF xs)).take (j + 1))) from by rw [HSN.out, HSF.out, sumC_snoc]; exact hown)
      have HBN := Lib.hid (show Below W.heap.size W w3 from (HB7.out.alloc HB7.out.size _).grown hg (by have := HB7.out.size; simp; omega) (fun k e => (HO7.out.lt k e).1))
      have HKK := Lib.hid (show ∀ b, b < w7.heap.size → (b = wr.heap.size ∨ b = ub) → w3.heap[b]? = (w7.alloc (.cells #[.int .u64 av, .int .u64 pm] 55)).heap[b]? from fun b hb hc => hg.block b (by simp; omega) (fun e => by have h1 := HO.out.lt b e.symm; rcases hc with h2 | h2 <;> omega))
      clear hown hg hat hlt2
      refine hK.out _ _ ?_ (fun hHeld => ?_)
      · exact ⟨(cell_blk (HKK.out _ (by rw [HZ7.out]; omega) (.inl rfl))).trans hHeld.1, (cell_blk (HKK.out _ (by rw [HZ7.out]; omega) (.inl rfl))).trans hHeld.2.1, (cell_blk (HKK.out _ (Nat.lt_of_lt_of_le hub HB7.out.size) (.inr rfl))).trans hHeld.2.2⟩
      clear hK K
      try simp only [List.getElem_toArray, List.getElem_cons_succ, List.getElem_cons_zero, Act.put, List.setIfInBounds_toArray, List.set_cons_zero, List.set_cons_succ]
      refine wpAnyH_take (i := 11) (v := .slice (some ⟨g2, 0, none⟩) (j + 1) cap2) rfl (by kernel_rfl) (by kernel_rfl) (by kernel_rfl) (fun _ _ _ h => h) (Or.inl ⟨by rfl, fun W hSW => ?_⟩) hHeld ?_
      · ((try dsimp only at hSW); go_split_ands; go_simp <;> with_reducible rfl)
      try simp only [List.getElem_toArray, List.getElem_cons_succ, List.getElem_cons_zero, Act.put, List.setIfInBounds_toArray, List.set_cons_zero, List.set_cons_succ]
      refine wpAnyH_done (by kernel_rfl) ?_ _
      clear hHeld huc2 hc1 hc2
      go_wp2_with fail
      go_roundw
      case rel => exact ⟨j + 1, by omega, by go_num, HN.out, HBN.out⟩
      case measure => simp [intOf]; omega
    · have HF := Lib.hid (show wr.ownsRow W.heap.size 55 2 _ l.length (sumC (l.map (sumF xs))) from by
        have e1 : j = l.length := by omega
        have h1 := HO.out
        rw [e1, List.take_of_length_le (by simp)] at h1
        exact h1)
      have hjz : ¬ ((j : Int) < l.length) := by omega
      go_wp2_with fail
      go_ret
      exact ⟨_, rfl, HF.out, HB.out⟩
end Go.Proofs.YtkoofibhddkpiaaDoor

/-! solve: a level told by what stands above it -/
namespace Go.Proofs.YtkoofibhddkpiaaDoor
open Go.RowKit
set_option maxRecDepth 100000 in
set_option maxHeartbeats 1600000 in
theorem sidx_any {uv : Value} {xs : List Int} {n : Nat} (W : World) (hu : Nums .u64 n W uv xs) (hxl : xs.length ≤ 64) (lev : Nat) (hlv : lev < xs.length) (h1 : ∀ k, k < xs.length → xs[k]?.getD 0 = xs[lev]?.getD 0 → k = lev) :
    Calls Tryd.prog 23 #[uv, .int .u64 (xs[lev]?.getD 0)] W fun e V => e = .returned (.int .i64 (lev : Int)) ∧ V = W := by
  obtain ⟨ub, uo, uc, rfl, hub, huc⟩ : ∃ ub uo uc, uv = .slice (some ⟨ub, uo, none⟩) xs.length uc ∧ ub < n ∧ ∀ j, j < xs.length → W.cell? ⟨ub, uo + j, none⟩ = some (.int .u64 (xs[j]?.getD 0)) := by
    rcases hu with ⟨_, e⟩ | ⟨b, off, cap, e, hb, _, hc⟩
    · rw [e] at hlv; simp at hlv
    · exact ⟨b, off, cap, e, hb, hc⟩
  have HC := Lib.hid huc
  have H1 := Lib.hid h1
  have b0 : (xs.length : Int) ≤ 64 := by omega
  obtain ⟨a, ea⟩ : ∃ a, a = xs[lev]?.getD 0 := ⟨_, rfl⟩
  have HA := Lib.hid ea
  rw [← ea]
  clear hu huc h1 ea
  go_enter Tryd.func23, Tryd.ntmps23
  go_wp2_with fail
  go_loopw [8] (fun k wr => ∃ j : Nat, j ≤ lev ∧ k = .int .i64 (j : Int) ∧ wr = W) (fun k _ => xs.length - (intOf k).toNat)
  case atStart => exact ⟨0, Nat.zero_le _, rfl, rfl⟩
  case round =>
    obtain ⟨j, hj, rfl, rfl⟩ := hrel
    have hjn : j < xs.length := by omega
    have i1 : (0 : Int) ≤ j ∧ (j : Int) < xs.length := by omega
    have hc := HC.out j hjn
    by_cases he : j = lev
    · subst he
      rw [← HA.out] at hc
      go_wp2_with fail
      go_ret
      exact ⟨rfl, rfl⟩
    · have hne : ¬ a = xs[j]?.getD 0 := fun e => he (H1.out j hjn (by rw [← HA.out]; exact e.symm))
      obtain ⟨b, eb⟩ : ∃ b, b = xs[j]?.getD 0 := ⟨_, rfl⟩
      rw [← eb] at hc hne
      clear eb
      go_wp2_with fail
      go_roundw
      case rel => exact ⟨j + 1, by omega, by go_num, trivial⟩
      case measure => simp [intOf]; omega
end Go.Proofs.YtkoofibhddkpiaaDoor

/-! solve: labels of sums -/
namespace Go.Proofs.YtkoofibhddkpiaaDoor
open Go.RowKit
open SV (Lab sumOf at')
theorem infoLab : (Tryd.prog.info? 49).map (fun i => (i.zero, i.size, i.bytes)) = some (some (.agg #[.int .i64 0, .int .u64 0]), 2, 16) := by kernel_rfl
/-- the cells of a row of labels -/
def labC (s : List Lab) : List Value := s.flatMap fun a => [.int .i64 (a.1 : Int), .int .u64 a.2]
theorem labC_snoc (s : List Lab) (a : Lab) : labC (s ++ [a]) = labC s ++ [.int .i64 (a.1 : Int), .int .u64 a.2] := by simp [labC]
def LabsE (s : List Lab) (W : World) (e : Ending) (V : World) : Prop := ∃ lv, e = .returned lv ∧ V.ownsRow W.heap.size 49 2 lv s.length (labC s) ∧ Below W.heap.size W V
set_option maxRecDepth 100000 in
set_option maxHeartbeats 6400000 in
theorem labels_any {uv v : Value} {xs : List Int} {s : List Lab} (W : World) (hr : LL.rightB xs = true) (hu : Nums .u64 W.heap.size W uv xs) (hv : W.ownsRow 0 55 2 v s.length (sumC (s.map (sumOf xs)))) (hxl : xs.length ≤ 64) (hl : s.length ≤ 1000000) (hin : ∀ j, j < s.length → (at' s j).1 < xs.length) :
    Calls Tryd.prog 14 #[uv, v] W fun e V => LabsE s W e V := by
  obtain ⟨la, lc, rfl⟩ := SS.ownOf hv
  obtain ⟨ua, uc, rfl⟩ := hu.form
  obtain ⟨i0, hi0, hy0, hy1, hy2⟩ := info_parts infoLab
  have HU := Lib.hid hu
  have HV := Lib.hid hv
  have HI := Lib.hid hin
  have HXL := Lib.hid hxl
  have HR := Lib.hid hr
  have b0 : (s.length : Int) ≤ 1000000 := by omega
  clear hu hv hin hxl hr
  go_enter Tryd.func14, Tryd.ntmps14
  go_wp2_with fail
  go_loopw [5, 10] (fun x k wr => ∃ j : Nat, j ≤ s.length ∧ k = .int .i64 (j : Int) ∧ wr.ownsRow W.heap.size 49 2 x j (labC (s.take j)) ∧ Below W.heap.size W wr) (fun _ k _ => s.length - (intOf k).toNat)
  case atStart => exact ⟨0, Nat.zero_le _, rfl, World.ownsRow_nil _ _ _ _, Below.refl _ _⟩
  case round =>
    obtain ⟨j, hj, rfl, hO, hB⟩ := hrel
    have HO := Lib.hid hO
    have HB := Lib.hid hB
    clear hO hB
    by_cases hjt : j < s.length
    · obtain ⟨lb, lc2, e1⟩ := SS.own_some HV.out (by omega)
      cases e1
      have hcell := sumC_at (l := s.map (sumOf xs)) (i := j) (by rw [List.length_map]; exact hjt)
      rw [SV.map_at hjt] at hcell
      have hOW := SS.own_of_block HV.out (fun k e => HB.out.block k (HV.out.lt k e).2)
      have hc1 := own_cellZ hOW hcell.1
      have hc2 := own_cellZ hOW hcell.2
      have i1 : (0 : Int) ≤ j ∧ (j : Int) < s.length := by omega
      have hlv := HI.out j hjt
      have HSN := Lib.hid (show s.take (j + 1) = s.take j ++ [at' s j] from by
        rw [List.take_succ_eq_append_getElem hjt]
        unfold at'
        rw [List.getElem?_eq_getElem hjt]
        rfl)
      obtain ⟨⟨lev, pm⟩, ep⟩ : ∃ p, p = at' s j := ⟨_, rfl⟩
      rw [← ep] at hc1 hc2 hlv HSN
      simp only [sumOf] at hc1 hc2 hlv
      clear ep hcell hOW
      have HLV := Lib.hid hlv
      have HSI := Lib.hid (fun (V : World) (hb : Below W.heap.size W V) => sidx_any (n := W.heap.size) V (HU.out.below hb) HXL.out lev hlv (fun k hk e => SV.above_one HR.out hk hlv e))
      obtain ⟨av, eav⟩ : ∃ av, av = xs[lev]?.getD 0 := ⟨_, rfl⟩
      rw [← eav] at hc1 HSI
      clear eav
      go_upto_region 5 with fail
      have hnw := heap_alloc_new wr (.cells #[.int .u64 av, .int .u64 pm] 55)
      have hg0 : (wr.alloc (.cells #[.int .u64 av, .int .u64 pm] 55)).drew.cell? ⟨wr.heap.size, 0, none⟩ = some (.int .u64 av) := cell_of_row (wr.alloc (.cells #[.int .u64 av, .int .u64 pm] 55)) wr.heap.size 0 _ _ _ hnw
      have hg1 : (wr.alloc (.cells #[.int .u64 av, .int .u64 pm] 55)).drew.cell? ⟨wr.heap.size, 1, none⟩ = some (.int .u64 pm) := cell_of_row (wr.alloc (.cells #[.int .u64 av, .int .u64 pm] 55)) wr.heap.size 1 _ _ _ hnw
      have HB7 := Lib.hid (show Below W.heap.size W (wr.alloc (.cells #[.int .u64 av, .int .u64 pm] 55)).drew from (HB.out.alloc HB.out.size _).drew)
      have HO7 := Lib.hid (show (wr.alloc (.cells #[.int .u64 av, .int .u64 pm] 55)).drew.ownsRow W.heap.size 49 2 u5 j (labC (s.take j)) from SS.own_of_block HO.out (fun k e => heap_alloc_old _ _ (HO.out.lt k e).2))
      have HZ7 := Lib.hid (show (wr.alloc (.cells #[.int .u64 av, .int .u64 pm] 55)).drew.heap.size = wr.heap.size + 1 from by simp)
      refine wp_region_held_drew (S := (fun V => Below W.heap.size W V ∧ V.cell? ⟨wr.heap.size, 0, none⟩ = some (.int .u64 av) ∧ V.cell? ⟨wr.heap.size, 1, none⟩ = some (.int .u64 pm))) (by kernel_rfl) ?_ (fun hHeld => ?_)
      · exact ⟨HB7.out, hg0, hg1⟩
      generalize (wr.alloc (.cells #[.int .u64 av, .int .u64 pm] 55)).drew = w7 at hg0 hg1 HB7 HO7 HZ7 hHeld ⊢
      clear hg0 hg1 hnw
      refine wpAnyH_take (i := 0) (v := u5) rfl (by kernel_rfl) (by kernel_rfl) (by kernel_rfl) (fun _ _ _ h => h) (Or.inl ⟨by rfl, fun W hSW => ?_⟩) hHeld ?_
      · ((try dsimp only at hSW); go_split_ands; go_simp <;> with_reducible rfl)
      try simp only [List.getElem_toArray, List.getElem_cons_succ, List.getElem_cons_zero, Act.put, List.setIfInBounds_toArray, List.set_cons_zero, List.set_cons_succ]
      refine wpAnyH_take (i := 1) (v := .slice ua xs.length uc) rfl (by kernel_rfl) (by kernel_rfl) (by kernel_rfl) (fun _ _ _ h => h) (Or.inl ⟨by rfl, fun W hSW => ?_⟩) hHeld ?_
      · ((try dsimp only at hSW); go_split_ands; go_simp <;> with_reducible rfl)
      try simp only [List.getElem_toArray, List.getElem_cons_succ, List.getElem_cons_zero, Act.put, List.setIfInBounds_toArray, List.set_cons_zero, List.set_cons_succ]
      refine wpAnyH_take (i := 2) (v := .pointer (some ⟨wr.heap.size, 0, none⟩)) rfl (by kernel_rfl) (by kernel_rfl) (by kernel_rfl) (fun _ _ _ h => h) (Or.inl ⟨by rfl, fun W hSW => ?_⟩) hHeld ?_
      · ((try dsimp only at hSW); go_split_ands; go_simp <;> with_reducible rfl)
      try simp only [List.getElem_toArray, List.getElem_cons_succ, List.getElem_cons_zero, Act.put, List.setIfInBounds_toArray, List.set_cons_zero, List.set_cons_succ]
      refine wpAnyH_take (i := 3) (v := .int .u64 av) rfl (by kernel_rfl) (by kernel_rfl) (by kernel_rfl) (fun _ _ _ h => h) (Or.inl ⟨by rfl, fun W hSW => ?_⟩) hHeld ?_
      · ((try dsimp only at hSW); go_split_ands; go_simp <;> with_reducible rfl)
      try simp only [List.getElem_toArray, List.getElem_cons_succ, List.getElem_cons_zero, Act.put, List.setIfInBounds_toArray, List.set_cons_zero, List.set_cons_succ]
      refine wpAnyH_take (i := 5) (v := .pointer (some ⟨wr.heap.size, 1, none⟩)) rfl (by kernel_rfl) (by kernel_rfl) (by kernel_rfl) (fun _ _ _ h => h) (Or.inl ⟨by rfl, fun W hSW => ?_⟩) hHeld ?_
      · ((try dsimp only at hSW); go_split_ands; go_simp <;> with_reducible rfl)
      try simp only [List.getElem_toArray, List.getElem_cons_succ, List.getElem_cons_zero, Act.put, List.setIfInBounds_toArray, List.set_cons_zero, List.set_cons_succ]
      refine wpAnyH_take (i := 6) (v := .int .u64 pm) rfl (by kernel_rfl) (by kernel_rfl) (by kernel_rfl) (fun _ _ _ h => h) (Or.inl ⟨by rfl, fun W hSW => ?_⟩) hHeld ?_
      · ((try dsimp only at hSW); go_split_ands; go_simp <;> with_reducible rfl)
      try simp only [List.getElem_toArray, List.getElem_cons_succ, List.getElem_cons_zero, Act.put, List.setIfInBounds_toArray, List.set_cons_zero, List.set_cons_succ]
      refine wpAnyH_ready (rs := [4]) (by kernel_rfl) (by simp) ?_
      refine AllReadyH.cons rfl (fun K hK => ?_) AllReadyH.nil
      try simp only [List.getElem_toArray, List.getElem_cons_succ, List.getElem_cons_zero]
      go_simp
      (go_at_call 23; refine (HSI.out _ HB7.out).mono ?_; rintro e w8 ⟨rfl, e8⟩; rewrite [e8]; clear e8)
      try go_wp2_with fail
      refine hK.out _ _ ?_ (fun hHeld => ?_)
      · exact hHeld
      clear hK K
      try simp only [List.getElem_toArray, List.getElem_cons_succ, List.getElem_cons_zero, Act.put, List.setIfInBounds_toArray, List.set_cons_zero, List.set_cons_succ]
      refine wpAnyH_take (i := 7) (v := .agg #[.int .i64 lev, .int .u64 pm]) rfl (by kernel_rfl) (by kernel_rfl) (by kernel_rfl) (fun _ _ _ h => h) (Or.inl ⟨by rfl, fun W hSW => ?_⟩) hHeld ?_
      · ((try dsimp only at hSW); go_split_ands; go_simp <;> with_reducible rfl)
      try simp only [List.getElem_toArray, List.getElem_cons_succ, List.getElem_cons_zero, Act.put, List.setIfInBounds_toArray, List.set_cons_zero, List.set_cons_succ]
      refine wpAnyH_ready (rs := [8]) (by kernel_rfl) (by simp) ?_
      refine AllReadyH.cons rfl (fun K hK => ?_) AllReadyH.nil
      try simp only [List.getElem_toArray, List.getElem_cons_succ, List.getElem_cons_zero]
      go_simp
      try go_wp2_with fail
      refine hK.out _ _ ?_ (fun hHeld => ?_)
      · exact ⟨HB7.out.alloc HB7.out.size _, (cell_blk (heap_alloc_old _ _ (by rw [HZ7.out]; omega))).trans hHeld.2.1, (cell_blk (heap_alloc_old _ _ (by rw [HZ7.out]; omega))).trans hHeld.2.2⟩
      clear hK K
      try simp only [List.getElem_toArray, List.getElem_cons_succ, List.getElem_cons_zero, Act.put, List.setIfInBounds_toArray, List.set_cons_zero, List.set_cons_succ]
      refine wpAnyH_ready (rs := [9]) (by kernel_rfl) (by simp) ?_
      refine AllReadyH.cons rfl (fun K hK => ?_) AllReadyH.nil
      refine step_append_lies _ rfl (.tmp 14) (.tmp 22) 23 rfl W.heap.size 49 i0 (.agg #[.int .i64 0, .int .u64 0]) 2 16 Tryd.underlying23 hi0 hy0 hy1 hy2 rfl (by decide) u5 j (labC (s.take j)) (by rfl) (HO7.out.alloc _) ⟨w7.heap.size, 0, none⟩ 1 1 [.int .i64 lev, .int .u64 pm] (by rfl) rfl (World.news_of_block (cs := #[.int .i64 lev, .int .u64 pm]) (t := 49) (fr := (0, 0)) (SS.new_at rfl)) (by intro u hu; simp only [List.mem_cons, List.mem_nil_iff, or_false] at hu; rcases hu with rfl | rfl <;> rfl) (by decide) (by unfold maxLen; omega) (by omega) (by have := HB7.out.size; simp; omega) (w7.heap.size + 1) (by simp) ?_
      intro g2 cap2 w3 hown hg hat hlt2
      have HN := Lib.hid (show w3.ownsRow W.heap.size 49 2 (.slice (some ⟨g2, 0, none⟩) (j + 1) cap2) (j + 1) (labC (s.take (j + 1))) from by rw [HSN.out, labC_snoc]; exact hown)
      have HBN := Lib.hid (show Below W.heap.size W w3 from (HB7.out.alloc HB7.out.size _).grown hg (by have := HB7.out.size; simp; omega) (fun k e => (HO7.out.lt k e).1))
      have HKK := Lib.hid (show w3.heap[wr.heap.size]? = (w7.alloc (.cells #[.int .i64 lev, .int .u64 pm] 49)).heap[wr.heap.size]? from hg.block _ (by simp; rw [HZ7.out]; omega) (fun e => by have h1 := HO.out.lt _ e.symm; omega))
      clear hown hg hat hlt2
      refine hK.out _ _ ?_ (fun hHeld => ?_)
      · exact ⟨HBN.out, (cell_blk HKK.out).trans hHeld.2.1, (cell_blk HKK.out).trans hHeld.2.2⟩
      clear hK K
      try simp only [List.getElem_toArray, List.getElem_cons_succ, List.getElem_cons_zero, Act.put, List.setIfInBounds_toArray, List.set_cons_zero, List.set_cons_succ]
      refine wpAnyH_take (i := 10) (v := .slice (some ⟨g2, 0, none⟩) (j + 1) cap2) rfl (by kernel_rfl) (by kernel_rfl) (by kernel_rfl) (fun _ _ _ h => h) (Or.inl ⟨by rfl, fun W hSW => ?_⟩) hHeld ?_
      · ((try dsimp only at hSW); go_split_ands; go_simp <;> with_reducible rfl)
      try simp only [List.getElem_toArray, List.getElem_cons_succ, List.getElem_cons_zero, Act.put, List.setIfInBounds_toArray, List.set_cons_zero, List.set_cons_succ]
      refine wpAnyH_done (by kernel_rfl) ?_ _
      clear hHeld hc1 hc2
      go_wp2_with fail
      go_roundw
      case rel => exact ⟨j + 1, by omega, by go_num, HN.out, HBN.out⟩
      case measure => simp [intOf]; omega
    · have HF := Lib.hid (show wr.ownsRow W.heap.size 49 2 _ s.length (labC s) from by
        have e1 : j = s.length := by omega
        have h1 := HO.out
        rw [e1, List.take_length] at h1
        exact h1)
      have hjz : ¬ ((j : Int) < s.length) := by omega
      go_wp2_with fail
      go_ret
      exact ⟨_, rfl, HF.out, HB.out⟩
end Go.Proofs.YtkoofibhddkpiaaDoor
