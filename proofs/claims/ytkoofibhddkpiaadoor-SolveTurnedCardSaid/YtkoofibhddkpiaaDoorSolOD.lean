import Derived.Test.YtkoofibhddkpiaaDoorSolAS
import Derived.Laws.EntriesVeiled
set_option linter.unusedSimpArgs false
set_option linter.unusedVariables false
/-! solve: the order in which values are looked at (plain part as graph's, in a namespace of its own) -/
namespace Go.Proofs.YtkoofibhddkpiaaDoor.SV
open Go.RowKit
open GG
abbrev WSt := GG.St
theorem dfs_mono (adj : Nat → List Nat) (f : Nat) : ∀ (i : Nat) (s : WSt) (x : Nat), s.1 x = true → (dfs adj f i s).1 x = true := by
  induction f with
  | zero => intro i s x h; exact h
  | succ f ih =>
    intro i s x h
    unfold dfs
    split
    · exact h
    · have key : ∀ (l : List Nat) (s : WSt), s.1 x = true → (l.foldl (fun s j => dfs adj f j s) s).1 x = true := by
        intro l
        induction l with
        | nil => intro s h; exact h
        | cons j l ihl => intro s h; exact ihl _ (ih j s x h)
      exact key _ _ ((setB_of _ _ _).2 (.inr h))
theorem fold_mono (adj : Nat → List Nat) (f : Nat) (l : List Nat) (s : WSt) (x : Nat) (h : s.1 x = true) : (l.foldl (fun s j => dfs adj f j s) s).1 x = true := by
  induction l generalizing s with
  | nil => exact h
  | cons j l ihl => exact ihl _ (dfs_mono adj f j s x h)
theorem dfs_len {adj : Nat → List Nat} {n : Nat} (ha : ∀ x, ∀ j ∈ adj x, j < n) (f : Nat) : ∀ (i : Nat) (s : WSt) (c : Nat), i < n → s.2.length + unv n s.1 + c ≤ n → (dfs adj f i s).2.length + unv n (dfs adj f i s).1 + c ≤ n := by
  induction f with
  | zero => intro i s c _ h; exact h
  | succ f ih =>
    intro i s c hi h
    unfold dfs
    by_cases hB : s.1 i = true
    · rw [if_pos hB]; exact h
    · rw [if_neg hB]
      have hB' : s.1 i = false := by simpa using hB
      have key : ∀ (l : List Nat) (s : WSt), (∀ j ∈ l, j < n) → s.2.length + unv n s.1 + (c + 1) ≤ n → (l.foldl (fun s j => dfs adj f j s) s).2.length + unv n (l.foldl (fun s j => dfs adj f j s) s).1 + (c + 1) ≤ n := by
        intro l
        induction l with
        | nil => intro s _ h; exact h
        | cons j l ihl => intro s hl h; exact ihl _ (fun k hk => hl k (by simp [hk])) (ih j s (c + 1) (hl j (by simp)) h)
      have := unv_set n hi hB'
      have := key (adj i) (setB s.1 i, s.2) (ha i) (by show s.2.length + unv n (setB s.1 i) + (c + 1) ≤ n; omega)
      generalize (adj i).foldl (fun s j => dfs adj f j s) (setB s.1 i, s.2) = t at this
      show (t.2 ++ [i]).length + unv n t.1 + c ≤ n
      simp only [List.length_append, List.length_cons, List.length_nil]
      omega
theorem fold_len {adj : Nat → List Nat} {n : Nat} (ha : ∀ x, ∀ j ∈ adj x, j < n) (f : Nat) (l : List Nat) (s : WSt) (c : Nat) (hl : ∀ j ∈ l, j < n) (h : s.2.length + unv n s.1 + c ≤ n) : (l.foldl (fun s j => dfs adj f j s) s).2.length + unv n (l.foldl (fun s j => dfs adj f j s) s).1 + c ≤ n := by
  induction l generalizing s with
  | nil => exact h
  | cons j l ihl => exact ihl _ (fun k hk => hl k (by simp [hk])) (dfs_len ha f j s c (hl j (by simp)) h)
/-- the walk from the first k ways of a node, that is marked -/
def part (adj : Nat → List Nat) (f i k : Nat) (s : WSt) : WSt := ((adj i).take k).foldl (fun s j => dfs adj f j s) (setB s.1 i, s.2)
theorem part_zero (adj : Nat → List Nat) (f i : Nat) (s : WSt) : part adj f i 0 s = (setB s.1 i, s.2) := by simp [part]
theorem part_succ (adj : Nat → List Nat) (f i k : Nat) (s : WSt) {j : Nat} (h : (adj i)[k]? = some j) : part adj f i (k + 1) s = dfs adj f j (part adj f i k s) := by
  obtain ⟨hk, e⟩ := List.getElem?_eq_some_iff.1 h
  unfold part
  rw [List.take_succ_eq_append_getElem hk, List.foldl_append, e]
  rfl
theorem part_all (adj : Nat → List Nat) (f i k : Nat) (s : WSt) (hs : s.1 i = false) (hk : (adj i).length ≤ k) : dfs adj (f + 1) i s = ((part adj f i k s).1, (part adj f i k s).2 ++ [i]) := by
  unfold dfs part
  rw [if_neg (by rw [hs]; simp), List.take_of_length_le hk]
theorem part_unv {adj : Nat → List Nat} {n : Nat} (f i k : Nat) (s : WSt) (hi : i < n) (hs : s.1 i = false) (hu : unv n s.1 < f + 1) : unv n (part adj f i k s).1 < f := by
  have h1 := unv_set n hi hs
  have h2 := unv_mono n (B := setB s.1 i) (C := (part adj f i k s).1) (fun x h => fold_mono adj f _ _ x h)
  omega
theorem part_len {adj : Nat → List Nat} {n : Nat} (ha : ∀ x, ∀ j ∈ adj x, j < n) (f i k : Nat) (s : WSt) (hi : i < n) (hs : s.1 i = false) (h : s.2.length + unv n s.1 ≤ n) : (part adj f i k s).2.length + unv n (part adj f i k s).1 + 1 ≤ n := by
  have h1 := unv_set n hi hs
  exact fold_len ha f _ _ 1 (fun j hj => ha i j (List.mem_of_mem_take hj)) (by show s.2.length + unv n (setB s.1 i) + 1 ≤ n; omega)
theorem adj_get {to : List (List Int)} {i k : Nat} (hk : k < (to[i]?.getD []).length) : (adjOf to i)[k]? = some ((to[i]?.getD [])[k]?.getD 0).toNat := by
  unfold adjOf
  rw [List.getElem?_map, List.getElem?_eq_getElem hk]
  rfl
theorem adj_len (to : List (List Int)) (i : Nat) : (adjOf to i).length = (to[i]?.getD []).length := by simp [adjOf]

end Go.Proofs.YtkoofibhddkpiaaDoor.SV
namespace Go.Proofs.YtkoofibhddkpiaaDoor
open Go.RowKit
theorem blk_set_off (W : World) (a : Addr) (k : Nat) (v : Value) (h : k ≠ a.block) : (W.setCell a v).heap[k]? = W.heap[k]? := heap_setCell_other W a k v h
/-- what the closure sees -/
structure OSt (N n : Nat) (W0 : World) (v : Value) (s : GG.St) (W : World) : Prop where
  toC : W.heap[N]? = some (.cells #[v] 24 (0, 0))
  beh : ∃ bv, W.heap[N + 1]? = some (.cells #[bv] 29 (0, 0)) ∧ W.ownsRow (N + 5) 3 1 bv s.2.length (intsV (s.2.map Int.ofNat))
  been : W.rowIs (N + 2) 4 n (fun i => .bool (s.1 i))
  bvar : W.heap[N + 3]? = some (.cells #[.slice (some ⟨N + 2, 0, none⟩) n n] 65 (0, 0))
  vis : W.heap[N + 4]? = some (.cells #[.func (.func 28) #[] #[.pointer (some ⟨N + 3, 0, none⟩), .pointer (some ⟨N, 0, none⟩), .pointer (some ⟨N + 4, 0, none⟩), .pointer (some ⟨N + 1, 0, none⟩)]] 44 (0, 0))
  below : Below W0.heap.size W0 W
  size : N + 5 ≤ W.heap.size
theorem OSt.mark {N n : Nat} {W0 W : World} {v : Value} {s : GG.St} (h : OSt N n W0 v s W) (hN : W0.heap.size ≤ N) (i : Nat) : OSt N n W0 v (GG.setB s.1 i, s.2) (W.setCell ⟨N + 2, i, none⟩ (.bool true)) := by
  obtain ⟨bv, hb, ho⟩ := h.beh
  refine ⟨?_, ⟨bv, ?_, ?_⟩, ?_, ?_, ?_, h.below.setCell (by simp; omega) _, by simpa using h.size⟩
  · rw [blk_set_off _ _ _ _ (by simp)]; exact h.toC
  · rw [blk_set_off _ _ _ _ (by simp)]; exact hb
  · exact SS.own_of_block ho (fun k e => blk_set_off _ _ _ _ (by have := (ho.lt k e).1; simp; omega))
  · refine (World.rowIs.set h.been i (.bool true)).congr (fun j hj => ?_)
    unfold GG.setB
    by_cases e : j = i
    · subst e; simp
    · simp [e]
  · rw [blk_set_off _ _ _ _ (by simp)]; exact h.bvar
  · rw [blk_set_off _ _ _ _ (by simp)]; exact h.vis
theorem OSt.told {N n : Nat} {W0 W w1 : World} {v bv v' : Value} {s : GG.St} {i : Nat} {o : Obj} (h : OSt N n W0 v s W) (hN : W0.heap.size ≤ N) (hb : W.heap[N + 1]? = some (.cells #[bv] 29 (0, 0))) (hr : W.ownsRow (N + 5) 3 1 bv s.2.length (intsV (s.2.map Int.ofNat)))
    (ho : w1.ownsRow (N + 5) 3 1 v' (s.2.length + 1) (intsV (s.2.map Int.ofNat) ++ [.int .i64 (i : Int)])) (hg : (W.alloc o).grownBy w1 bv.ownBlock) :
    w1.heap[N + 1]? = some (.cells #[bv] 29 (0, 0)) ∧ OSt N n W0 v (s.1, s.2 ++ [i]) (w1.setCell ⟨N + 1, 0, none⟩ v') := by
  have hs := h.size
  have key : ∀ k, k < N + 5 → w1.heap[k]? = W.heap[k]? := by
    intro k hk
    rw [hg.block k (by simp; omega) (fun e => by have := (hr.lt k e.symm).1; omega)]
    exact heap_alloc_old W o (by omega)
  have hb1 := (key (N + 1) (by omega)).trans hb
  refine ⟨hb1, ?_, ⟨v', one_setCell hb1, ?_⟩, ?_, ?_, ?_, ?_, ?_⟩
  · rw [blk_set_off _ _ _ _ (by simp), key N (by omega)]; exact h.toC
  · have e : (s.2 ++ [i]).length = s.2.length + 1 := by simp
    have e2 : intsV ((s.2 ++ [i]).map Int.ofNat) = intsV (s.2.map Int.ofNat) ++ [.int .i64 (i : Int)] := by simp [intsV]
    show (w1.setCell ⟨N + 1, 0, none⟩ v').ownsRow (N + 5) _ 1 v' (s.2 ++ [i]).length (intsV ((s.2 ++ [i]).map Int.ofNat))
    rw [e, e2]
    exact SS.own_of_block ho (fun k e => blk_set_off _ _ _ _ (by have := (ho.lt k e).1; simp; omega))
  · exact h.been.of_block (by rw [blk_set_off _ _ _ _ (by simp), key (N + 2) (by omega)])
  · rw [blk_set_off _ _ _ _ (by simp), key (N + 3) (by omega)]; exact h.bvar
  · rw [blk_set_off _ _ _ _ (by simp), key (N + 4) (by omega)]; exact h.vis
  · exact ((h.below.alloc (by omega) o).grown hg (by simp; omega) (fun k e => by have := (hr.lt k e).1; omega)).setCell (by simp; omega) _
  · have := hg.size; simp at this ⊢; omega
theorem adj_ltS {to : List (List Int)} (hin : ∀ a : Nat, ∀ x ∈ to[a]?.getD [], 0 ≤ x ∧ x < to.length) : ∀ x, ∀ j ∈ GG.adjOf to x, j < to.length := by
  intro x j hj
  unfold GG.adjOf at hj
  obtain ⟨y, hy, rfl⟩ := List.mem_map.1 hj
  have := hin x y hy
  omega

set_option maxRecDepth 100000 in
set_option maxHeartbeats 1600000 in
theorem ovisit_any {N : Nat} {W0 : World} {v : Value} {to : List (List Int)} (hN : N = W0.heap.size) (hl : to.length ≤ 1000000) (hm : ∀ a : Nat, (to[a]?.getD []).length ≤ 1000000) (hin : ∀ a : Nat, ∀ x ∈ to[a]?.getD [], 0 ≤ x ∧ x < to.length) (hv : GraphM N W0 v to) (f : Nat) : ∀ (i : Nat) (s : GG.St) (W : World), i < to.length → GG.unv to.length s.1 < f → s.2.length + GG.unv to.length s.1 ≤ to.length → OSt N to.length W0 v s W →
    Calls Tryd.prog 28 #[.int .i64 i, .pointer (some ⟨N + 3, 0, none⟩), .pointer (some ⟨N, 0, none⟩), .pointer (some ⟨N + 4, 0, none⟩), .pointer (some ⟨N + 1, 0, none⟩)] W
      fun e W' => e = .returned (.tuple #[]) ∧ OSt N to.length W0 v (GG.dfs (GG.adjOf to) f i s) W' := by
  subst hN
  induction f with
  | zero => intro i s W _ hu; exact absurd hu (Nat.not_lt_zero _)
  | succ f ih =>
    intro i s W hi hu hlen hS
    have hc0 := World.rowIs.cell hS.been hi
    have hcb := cell_of_one hS.bvar
    have i1 : (0 : Int) ≤ i ∧ (i : Int) < to.length := by omega
    cases hB : s.1 i
    · have HM := Lib.hid (hS.mark (Nat.le_refl _) i)
      have hf0 := World.rowIs.frozen hS.been i
      rw [hB] at hc0
      have hct := cell_of_one HM.out.toC
      obtain ⟨vb, vo, vc, e1⟩ := hv.addr (by omega)
      subst e1
      obtain ⟨ra, rac, hx1, hrx⟩ := (hv.below HM.out.below).at hi
      have b1 : (to[i]?.getD []).length ≤ 1000000 := hm i
      have HR := Lib.hid (hin i)
      have HG := Lib.hid (fun (k : Nat) (hk : k < (to[i]?.getD []).length) => SV.adj_get hk)
      have HAL := Lib.hid (SV.adj_len to i)
      obtain ⟨r, er⟩ : ∃ r, r = to[i]?.getD [] := ⟨_, rfl⟩
      rw [← er] at hx1 hrx b1 HR HG HAL
      have HRX := Lib.hid hrx
      have HS := Lib.hid hS
      have HU := Lib.hid (fun k => SV.part_unv (adj := GG.adjOf to) f i k s hi hB hu)
      have HLN := Lib.hid (fun k => SV.part_len (adj_ltS hin) f i k s hi hB hlen)
      have HALL := Lib.hid (fun k => SV.part_all (GG.adjOf to) f i k s hB)
      have HV := Lib.hid hv
      have HIH := Lib.hid ih
      have HTL := Lib.hid hl
      have HZ := Lib.hid (SV.part_zero (GG.adjOf to) f i s)
      clear hS hv hB ih hu hl er hrx hin hm hlen
      go_enter Tryd.func28, Tryd.ntmps28
      go_wp2_with fail
      go_loopw [20] (fun k wr => ∃ q : Nat, q ≤ r.length ∧ k = .int .i64 (q : Int) ∧ OSt W0.heap.size to.length W0 (.slice (some ⟨vb, vo, none⟩) to.length vc) (SV.part (GG.adjOf to) f i q s) wr) (fun k _ => r.length - (intOf k).toNat)
      case atStart => exact ⟨0, Nat.zero_le _, rfl, by rw [HZ.out]; exact HM.out⟩
      case round =>
        obtain ⟨q, hq, rfl, hP⟩ := hrel
        have HP := Lib.hid hP
        clear hP
        by_cases hqt : q < r.length
        · have hcv := cell_of_one HP.out.vis
          obtain ⟨xb2, xo2, rfl, hx2⟩ := (HRX.out.of_both HM.out.below HP.out.below).cellAt hqt
          have i3 : (0 : Int) ≤ q ∧ (q : Int) < r.length := by omega
          have HX := Lib.hid (HR.out _ (GG.getD_mem (d := 0) hqt))
          have HST := Lib.hid (SV.part_succ (GG.adjOf to) f i q s (HG.out q hqt))
          obtain ⟨x, ex⟩ : ∃ x, x = r[q]?.getD 0 := ⟨_, rfl⟩
          rw [← ex] at hx2 HX HST
          clear ex
          obtain ⟨y, rfl⟩ : ∃ y : Nat, x = (y : Int) := ⟨x.toNat, by have := HX.out; omega⟩
          have HY := Lib.hid (show y < to.length by have := HX.out; omega)
          go_wp2_with (go_at_call 28; refine (HIH.out y _ _ HY.out (HU.out q) (by have := HLN.out q; omega) HP.out).mono ?_; rintro e w' ⟨rfl, hP'⟩; have HP' := Lib.hid hP'; clear hP')
          go_roundw
          case rel => exact ⟨q + 1, by omega, by go_num, by rw [HST.out, Int.toNat_natCast]; exact HP'.out⟩
          case measure => simp [intOf]; omega
        · obtain ⟨bv, hbb, hbr⟩ := HP.out.beh
          obtain ⟨i0, hi0, hz0, hz1, hz2⟩ := info_parts Tryd.infoGInt
          have hcb1 := cell_of_one hbb
          have HBB := Lib.hid hbb
          have HBR := Lib.hid hbr
          have HL1 := HLN.out q
          have HL2 := HTL.out
          have HE := Lib.hid (HALL.out q (by have := HAL.out; omega))
          clear hbb hbr
          go_wp2_with (first
          | (at_builtin
             refine GG.wpList_append_any rfl _ _ 29 rfl (W0.heap.size + 5) 3 i0 (.int .i64 0) 1 8 Tryd.underlying29 hi0 hz0 hz1 hz2 rfl (by decide) bv _ _ rfl (HBR.out.alloc _) (.slice (some ⟨wr.heap.size, 0, none⟩) 1 1) 1 [.int .i64 (i : Int)] rfl rfl (.inr ⟨_, _, rfl, GG.cell_one _ _ _⟩) (by intro u hu; rw [List.mem_singleton.1 hu]; rfl) (by unfold maxLen; omega) (by omega) (by have := HP.out.size; simp; omega) ?_
             intro v1 w1 ho hg
             obtain ⟨va1, vc1, rfl⟩ := GG.own_slice ho
             have HT := Lib.hid (HP.out.told (Nat.le_refl _) HBB.out HBR.out ho hg)
             clear ho hg
             have hcb2 := cell_of_one HT.out.1
             have hfb2 := free_of_one HT.out.1))
          go_end0
          exact ⟨rfl, by rw [HE.out]; exact HT.out.2⟩
    · rw [hB] at hc0
      have HF := Lib.hid (show OSt W0.heap.size to.length W0 v (GG.dfs (GG.adjOf to) (f + 1) i s) W from by unfold GG.dfs; rw [if_pos hB]; exact hS)
      clear hS hv hB ih hu hlen
      go_enter Tryd.func28, Tryd.ntmps28
      go_wp2_with fail
      refine bodyPost_ret (results_none rfl _ _ _) rfl ?_
      exact ⟨rfl, HF.out⟩
end Go.Proofs.YtkoofibhddkpiaaDoor

/-! solve: the order -/
namespace Go.Proofs.YtkoofibhddkpiaaDoor
open Go.RowKit
theorem infoBool : (Tryd.prog.info? 4).map (fun i => (i.zero, i.size, i.bytes)) = some (some (.bool false), 1, 1) := by kernel_rfl
/-- the walk from the first q values -/
def ordT (adj : Nat → List Nat) (n q : Nat) : GG.St := GG.runF (n + 1) adj (List.range q)
theorem ordT_zero (adj : Nat → List Nat) (n : Nat) : ordT adj n 0 = ((fun _ => false), []) := by simp [ordT, GG.runF]
theorem ordT_succ (adj : Nat → List Nat) (n q : Nat) : ordT adj n (q + 1) = GG.dfs adj (n + 1) q (ordT adj n q) := by
  unfold ordT GG.runF
  rw [List.range_succ, List.foldl_append]
  rfl
theorem ordT_len {adj : Nat → List Nat} {n : Nat} (ha : ∀ x, ∀ j ∈ adj x, j < n) (q : Nat) (hq : q ≤ n) : (ordT adj n q).2.length + GG.unv n (ordT adj n q).1 ≤ n := by
  have := SV.fold_len ha (n + 1) (List.range q) ((fun _ => false), []) 0 (fun j hj => by have := List.mem_range.1 hj; omega) (by have := GG.unv_le n (fun _ => false); show 0 + GG.unv n (fun _ => false) + 0 ≤ n; omega)
  exact this
def oFn (N : Nat) : Value := .func (.func 28) #[] #[.pointer (some ⟨N + 3, 0, none⟩), .pointer (some ⟨N, 0, none⟩), .pointer (some ⟨N + 4, 0, none⟩), .pointer (some ⟨N + 1, 0, none⟩)]
def OrdE (to : List (List Int)) (W : World) (e : Ending) (V : World) : Prop := ∃ ov, e = .returned ov ∧ V.ownsRow W.heap.size 3 1 ov to.length (intsV ((SV.ordL (GG.adjOf to) to.length).map Int.ofNat)) ∧ Below W.heap.size W V
theorem ost_new (W : World) (v : Value) (n : Nat) : OSt W.heap.size n W v ((fun _ => false), []) (((((W.alloc (.cells #[v] 24)).alloc (.cells #[.slice none 0 0] 29)).alloc (.cells (madeCells #[.bool false] n) 4)).alloc (.cells #[.slice (some ⟨W.heap.size + 1 + 1, 0, none⟩) n n] 65)).alloc (.cells #[oFn W.heap.size] 44)) := by
  refine ⟨?_, ⟨.slice none 0 0, ?_, World.ownsRow_nil _ _ _ _⟩, ?_, ?_, ?_, ?_, ?_⟩
  · rw [heap_alloc_old _ _ (by simp <;> omega), heap_alloc_old _ _ (by simp <;> omega), heap_alloc_old _ _ (by simp <;> omega), heap_alloc_old _ _ (by simp), heap_alloc_new]
  · rw [heap_alloc_old _ _ (by simp <;> omega), heap_alloc_old _ _ (by simp <;> omega), heap_alloc_old _ _ (by simp)]
    exact SS.new_at (by simp)
  · have h := World.rowIs_made ((W.alloc (.cells #[v] 24)).alloc (.cells #[.slice none 0 0] 29)) (.bool false) n 4
    rw [show ((W.alloc (.cells #[v] 24)).alloc (.cells #[.slice none 0 0] 29)).heap.size = W.heap.size + 2 by simp] at h
    refine h.of_block ?_
    rw [heap_alloc_old _ _ (by simp <;> omega), heap_alloc_old _ _ (by simp)]
  · rw [heap_alloc_old _ _ (by simp)]
    exact SS.new_at (by simp)
  · exact SS.new_at (by simp)
  · exact (((((Below.refl _ _).alloc (Nat.le_refl _) _).alloc (by simp) _).alloc (by simp <;> omega) _).alloc (by simp <;> omega) _).alloc (by simp <;> omega) _
  · simp
set_option maxRecDepth 100000 in
set_option maxHeartbeats 1600000 in
theorem order_anyS {v : Value} {to : List (List Int)} (W : World) (hl : to.length ≤ 1000000) (hm : ∀ a : Nat, (to[a]?.getD []).length ≤ 1000000) (hin : ∀ a : Nat, ∀ x ∈ to[a]?.getD [], 0 ≤ x ∧ x < to.length) (hv : GraphM W.heap.size W v to) :
    Calls Tryd.prog 19 #[v] W fun e V => OrdE to W e V := by
  obtain ⟨va, vc, rfl⟩ := hv.form
  have hmk := run_make_row' (P := Tryd.prog) 65 4 (.bool false) 1 (by kernel_rfl) infoBool rfl .i64 .i64 to.length (by omega) (by omega)
  have hmf : ∀ (fn : Fn) (first cap : Array Value) (w : World), (Instr.makeFunc fn first cap).run Tryd.prog w = .ok (.func fn first cap) w := fun _ _ _ _ => rfl
  have b0 : (to.length : Int) ≤ 1000000 := by omega
  have HL := Lib.hid hl
  have HM := Lib.hid hm
  have HI := Lib.hid hin
  have HV := Lib.hid hv
  have HNW := Lib.hid (ost_new W (.slice va to.length vc) to.length)
  have HLN := Lib.hid (fun q (hq : q ≤ to.length) => ordT_len (adj_ltS hin) q hq)
  clear hl hm hin hv
  go_enter Tryd.func19, Tryd.ntmps19
  go_wp2_with fail
  clear hmk hmf
  go_loopw [13] (fun k wr => ∃ q : Nat, q ≤ to.length ∧ k = .int .i64 (q : Int) ∧ OSt W.heap.size to.length W (.slice va to.length vc) (ordT (GG.adjOf to) to.length q) wr) (fun k _ => to.length - (intOf k).toNat)
  case atStart => exact ⟨0, Nat.zero_le _, rfl, by rw [ordT_zero]; exact HNW.out⟩
  case round =>
    obtain ⟨q, hq, rfl, hS⟩ := hrel
    have HS := Lib.hid hS
    clear hS
    by_cases hqt : q < to.length
    · have hcv : wr.cell? ⟨W.heap.size + 1 + 1 + 1 + 1, 0, none⟩ = _ := cell_of_one HS.out.vis
      have i1 : (0 : Int) ≤ q ∧ (q : Int) < to.length := by omega
      have HST := Lib.hid (ordT_succ (GG.adjOf to) to.length q)
      go_wp2_with (go_at_call 28; refine (ovisit_any rfl HL.out HM.out HI.out HV.out (to.length + 1) q _ _ hqt (by have := GG.unv_le to.length (ordT (GG.adjOf to) to.length q).1; omega) (HLN.out q hq) HS.out).mono ?_; rintro e w' ⟨rfl, hP'⟩; have HP' := Lib.hid hP'; clear hP')
      go_roundw
      case rel => exact ⟨q + 1, by omega, by go_num, by rw [HST.out]; exact HP'.out⟩
      case measure => simp [intOf]; omega
    · obtain ⟨bv, hbb, hbr⟩ := HS.out.beh
      have hcb : wr.cell? ⟨W.heap.size + 1, 0, none⟩ = some bv := cell_of_one hbb
      have HF := Lib.hid (show OrdE to W (.returned bv) wr from ⟨bv, rfl, by
        have e1 : q = to.length := by omega
        subst e1
        have h1 := SV.ord_len (adj_ltS HI.out)
        have h2 : (ordT (GG.adjOf to) to.length to.length).2 = SV.ordL (GG.adjOf to) to.length := rfl
        rw [h2, h1] at hbr
        exact SS.own_lower (by omega) hbr, HS.out.below⟩)
      have hqz : ¬ ((q : Int) < to.length) := by omega
      clear hbb hbr
      go_wp2_with fail
      go_ret
      exact HF.out
end Go.Proofs.YtkoofibhddkpiaaDoor

/-! solve: may labels be? -/
namespace Go.Proofs.YtkoofibhddkpiaaDoor
open Go.RowKit
def labOk (n : Nat) (p : Int × Int) : Bool := decide (0 ≤ p.1 ∧ p.1 < n)
theorem lab_no {n : Nat} {l : List (Int × Int)} {j : Nat} (hj : j < l.length) (h : ¬ (0 ≤ (l[j]?.getD s0).1 ∧ (l[j]?.getD s0).1 < n)) : l.all (labOk n) = false := by
  rw [List.all_eq_false]
  refine ⟨l[j]?.getD s0, GG.getD_mem hj, ?_⟩
  unfold labOk
  rw [decide_eq_false h]
  simp
theorem lab_yes {n : Nat} {l : List (Int × Int)} (h : ∀ j, j < l.length → 0 ≤ (l[j]?.getD s0).1 ∧ (l[j]?.getD s0).1 < n) : l.all (labOk n) = true := by
  rw [List.all_eq_true]
  intro p hp
  obtain ⟨j, hj, rfl⟩ := List.mem_iff_getElem.1 hp
  have := h j hj
  rw [List.getElem?_eq_getElem hj] at this
  unfold labOk
  exact decide_eq_true this
set_option maxRecDepth 100000 in
set_option maxHeartbeats 1600000 in
theorem allowed_any {ua : Option Addr} {nx uc : Nat} {v : Value} {l : List (Int × Int)} (W : World) (hv : LabRow W.heap.size W v l) (hl : l.length ≤ 17592186044416) :
    Calls Tryd.prog 16 #[.slice ua nx uc, v] W fun e V => e = .returned (.bool (l.all (labOk nx))) ∧ Below W.heap.size W V := by
  obtain ⟨la, lc, rfl⟩ := hv.form
  have HV := Lib.hid hv
  have b0 : (l.length : Int) ≤ 17592186044416 := by omega
  clear hv
  go_enter Tryd.func16, Tryd.ntmps16
  go_wp2_with fail
  go_loopw [9] (fun k wr => ∃ j : Nat, j ≤ l.length ∧ k = .int .i64 (j : Int) ∧ Below W.heap.size W wr ∧ RowKit.Hid (∀ i, i < j → 0 ≤ (l[i]?.getD s0).1 ∧ (l[i]?.getD s0).1 < nx)) (fun k _ => l.length - (intOf k).toNat)
  case atStart => exact ⟨0, Nat.zero_le _, rfl, Below.refl _ _, Lib.hid (fun i hi => absurd hi (Nat.not_lt_zero _))⟩
  case round =>
    obtain ⟨j, hj, rfl, hB, HA⟩ := hrel
    have HB := Lib.hid hB
    clear hB
    by_cases hjt : j < l.length
    · obtain ⟨lb, lo, rfl, hlb, hc1, hc2⟩ := (HV.out.below HB.out).at hjt
      have i1 : (0 : Int) ≤ j ∧ (j : Int) < l.length := by omega
      have HNO := Lib.hid (fun h => lab_no (n := nx) hjt h)
      have HNX := Lib.hid (fun (h : 0 ≤ (l[j]?.getD s0).1 ∧ (l[j]?.getD s0).1 < nx) (i : Nat) (hi : i < j + 1) => if e : i = j then e ▸ h else HA.out i (by omega))
      obtain ⟨⟨pl, pm⟩, ep⟩ : ∃ p, p = l[j]?.getD s0 := ⟨_, rfl⟩
      rw [← ep] at hc1 hc2 HNO HNX
      simp only at hc1 hc2
      clear ep
      by_cases h0 : pl < 0
      · have HF := Lib.hid (HNO.out (by simp only; omega))
        go_wp2_with fail
        go_ret
        exact ⟨by simp [HF.out], HB.out.alloc HB.out.size _⟩
      · by_cases h1 : (nx : Int) ≤ pl
        · have HF := Lib.hid (HNO.out (by simp only; omega))
          go_wp2_with fail
          go_ret
          exact ⟨by simp [HF.out], HB.out.alloc HB.out.size _⟩
        · have HN := Lib.hid (HNX.out (by simp only; omega))
          go_wp2_with fail
          go_roundw
          case rel => exact ⟨j + 1, by omega, by go_num, HB.out.alloc HB.out.size _, Lib.hid HN.out⟩
          case measure => simp [intOf]; omega
    · have HF := Lib.hid (lab_yes (n := nx) (l := l) (fun i hi => HA.out i (by omega)))
      have hjz : ¬ ((j : Int) < l.length) := by omega
      go_wp2_with fail
      go_ret
      exact ⟨by simp [HF.out], HB.out⟩
end Go.Proofs.YtkoofibhddkpiaaDoor
