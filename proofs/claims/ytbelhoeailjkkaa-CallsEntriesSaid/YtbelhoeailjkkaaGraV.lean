import Derived.Test.YtbelhoeailjkkaaGraC
set_option linter.unusedSimpArgs false
set_option linter.unusedVariables false
/-! graphs: the closure that walks -/
namespace Go.Proofs.Ytbelhoeailjkkaa.GG
open Go.RowKit
theorem dfs_mono (adj : Nat → List Nat) (f : Nat) : ∀ (i : Nat) (s : St) (x : Nat), s.1 x = true → (dfs adj f i s).1 x = true := by
  induction f with
  | zero => intro i s x h; exact h
  | succ f ih =>
    intro i s x h
    unfold dfs
    split
    · exact h
    · have key : ∀ (l : List Nat) (s : St), s.1 x = true → (l.foldl (fun s j => dfs adj f j s) s).1 x = true := by
        intro l
        induction l with
        | nil => intro s h; exact h
        | cons j l ihl => intro s h; exact ihl _ (ih j s x h)
      exact key _ _ ((setB_of _ _ _).2 (.inr h))
theorem fold_mono (adj : Nat → List Nat) (f : Nat) (l : List Nat) (s : St) (x : Nat) (h : s.1 x = true) : (l.foldl (fun s j => dfs adj f j s) s).1 x = true := by
  induction l generalizing s with
  | nil => exact h
  | cons j l ihl => exact ihl _ (dfs_mono adj f j s x h)
theorem dfs_len {adj : Nat → List Nat} {n : Nat} (ha : ∀ x, ∀ j ∈ adj x, j < n) (f : Nat) : ∀ (i : Nat) (s : St) (c : Nat), i < n → s.2.length + unv n s.1 + c ≤ n → (dfs adj f i s).2.length + unv n (dfs adj f i s).1 + c ≤ n := by
  induction f with
  | zero => intro i s c _ h; exact h
  | succ f ih =>
    intro i s c hi h
    unfold dfs
    by_cases hB : s.1 i = true
    · rw [if_pos hB]; exact h
    · rw [if_neg hB]
      have hB' : s.1 i = false := by simpa using hB
      have key : ∀ (l : List Nat) (s : St), (∀ j ∈ l, j < n) → s.2.length + unv n s.1 + (c + 1) ≤ n → (l.foldl (fun s j => dfs adj f j s) s).2.length + unv n (l.foldl (fun s j => dfs adj f j s) s).1 + (c + 1) ≤ n := by
        intro l
        induction l with
        | nil => intro s _ h; exact h
        | cons j l ihl => intro s hl h; exact ihl _ (fun k hk => hl k (by simp [hk])) (ih j s (c + 1) (hl j (by simp)) h)
      have := unv_set n hi hB'
      have := key (adj i) (setB s.1 i, s.2) (ha i) (by show s.2.length + unv n (setB s.1 i) + (c + 1) ≤ n; omega)
      generalize (adj i).foldl (fun s j => dfs adj f j s) (setB s.1 i, s.2) = t at this
      show (t.2 ++ [i]).length + unv n t.1 + c ≤ n
      simp only [List.length_append, List.length_cons, List.length_nil]
      omega
theorem fold_len {adj : Nat → List Nat} {n : Nat} (ha : ∀ x, ∀ j ∈ adj x, j < n) (f : Nat) (l : List Nat) (s : St) (c : Nat) (hl : ∀ j ∈ l, j < n) (h : s.2.length + unv n s.1 + c ≤ n) : (l.foldl (fun s j => dfs adj f j s) s).2.length + unv n (l.foldl (fun s j => dfs adj f j s) s).1 + c ≤ n := by
  induction l generalizing s with
  | nil => exact h
  | cons j l ihl => exact ihl _ (fun k hk => hl k (by simp [hk])) (dfs_len ha f j s c (hl j (by simp)) h)
/-- the walk from the first k ways of a node, that is marked -/
def part (adj : Nat → List Nat) (f i k : Nat) (s : St) : St := ((adj i).take k).foldl (fun s j => dfs adj f j s) (setB s.1 i, s.2)
theorem part_zero (adj : Nat → List Nat) (f i : Nat) (s : St) : part adj f i 0 s = (setB s.1 i, s.2) := by simp [part]
theorem part_succ (adj : Nat → List Nat) (f i k : Nat) (s : St) {j : Nat} (h : (adj i)[k]? = some j) : part adj f i (k + 1) s = dfs adj f j (part adj f i k s) := by
  obtain ⟨hk, e⟩ := List.getElem?_eq_some_iff.1 h
  unfold part
  rw [List.take_succ_eq_append_getElem hk, List.foldl_append, e]
  rfl
theorem part_all (adj : Nat → List Nat) (f i k : Nat) (s : St) (hs : s.1 i = false) (hk : (adj i).length ≤ k) : dfs adj (f + 1) i s = ((part adj f i k s).1, (part adj f i k s).2 ++ [i]) := by
  unfold dfs part
  rw [if_neg (by rw [hs]; simp), List.take_of_length_le hk]
theorem part_unv {adj : Nat → List Nat} {n : Nat} (f i k : Nat) (s : St) (hi : i < n) (hs : s.1 i = false) (hu : unv n s.1 < f + 1) : unv n (part adj f i k s).1 < f := by
  have h1 := unv_set n hi hs
  have h2 := unv_mono n (B := setB s.1 i) (C := (part adj f i k s).1) (fun x h => fold_mono adj f _ _ x h)
  omega
theorem part_len {adj : Nat → List Nat} {n : Nat} (ha : ∀ x, ∀ j ∈ adj x, j < n) (f i k : Nat) (s : St) (hi : i < n) (hs : s.1 i = false) (h : s.2.length + unv n s.1 ≤ n) : (part adj f i k s).2.length + unv n (part adj f i k s).1 + 1 ≤ n := by
  have h1 := unv_set n hi hs
  exact fold_len ha f _ _ 1 (fun j hj => ha i j (List.mem_of_mem_take hj)) (by show s.2.length + unv n (setB s.1 i) + 1 ≤ n; omega)
theorem adj_get {to : List (List Int)} {i k : Nat} (hk : k < (to[i]?.getD []).length) : (adjOf to i)[k]? = some ((to[i]?.getD [])[k]?.getD 0).toNat := by
  unfold adjOf
  rw [List.getElem?_map, List.getElem?_eq_getElem hk]
  rfl
theorem adj_len (to : List (List Int)) (i : Nat) : (adjOf to i).length = (to[i]?.getD []).length := by simp [adjOf]
end Go.Proofs.Ytbelhoeailjkkaa.GG
namespace Go.Proofs.Ytbelhoeailjkkaa
open Go.RowKit
/-- what the closure sees: N: the graph's variable, N + 1: where it has been, N + 2: what it has told, N + 3: itself -/
structure VSt (N : Nat) (W0 : World) (v : Value) (s : GG.St) (W : World) : Prop where
  toC : W.heap[N]? = some (.cells #[v] 22 (0, 0))
  been : Flags W (N + 1) s.1
  beh : ∃ bv, W.heap[N + 2]? = some (.cells #[bv] 28 (0, 0)) ∧ W.ownsRow (N + 4) 3 1 bv s.2.length (intsV (s.2.map Int.ofNat))
  vis : W.heap[N + 3]? = some (.cells #[.func (.func 40) #[] #[.pointer (some ⟨N + 1, 0, none⟩), .pointer (some ⟨N, 0, none⟩), .pointer (some ⟨N + 3, 0, none⟩), .pointer (some ⟨N + 2, 0, none⟩)]] 53 (0, 0))
  below : Below W0.heap.size W0 W
  size : N + 4 ≤ W.heap.size
theorem blk_set_other (W : World) (a : Addr) (k : Nat) (v : Value) (h : k ≠ a.block) : (W.setCell a v).heap[k]? = W.heap[k]? := heap_setCell_other W a k v h
theorem VSt.mark {N : Nat} {W0 W : World} {v : Value} {s : GG.St} (h : VSt N W0 v s W) (hN : W0.heap.size ≤ N) (i : Nat) : VSt N W0 v (GG.setB s.1 i, s.2) (W.setCell ⟨N + 1, i, none⟩ (.bool true)) := by
  obtain ⟨bv, hb, ho⟩ := h.beh
  refine ⟨?_, h.been.set i, ⟨bv, ?_, ?_⟩, ?_, h.below.setCell (by simp; omega) _, by simpa using h.size⟩
  · rw [blk_set_other _ _ _ _ (by simp)]; exact h.toC
  · rw [blk_set_other _ _ _ _ (by simp)]; exact hb
  · refine ⟨ho.1, ?_⟩
    rcases ho.2 with hn | ⟨g, cap, cur, rfl, hb', hgg, rest⟩
    · exact .inl hn
    · exact .inr ⟨g, cap, cur, rfl, hb', by rw [blk_set_other _ _ _ _ (by simp; omega)]; exact hgg, rest⟩
  · rw [blk_set_other _ _ _ _ (by simp)]; exact h.vis

/-- a node that is told -/
theorem VSt.told {N : Nat} {W0 W w1 : World} {v bv v' : Value} {s : GG.St} {i : Nat} {o : Obj} (h : VSt N W0 v s W) (hN : W0.heap.size ≤ N) (hb : W.heap[N + 2]? = some (.cells #[bv] 28 (0, 0))) (hr : W.ownsRow (N + 4) 3 1 bv s.2.length (intsV (s.2.map Int.ofNat)))
    (ho : w1.ownsRow (N + 4) 3 1 v' (s.2.length + 1) (intsV (s.2.map Int.ofNat) ++ [.int .i64 (i : Int)])) (hg : (W.alloc o).grownBy w1 bv.ownBlock) :
    w1.heap[N + 2]? = some (.cells #[bv] 28 (0, 0)) ∧ VSt N W0 v (s.1, s.2 ++ [i]) (w1.setCell ⟨N + 2, 0, none⟩ v') := by
  have hs := h.size
  have key : ∀ k, k < N + 4 → w1.heap[k]? = W.heap[k]? := by
    intro k hk
    rw [hg.block k (by simp; omega) (fun e => by have := (hr.lt k e.symm).1; omega)]
    exact heap_alloc_old W o (by omega)
  have hb1 := (key (N + 2) (by omega)).trans hb
  refine ⟨hb1, ?_, ?_, ⟨v', one_setCell hb1, ?_⟩, ?_, ?_, ?_⟩
  · rw [blk_set_other _ _ _ _ (by simp), key N (by omega)]; exact h.toC
  · exact h.been.of_block (by rw [blk_set_other _ _ _ _ (by simp), key (N + 1) (by omega)])
  · have e : (s.2 ++ [i]).length = s.2.length + 1 := by simp
    have e2 : intsV ((s.2 ++ [i]).map Int.ofNat) = intsV (s.2.map Int.ofNat) ++ [.int .i64 (i : Int)] := by simp [intsV]
    show (w1.setCell ⟨N + 2, 0, none⟩ v').ownsRow (N + 4) _ 1 v' (s.2 ++ [i]).length (intsV ((s.2 ++ [i]).map Int.ofNat))
    rw [e, e2]
    refine ⟨ho.1, ?_⟩
    rcases ho.2 with hn | ⟨g, cap, cur, rfl, hb', hgg, rest⟩
    · exact .inl hn
    · exact .inr ⟨g, cap, cur, rfl, hb', by rw [blk_set_other _ _ _ _ (by simp; omega)]; exact hgg, rest⟩
  · rw [blk_set_other _ _ _ _ (by simp), key (N + 3) (by omega)]; exact h.vis
  · exact ((h.below.alloc (by omega) o).grown hg (by simp; omega) (fun k e => by have := (hr.lt k e).1; omega)).setCell (by simp; omega) _
  · have := hg.size; simp at this ⊢; omega
theorem VSt.beh_cell {N : Nat} {W0 W : World} {v : Value} {s : GG.St} (h : VSt N W0 v s W) : W.cell? ⟨N, 0, none⟩ = some v := cell_of_one h.toC

set_option maxRecDepth 100000 in
set_option maxHeartbeats 1600000 in
theorem visit_any {N : Nat} {W0 : World} {v : Value} {to : List (List Int)} (hN : N = W0.heap.size) (hr : GG.rightG to = true) (hv : GraphM N W0 v to) (f : Nat) : ∀ (i : Nat) (s : GG.St) (W : World), i < to.length → GG.unv to.length s.1 < f → s.2.length + GG.unv to.length s.1 ≤ to.length → VSt N W0 v s W →
    Calls Try.prog 40 #[.int .i64 i, .pointer (some ⟨N + 1, 0, none⟩), .pointer (some ⟨N, 0, none⟩), .pointer (some ⟨N + 3, 0, none⟩), .pointer (some ⟨N + 2, 0, none⟩)] W
      fun e W' => e = .returned (.tuple #[]) ∧ VSt N W0 v (GG.dfs (GG.adjOf to) f i s) W' := by
  subst hN
  induction f with
  | zero => intro i s W _ hu; exact absurd hu (Nat.not_lt_zero _)
  | succ f ih =>
    intro i s W hi hu hl hS
    have hlen := GG.right_len hr
    have hc0 := hS.been.cell (show i < 256 by omega)
    have i1 : (0 : Int) ≤ i ∧ (i : Int) < 256 := by omega
    cases hB : s.1 i
    · have HM := Lib.hid (hS.mark (Nat.le_refl _) i)
      have hf0 := hS.been.frozen i
      rw [hB] at hc0
      have hct := cell_of_one HM.out.toC
      obtain ⟨vb, vo, vc, e1⟩ := hv.addr (by omega)
      subst e1
      obtain ⟨ra, rac, hx1, hrx⟩ := (hv.below HM.out.below).at hi
      have i2 : (0 : Int) ≤ i ∧ (i : Int) < to.length := by omega
      have b1 : (to[i]?.getD []).length ≤ 17592186044416 := by have := GG.row_len (GG.right_at hr hi); omega
      have HR := Lib.hid (GG.right_at hr hi)
      have HG := Lib.hid (fun (k : Nat) (hk : k < (to[i]?.getD []).length) => GG.adj_get hk)
      have HAL := Lib.hid (GG.adj_len to i)
      obtain ⟨r, er⟩ : ∃ r, r = to[i]?.getD [] := ⟨_, rfl⟩
      rw [← er] at hx1 hrx b1 HR HG HAL
      have HRX := Lib.hid hrx
      have HS := Lib.hid hS
      have HU := Lib.hid (fun k => GG.part_unv (adj := GG.adjOf to) f i k s hi hB hu)
      have HLN := Lib.hid (fun k => GG.part_len (GG.adj_lt hr) f i k s hi hB hl)
      have HALL := Lib.hid (fun k => GG.part_all (GG.adjOf to) f i k s hB)
      have HV := Lib.hid hv
      have HIH := Lib.hid ih
      have HZ := Lib.hid (GG.part_zero (GG.adjOf to) f i s)
      clear hS hv hB ih hu hl er hrx
      go_enter Try.func40, Try.ntmps40
      go_wp2_with fail
      go_loopw [18] (fun k wr => ∃ q : Nat, q ≤ r.length ∧ k = .int .i64 (q : Int) ∧ VSt W0.heap.size W0 (.slice (some ⟨vb, vo, none⟩) to.length vc) (GG.part (GG.adjOf to) f i q s) wr) (fun k _ => r.length - (intOf k).toNat)
      case atStart => exact ⟨0, Nat.zero_le _, rfl, by rw [HZ.out]; exact HM.out⟩
      case round =>
        obtain ⟨q, hq, rfl, hP⟩ := hrel
        have HP := Lib.hid hP
        clear hP
        by_cases hqt : q < r.length
        · have hcv := cell_of_one HP.out.vis
          obtain ⟨xb2, xo2, rfl, hx2⟩ := (HRX.out.of_both HM.out.below HP.out.below).cellAt hqt
          have i3 : (0 : Int) ≤ q ∧ (q : Int) < r.length := by omega
          have HX := Lib.hid (GG.row_in HR.out _ (GG.getD_mem (d := 0) hqt))
          have HST := Lib.hid (GG.part_succ (GG.adjOf to) f i q s (HG.out q hqt))
          obtain ⟨x, ex⟩ : ∃ x, x = r[q]?.getD 0 := ⟨_, rfl⟩
          rw [← ex] at hx2 HX HST
          clear ex
          obtain ⟨y, rfl⟩ : ∃ y : Nat, x = (y : Int) := ⟨x.toNat, by have := HX.out; omega⟩
          have HY := Lib.hid (show y < to.length by have := HX.out; omega)
          go_wp2_with (go_at_call 40; refine (HIH.out y _ _ HY.out (HU.out q) (by have := HLN.out q; omega) HP.out).mono ?_; rintro e w' ⟨rfl, hP'⟩; have HP' := Lib.hid hP'; clear hP')
          go_roundw
          case rel => exact ⟨q + 1, by omega, by go_num, by rw [HST.out, Int.toNat_natCast]; exact HP'.out⟩
          case measure => simp [intOf]; omega
        · obtain ⟨bv, hbb, hbr⟩ := HP.out.beh
          obtain ⟨i0, hi0, hz0, hz1, hz2⟩ := info_parts Try.infoGInt
          have hcb := cell_of_one hbb
          have HBB := Lib.hid hbb
          have HBR := Lib.hid hbr
          have HL1 := HLN.out q
          have HE := Lib.hid (HALL.out q (by have := HAL.out; omega))
          clear hbb hbr
          go_wp2_with (first
          | (at_builtin
             refine GG.wpList_append_any rfl _ _ 28 rfl (W0.heap.size + 4) 3 i0 (.int .i64 0) 1 8 Try.underlying28 hi0 hz0 hz1 hz2 rfl (by decide) bv _ _ rfl (HBR.out.alloc _) (.slice (some ⟨wr.heap.size, 0, none⟩) 1 1) 1 [.int .i64 (i : Int)] rfl rfl (.inr ⟨_, _, rfl, GG.cell_one _ _ _⟩) (by intro u hu; rw [List.mem_singleton.1 hu]; rfl) (by unfold maxLen; omega) (by omega) (by have := HP.out.size; simp; omega) ?_
             intro v1 w1 ho hg
             obtain ⟨va1, vc1, rfl⟩ := GG.own_slice ho
             have HT := Lib.hid (HP.out.told (Nat.le_refl _) HBB.out HBR.out ho hg)
             clear ho hg
             have hcb1 := cell_of_one HT.out.1
             have hfb1 := free_of_one HT.out.1))
          go_end0
          exact ⟨rfl, by rw [HE.out]; exact HT.out.2⟩
    · rw [hB] at hc0
      have HS := Lib.hid hS
      have HD := Lib.hid (show GG.dfs (GG.adjOf to) (f + 1) i s = s by unfold GG.dfs; rw [if_pos hB])
      clear hS hv hB ih hu hl
      go_enter Try.func40, Try.ntmps40
      go_wp2_with fail
      exact bodyPost_ret (v := .tuple #[]) (results_none rfl _ _ _) rfl ⟨rfl, by rw [HD.out]; exact HS.out⟩
end Go.Proofs.Ytbelhoeailjkkaa
