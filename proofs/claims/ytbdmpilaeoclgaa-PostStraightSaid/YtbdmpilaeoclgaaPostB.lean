import Derived.Test.YtbdmpilaeoclgaaPostT
import Derived.Laws.EntriesVeiled
set_option linter.unusedSimpArgs false
set_option linter.unusedVariables false
/-! post: a walk that stops at a node (the project's closure) -/
namespace Go.Proofs.Ytbdmpilaeoclgaa.DD
open GG
/-- a walk on from i that does not go through m: where it has been -/
def dfm (to : List (List Int)) (m : Int) : Nat → Nat → (Nat → Bool) → (Nat → Bool)
  | 0, _, B => B
  | f + 1, i, B => if (i : Int) = m ∨ B i = true then B else (adjOf to i).foldl (fun B j => dfm to m f j B) (setB B i)
theorem dfm_mono (to : List (List Int)) (m : Int) (f : Nat) : ∀ (i : Nat) (B : Nat → Bool) (x : Nat), B x = true → dfm to m f i B x = true := by
  induction f with
  | zero => intro i B x h; exact h
  | succ f ih =>
    intro i B x h
    unfold dfm
    split
    · exact h
    · have key : ∀ (l : List Nat) (B : Nat → Bool), B x = true → l.foldl (fun B j => dfm to m f j B) B x = true := by
        intro l
        induction l with
        | nil => intro B h; exact h
        | cons j l ihl => intro B h; exact ihl _ (ih j B x h)
      exact key _ _ ((setB_of _ _ _).2 (.inr h))
theorem dfm_at (to : List (List Int)) {m : Int} (f : Nat) {i : Nat} (B : Nat → Bool) (h : (i : Int) = m) : dfm to m f i B = B := by
  cases f with
  | zero => rfl
  | succ f => unfold dfm; rw [if_pos (.inl h)]
theorem dfm_dfs (to : List (List Int)) (m : Int) (f : Nat) : ∀ (i : Nat) (s : GG.St), (i : Int) ≠ m → dfm to m f i s.1 = (dfs (adjN to m) f i s).1 := by
  induction f with
  | zero => intro i s _; rfl
  | succ f ih =>
    intro i s hi
    unfold dfm dfs
    by_cases hB : s.1 i = true
    · rw [if_pos (.inr hB), if_pos hB]
    · rw [if_neg (fun h => h.elim hi hB), if_neg hB]
      have key : ∀ (l : List Nat) (s : GG.St), l.foldl (fun B j => dfm to m f j B) s.1 = ((l.filter fun (j : Nat) => decide ((j : Int) ≠ m)).foldl (fun s j => dfs (adjN to m) f j s) s).1 := by
        intro l
        induction l with
        | nil => intro s; rfl
        | cons j l ihl =>
          intro s
          by_cases hj : (j : Int) = m
          · rw [List.foldl_cons, dfm_at to f s.1 hj, List.filter_cons, if_neg (by simp [hj])]; exact ihl s
          · rw [List.foldl_cons, ih j s hj, List.filter_cons, if_pos (by simp [hj]), List.foldl_cons]; exact ihl _
      exact key (adjOf to i) (setB s.1 i, s.2)
/-- the walks from the first q of a node's ways -/
def walkM (to : List (List Int)) (m : Int) (fork q : Nat) : Nat → Bool := ((adjOf to fork).take q).foldl (fun B j => dfm to m 257 j B) (fun _ => false)
theorem walkM_zero (to : List (List Int)) (m : Int) (fork : Nat) : walkM to m fork 0 = fun _ => false := by simp [walkM]
theorem walkM_succ {to : List (List Int)} {m : Int} {fork q j : Nat} (h : (adjOf to fork)[q]? = some j) : walkM to m fork (q + 1) = dfm to m 257 j (walkM to m fork q) := by
  obtain ⟨hk, e⟩ := List.getElem?_eq_some_iff.1 h
  unfold walkM
  rw [List.take_succ_eq_append_getElem hk, List.foldl_append, e]; rfl
theorem walkM_mark {to : List (List Int)} (hr : rightG to = true) {m : Int} {fork q : Nat} (hf : fork < to.length) (hq : (adjOf to fork).length ≤ q) (x : Nat) : walkM to m fork q x = markB to m fork x := by
  have hl := right_len hr
  have key : ∀ (l : List Nat) (s : GG.St), l.foldl (fun B j => dfm to m 257 j B) s.1 = ((l.filter fun (j : Nat) => decide ((j : Int) ≠ m)).foldl (fun s j => dfs (adjN to m) 257 j s) s).1 := by
    intro l
    induction l with
    | nil => intro s; rfl
    | cons j l ihl =>
      intro s
      by_cases hj : (j : Int) = m
      · rw [List.foldl_cons, dfm_at to 257 s.1 hj, List.filter_cons, if_neg (by simp [hj])]; exact ihl s
      · rw [List.foldl_cons, dfm_dfs to m 257 j s hj, List.filter_cons, if_pos (by simp [hj]), List.foldl_cons]; exact ihl _
  unfold walkM
  rw [List.take_of_length_le hq]
  have h1 := congrFun (key (adjOf to fork) ((fun _ => false), [])) x
  rw [h1]
  have h2 := walks_been (adjN_lt (no := m) hr) ((adjOf to fork).filter fun (j : Nat) => decide ((j : Int) ≠ m)) (fun j hj => adj_lt hr _ _ (List.mem_filter.1 hj).1) (f := 257) (by omega) x
  unfold runF at h2
  rw [Bool.eq_iff_iff, h2]
  unfold markB
  rw [List.any_eq_true]
  constructor
  · rintro ⟨i, hi, hr'⟩
    obtain ⟨h3, h4⟩ := List.mem_filter.1 hi
    have hin := adj_lt hr _ _ h3
    refine ⟨(i : Int), (adj_mem hr hf i).1 h3, ?_⟩
    rw [Bool.and_eq_true, Int.toNat_natCast]
    exact ⟨h4, (reachB_iff hr hin x).2 hr'⟩
  · rintro ⟨y, hy, hyy⟩
    rw [Bool.and_eq_true] at hyy
    have hyr := row_in (right_at hr hf) y hy
    obtain ⟨k, rfl⟩ : ∃ k : Nat, y = (k : Int) := ⟨y.toNat, by omega⟩
    rw [Int.toNat_natCast] at hyy
    exact ⟨k, List.mem_filter.2 ⟨(adj_mem hr hf k).2 hy, hyy.1⟩, (reachB_iff hr (by omega) x).1 hyy.2⟩
def partM (to : List (List Int)) (m : Int) (f i k : Nat) (B : Nat → Bool) : Nat → Bool := ((adjOf to i).take k).foldl (fun B j => dfm to m f j B) (setB B i)
theorem partM_zero (to : List (List Int)) (m : Int) (f i : Nat) (B : Nat → Bool) : partM to m f i 0 B = setB B i := by simp [partM]
theorem partM_succ {to : List (List Int)} {m : Int} {f i k j : Nat} (B : Nat → Bool) (h : (adjOf to i)[k]? = some j) : partM to m f i (k + 1) B = dfm to m f j (partM to m f i k B) := by
  obtain ⟨hk, e⟩ := List.getElem?_eq_some_iff.1 h
  unfold partM
  rw [List.take_succ_eq_append_getElem hk, List.foldl_append, e]; rfl
theorem partM_all {to : List (List Int)} {m : Int} {f i k : Nat} {B : Nat → Bool} (hi : (i : Int) ≠ m) (hB : B i = false) (hk : (adjOf to i).length ≤ k) : dfm to m (f + 1) i B = partM to m f i k B := by
  unfold partM
  rw [List.take_of_length_le hk, dfm, if_neg (fun h => h.elim hi (by rw [hB]; simp))]
theorem fold_dfm_mono (to : List (List Int)) (m : Int) (f : Nat) (l : List Nat) : ∀ (B : Nat → Bool) (x : Nat), B x = true → l.foldl (fun B j => dfm to m f j B) B x = true := by
  induction l with
  | nil => intro B x h; exact h
  | cons j l ihl => intro B x h; exact ihl _ x (dfm_mono to m f j B x h)
theorem partM_unv {to : List (List Int)} {m : Int} {n f i : Nat} (k : Nat) {B : Nat → Bool} (hi : i < n) (hB : B i = false) (hu : unv n B < f + 1) : unv n (partM to m f i k B) < f := by
  have h1 := unv_set n hi hB
  have h2 := unv_mono n (B := setB B i) (C := partM to m f i k B) (fun x h => fold_dfm_mono to m f _ _ x h)
  omega
end Go.Proofs.Ytbdmpilaeoclgaa.DD
namespace Go.Proofs.Ytbdmpilaeoclgaa
open Go.RowKit
/-- what the closure sees: N: the graph's variable, N + 1: the meeting's, N + 2: where it has been, N + 3: the variable of that row, N + 4: itself -/
structure BSt (N : Nat) (W0 : World) (v : Value) (m : Int) (n : Nat) (B : Nat → Bool) (W : World) : Prop where
  toC : W.heap[N]? = some (.cells #[v] 22 (0, 0))
  mC : W.heap[N + 1]? = some (.cells #[.int .i64 m] 3 (0, 0))
  bV : W.heap[N + 3]? = some (.cells #[.slice (some ⟨N + 2, 0, none⟩) n n] 45 (0, 0))
  been : FlagsN W (N + 2) n B
  vis : W.heap[N + 4]? = some (.cells #[.func (.func 68) #[] #[.pointer (some ⟨N + 1, 0, none⟩), .pointer (some ⟨N + 3, 0, none⟩), .pointer (some ⟨N, 0, none⟩), .pointer (some ⟨N + 4, 0, none⟩)]] 65 (0, 0))
  below : Below W0.heap.size W0 W
  size : N + 5 ≤ W.heap.size
theorem BSt.mark {N n : Nat} {W0 W : World} {v : Value} {m : Int} {B : Nat → Bool} (h : BSt N W0 v m n B W) (hN : W0.heap.size ≤ N) (i : Nat) : BSt N W0 v m n (GG.setB B i) (W.setCell ⟨N + 2, i, none⟩ (.bool true)) := by
  refine ⟨?_, ?_, ?_, h.been.set i, ?_, h.below.setCell (by simp; omega) _, by simpa using h.size⟩
  · rw [blk_set_other _ _ _ _ (by simp)]; exact h.toC
  · rw [blk_set_other _ _ _ _ (by simp)]; exact h.mC
  · rw [blk_set_other _ _ _ _ (by simp)]; exact h.bV
  · rw [blk_set_other _ _ _ _ (by simp)]; exact h.vis
set_option maxRecDepth 100000 in
set_option maxHeartbeats 1600000 in
theorem bvisit_any {N : Nat} {W0 : World} {v : Value} {to : List (List Int)} {m : Int} (hN : N = W0.heap.size) (hr : GG.rightG to = true) (hv : GraphM N W0 v to) (f : Nat) : ∀ (i : Nat) (B : Nat → Bool) (W : World), i < to.length → GG.unv to.length B < f → BSt N W0 v m to.length B W →
    Calls Try.prog 68 #[.int .i64 i, .pointer (some ⟨N + 1, 0, none⟩), .pointer (some ⟨N + 3, 0, none⟩), .pointer (some ⟨N, 0, none⟩), .pointer (some ⟨N + 4, 0, none⟩)] W
      fun e W' => e = .returned (.tuple #[]) ∧ BSt N W0 v m to.length (DD.dfm to m f i B) W' := by
  subst hN
  induction f with
  | zero => intro i B W _ hu; exact absurd hu (Nat.not_lt_zero _)
  | succ f ih =>
    intro i B W hi hu hS
    have hlen := GG.right_len hr
    have hcm := cell_of_one hS.mC
    have hcb := cell_of_one hS.bV
    have hc0 := World.rowIs.cell hS.been hi
    have i1 : (0 : Int) ≤ i ∧ (i : Int) < to.length := by omega
    by_cases him : (i : Int) = m
    · have hq : ((i : Int) == m) = true := by rw [him]; exact beq_self_eq_true _
      have HS := Lib.hid hS
      have HD := Lib.hid (DD.dfm_at to (f + 1) B him)
      clear hS hv ih hu him
      go_enter Try.func68, Try.ntmps68
      go_wp2_with fail
      exact bodyPost_ret (v := .tuple #[]) (results_none rfl _ _ _) rfl ⟨rfl, by rw [HD.out]; exact HS.out⟩
    · have hq : ((i : Int) == m) = false := beq_eq_false_iff_ne.2 him
      cases hB : B i
      · have HM := Lib.hid (hS.mark (Nat.le_refl _) i)
        have hf0 := World.rowIs.frozen hS.been i
        rw [hB] at hc0
        have hct := cell_of_one HM.out.toC
        obtain ⟨vb, vo, vc, e1⟩ := hv.addr (by omega)
        subst e1
        obtain ⟨ra, rac, hx1, hrx⟩ := (hv.below HM.out.below).at hi
        have b1 : (to[i]?.getD []).length ≤ 17592186044416 := by have := GG.row_len (GG.right_at hr hi); omega
        have HR := Lib.hid (GG.right_at hr hi)
        have HG := Lib.hid (fun (k : Nat) (hk : k < (to[i]?.getD []).length) => GG.adj_get hk)
        have HAL := Lib.hid (GG.adj_len to i)
        obtain ⟨r, er⟩ : ∃ r, r = to[i]?.getD [] := ⟨_, rfl⟩
        rw [← er] at hx1 hrx b1 HR HG HAL
        have HRX := Lib.hid hrx
        have HU := Lib.hid (fun k => DD.partM_unv (to := to) (m := m) k hi hB hu)
        have HALL := Lib.hid (fun k hk => DD.partM_all (to := to) (m := m) (f := f) (i := i) (k := k) him hB hk)
        have HIH := Lib.hid ih
        have HZ := Lib.hid (DD.partM_zero to m f i B)
        have HST0 := Lib.hid (fun q j h => DD.partM_succ (to := to) (m := m) (f := f) (i := i) (k := q) (j := j) B h)
        clear hS hv hB ih hu er hrx him
        go_enter Try.func68, Try.ntmps68
        go_wp2_with fail
        go_loopw [25] (fun k wr => ∃ q : Nat, q ≤ r.length ∧ k = .int .i64 (q : Int) ∧ BSt W0.heap.size W0 (.slice (some ⟨vb, vo, none⟩) to.length vc) m to.length (DD.partM to m f i q B) wr) (fun k _ => r.length - (intOf k).toNat)
        case atStart => exact ⟨0, Nat.zero_le _, rfl, by rw [HZ.out]; exact HM.out⟩
        case round =>
          obtain ⟨q, hq, rfl, hP⟩ := hrel
          have HP := Lib.hid hP
          clear hP
          by_cases hqt : q < r.length
          · have hcv := cell_of_one HP.out.vis
            obtain ⟨xb2, xo2, rfl, hx2⟩ := (HRX.out.of_both HM.out.below HP.out.below).cellAt hqt
            have i3 : (0 : Int) ≤ q ∧ (q : Int) < r.length := by omega
            have HX := Lib.hid (GG.row_in HR.out _ (GG.getD_mem (d := 0) hqt))
            have HST := Lib.hid (HST0.out q _ (HG.out q hqt))
            obtain ⟨x, ex⟩ : ∃ x, x = r[q]?.getD 0 := ⟨_, rfl⟩
            rw [← ex] at hx2 HX HST
            clear ex
            obtain ⟨y, rfl⟩ : ∃ y : Nat, x = (y : Int) := ⟨x.toNat, by have := HX.out; omega⟩
            have HY := Lib.hid (show y < to.length by have := HX.out; omega)
            go_wp2_with (go_at_call 68; refine (HIH.out y _ _ HY.out (HU.out q) HP.out).mono ?_; rintro e w' ⟨rfl, hP'⟩; have HP' := Lib.hid hP'; clear hP')
            go_roundw
            case rel => exact ⟨q + 1, by omega, by go_num, by rw [HST.out, Int.toNat_natCast]; exact HP'.out⟩
            case measure => simp [intOf]; omega
          · have HE := Lib.hid (HALL.out q (by have := HAL.out; omega))
            go_wp2_with fail
            go_end0
            exact ⟨rfl, by rw [HE.out]; exact HP.out⟩
      · rw [hB] at hc0
        have HS := Lib.hid hS
        have HD := Lib.hid (show DD.dfm to m (f + 1) i B = B by unfold DD.dfm; rw [if_pos (.inr hB)])
        clear hS hv hB ih hu him
        go_enter Try.func68, Try.ntmps68
        go_wp2_with fail
        exact bodyPost_ret (v := .tuple #[]) (results_none rfl _ _ _) rfl ⟨rfl, by rw [HD.out]; exact HS.out⟩
end Go.Proofs.Ytbdmpilaeoclgaa
