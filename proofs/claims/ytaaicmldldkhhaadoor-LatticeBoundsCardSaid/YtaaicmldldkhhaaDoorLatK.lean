import Derived.Test.YtaaicmldldkhhaaDoorLatC
import Derived.Deep.OwnRows
import Derived.Deep.LoopGhost
import Derived.StillTailTactics
import Derived.Deep.QuietTactic
import Derived.BigQuiet
/-! the walk of layer 5's reference: Close -/
namespace Go.Proofs.YtaaicmldldkhhaaDoor
set_option linter.unusedVariables false
open Go.RowKit

theorem Tryd.infoU64 : (Tryd.prog.info? 45).map (fun i => (i.zero, i.size, i.bytes)) = some (some (.int .u64 0), 1, 8) := by kernel_rfl
/-- the call's own row of masks -/
def Row5 (g n : Nat) (S : List Int) (w : World) : Prop := w.ownsRow g 45 1 (.slice (some ⟨g, 0, none⟩) n n) n (S.map (Value.int .u64))
theorem Row5.made (w : World) (n : Nat) (hn : n ≤ maxLen) : Row5 w.heap.size n (List.replicate n 0) (w.alloc (.cells (madeCells #[Value.int .u64 0] n) 45)) := by
  have h := World.ownsRow_lit (base := w.heap.size) (e := 45) (size := 1) w (madeCells #[Value.int .u64 0] n) n (Nat.le_refl _) hn (by rw [size_madeCells]; omega)
  rw [toList_madeCells_one] at h
  unfold Row5
  rw [List.map_replicate]
  exact h
theorem Row5.cell {g n : Nat} {S : List Int} {w : World} (h : Row5 g n S w) (hl : S.length = n) {i : Nat} (hi : i < n) : w.cell? ⟨g, i, none⟩ = some (.int .u64 (S[i]?.getD 0)) := by
  have := World.ownsRow.cellAt h i (by omega)
  rw [this, List.getElem?_map, List.getElem?_eq_getElem (by omega)]
  rfl
theorem Row5.frozen {g n : Nat} {S : List Int} {w : World} (h : Row5 g n S w) (i : Nat) : w.frozen? ⟨g, i, none⟩ = false := World.ownsRow.frozenAt h i
theorem Row5.set {g n : Nat} {S : List Int} {w : World} (h : Row5 g n S w) (i : Nat) (x : Int) : Row5 g n (S.set i x) (w.setCell ⟨g, i, none⟩ (.int .u64 x)) := by
  have := (World.ownsRow.stored h i (.int .u64 x)).1
  unfold Row5
  rw [List.map_set]
  exact this
theorem Row5.nums {g n : Nat} {S : List Int} {w : World} (h : Row5 g n S w) (hl : S.length = n) : Nums .u64 w.heap.size w (.slice (some ⟨g, 0, none⟩) n n) S := by
  subst hl
  exact nums_of_row h
theorem Row5.drewN {g n : Nat} {S : List Int} {w : World} (h : Row5 g n S w) (d : Nat) : Row5 g n S (w.drewN d) := h

/-- pairs that came in: a slice of arrays of two numbers, in a block below n₀ -/
def Prs (n₀ : Nat) (W : World) (v : Value) (ps : List (Nat × Nat)) : Prop :=
  ((∃ a cap, v = .slice a 0 cap) ∧ ps = []) ∨ ∃ b off cap, v = .slice (some ⟨b, off, none⟩) ps.length cap ∧ b < n₀ ∧ ps.length ≤ cap ∧
    ∀ j, j < ps.length → W.cell? ⟨b, off + j * 2, none⟩ = some (.int .i64 ((ps[j]?.getD (0, 0)).1 : Int)) ∧ W.cell? ⟨b, off + j * 2 + 1, none⟩ = some (.int .i64 ((ps[j]?.getD (0, 0)).2 : Int))

/-- each level in its own mask, of the first k -/
def ones5 (n k : Nat) : List Int := (List.range n).map (fun j => if j < k then MM.bitI (j : Int) else 0)
theorem ones5_zero (n : Nat) : List.replicate n (0 : Int) = ones5 n 0 := by
  unfold ones5
  apply List.ext_getElem?
  intro j
  by_cases hj : j < n
  · rw [List.getElem?_replicate, if_pos hj, List.getElem?_map, List.getElem?_range hj]; rfl
  · rw [List.getElem?_eq_none (by simp; omega), List.getElem?_eq_none (by simp; omega)]
theorem ones5_len (n k : Nat) : (ones5 n k).length = n := by unfold ones5; simp
theorem ones5_step (n k : Nat) (h : k < n) : (ones5 n k).set k (MM.bitI (k : Int)) = ones5 n (k + 1) := by
  unfold ones5
  apply List.ext_getElem?
  intro j
  rw [List.getElem?_set]
  by_cases hj : j < n
  · rw [List.getElem?_map, List.getElem?_map, List.getElem?_range hj]
    by_cases e : k = j
    · subst e; simp [h]
    · rw [if_neg e]
      simp only [Option.map_some]
      by_cases hk : j < k
      · rw [if_pos hk, if_pos (by omega)]
      · rw [if_neg hk, if_neg (by omega)]
  · rw [if_neg (by omega), List.getElem?_eq_none (by simp; omega), List.getElem?_eq_none (by simp; omega)]
/-- .. and the first k of the pairs -/
def with5 (S : List Int) (p : Nat × Nat) : List Int := S.set p.1 (MM.withI (S[p.1]?.getD 0) (p.2 : Int))
def pairs5 (n : Nat) (ps : List (Nat × Nat)) (k : Nat) : List Int := (ps.take k).foldl with5 (ones5 n n)
theorem pairs5_step (n : Nat) (ps : List (Nat × Nat)) (k : Nat) (h : k < ps.length) : with5 (pairs5 n ps k) (ps[k]?.getD (0, 0)) = pairs5 n ps (k + 1) := by
  unfold pairs5
  rw [List.take_succ_eq_append_getElem h, List.foldl_append, List.getElem?_eq_getElem h]; rfl
theorem pairs5_len (n : Nat) (ps : List (Nat × Nat)) (k : Nat) : (pairs5 n ps k).length = n := by
  unfold pairs5
  have : ∀ (l : List (Nat × Nat)) (S : List Int), S.length = n → (l.foldl with5 S).length = n := by
    intro l
    induction l with
    | nil => intro S h; exact h
    | cons p l ih => intro S h; exact ih _ (by unfold with5; rw [List.length_set]; exact h)
  exact this _ _ (ones5_len n n)

theorem ones5_wide (n : Nat) : Wide (ones5 n n) := by
  intro x hx
  unfold ones5 at hx
  obtain ⟨j, _, rfl⟩ := List.mem_map.1 hx
  have := MM.bitI_bd (j : Int)
  split <;> omega
theorem pairs5_wide (n : Nat) (ps : List (Nat × Nat)) (k : Nat) : Wide (pairs5 n ps k) := by
  unfold pairs5
  have : ∀ (l : List (Nat × Nat)) (S : List Int), Wide S → Wide (l.foldl with5 S) := by
    intro l
    induction l with
    | nil => intro S h; exact h
    | cons p l ih =>
      intro S h
      refine ih _ ?_
      unfold with5
      have b := MM.withI_bd (S[p.1]?.getD 0) (p.2 : Int) (h.at _).1 (h.at _).2
      exact LL.wide_set h _ _ b.1 b.2
  exact this _ _ (ones5_wide n)

theorem has_withI (m : Int) (i j : Nat) (m0 : 0 ≤ m) (hi : i < 64) (hj : j < 64) : MM.hasB (MM.withI m (i : Int)) (j : Int) = (MM.hasB m (j : Int) || decide (i = j)) := by
  unfold MM.hasB MM.withI
  rw [if_pos (by omega), Int.toNat_natCast, Int.toNat_natCast, Int.toNat_natCast, Nat.testBit_or, Nat.testBit_two_pow, decide_eq_true (show 0 ≤ (j : Int) ∧ (j : Int) < 64 by omega), Bool.true_and, Bool.true_and]
theorem hasB_out (m : Int) (j : Nat) (hj : ¬ j < 64) : MM.hasB m (j : Int) = false := by
  unfold MM.hasB; rw [decide_eq_false (by omega), Bool.false_and]
theorem has_bitI (i j : Nat) (hi : i < 64) : MM.hasB (MM.bitI (i : Int)) (j : Int) = decide (i = j) := by
  by_cases hj : j < 64
  · unfold MM.hasB
    rw [MM.bitI_in (by omega) (by omega), Int.toNat_natCast, Int.toNat_natCast, Int.toNat_natCast, Nat.testBit_two_pow, decide_eq_true (show 0 ≤ (j : Int) ∧ (j : Int) < 64 by omega), Bool.true_and]
  · rw [hasB_out _ _ hj, decide_eq_false (by omega)]
theorem ab_ones (n i j : Nat) (hn : n ≤ 64) (hi : i < n) : LL.ab (ones5 n n) i j = decide (i = j) := by
  unfold LL.ab ones5
  rw [List.getElem?_map, List.getElem?_range hi]
  simp only [Option.map_some, Option.getD_some, if_pos hi]
  exact has_bitI i j (by omega)
theorem ab_with (S : List Int) (n : Nat) (p : Nat × Nat) (i j : Nat) (hw : Wide S) (hl : S.length = n) (hn : n ≤ 64) (h1 : p.1 < n) (h2 : p.2 < n) :
    LL.ab (with5 S p) i j = true ↔ LL.ab S i j = true ∨ (i, j) = p := by
  obtain ⟨p1, p2⟩ := p
  simp only at h1 h2
  unfold LL.ab with5
  rw [LL.get_set _ _ _ _ (by rw [hl]; exact h1)]
  by_cases e : i = p1
  · subst e
    rw [if_pos rfl]
    by_cases hj : j < 64
    · rw [has_withI _ _ _ (hw.at i).1 (by omega) hj, Bool.or_eq_true, decide_eq_true_eq]
      constructor
      · rintro (h | h)
        · exact .inl h
        · exact .inr (by have h' : p2 = j := h; rw [h'])
      · rintro (h | h)
        · exact .inl h
        · exact .inr (Prod.mk.inj h).2.symm
    · rw [hasB_out _ _ hj, hasB_out _ _ hj]
      have : j ≠ p2 := by omega
      simp [this]
  · rw [if_neg e]
    simp [e]
theorem ab_pairs (n : Nat) (ps : List (Nat × Nat)) (hn : n ≤ 64) (hp : ∀ p ∈ ps, p.1 < n ∧ p.2 < n) : ∀ k, k ≤ ps.length → ∀ i j, i < n → (LL.ab (pairs5 n ps k) i j = true ↔ i = j ∨ (i, j) ∈ ps.take k) := by
  intro k
  induction k with
  | zero =>
    intro _ i j hi
    show LL.ab (ones5 n n) i j = true ↔ _
    rw [ab_ones n i j hn hi]; simp
  | succ k ih =>
    intro hk i j hi
    have hmem : ps[k] ∈ ps := List.getElem_mem (by omega)
    rw [← pairs5_step n ps k (by omega), List.getElem?_eq_getElem (by omega : k < ps.length)]
    simp only [Option.getD_some]
    rw [ab_with _ n _ i j (pairs5_wide n ps k) (pairs5_len n ps k) hn (hp _ hmem).1 (hp _ hmem).2, ih (by omega) i j hi, List.take_succ_eq_append_getElem (by omega : k < ps.length), List.mem_append, List.mem_singleton, or_assoc]
theorem pairs5_inv (n : Nat) (ps : List (Nat × Nat)) (hn : n ≤ 64) (hp : ∀ p ∈ ps, p.1 < n ∧ p.2 < n) : LL.Inv n ps (pairs5 n ps ps.length) ∧ LL.Comp n ps (pairs5 n ps ps.length) := by
  have h := ab_pairs n ps hn hp ps.length (Nat.le_refl _)
  rw [List.take_of_length_le (Nat.le_refl _)] at h
  refine ⟨⟨pairs5_len n ps _, pairs5_wide n ps _, fun i k hi e => ?_⟩, fun i hi => (h i i hi).2 (.inl rfl), fun p hm => (h p.1 p.2 (hp p hm).1).2 (.inr hm)⟩
  rcases (h i k hi).1 e with rfl | hm
  · exact ⟨hi, .refl⟩
  · exact ⟨(hp _ hm).2, .one hm⟩
theorem Prs.at {n₀ : Nat} {W : World} {a : Option Addr} {cap : Nat} {ps : List (Nat × Nat)} (h : Prs n₀ W (.slice a ps.length cap) ps) (h0 : 0 < ps.length) :
    ∃ b off, a = some ⟨b, off, none⟩ ∧ b < n₀ ∧ ∀ j, j < ps.length → W.cell? ⟨b, off + j * 2, none⟩ = some (.int .i64 ((ps[j]?.getD (0, 0)).1 : Int)) ∧ W.cell? ⟨b, off + j * 2 + 1, none⟩ = some (.int .i64 ((ps[j]?.getD (0, 0)).2 : Int)) := by
  rcases h with ⟨_, rfl⟩ | ⟨b, off, cap', e, hb, _, hc⟩
  · exact absurd h0 (by simp)
  · simp only [Value.slice.injEq] at e
    exact ⟨b, off, e.1, hb, hc⟩
theorem Prs.form {n₀ : Nat} {W : World} {v : Value} {ps : List (Nat × Nat)} (h : Prs n₀ W v ps) : ∃ a cap, v = .slice a ps.length cap := by
  rcases h with ⟨⟨a, cap, rfl⟩, rfl⟩ | ⟨b, off, cap, rfl, _⟩
  · exact ⟨_, _, rfl⟩
  · exact ⟨_, _, rfl⟩

theorem rwith_st (m i : Int) (w : World) (h : 0 ≤ m ∧ m ≤ 18446744073709551615) :
    Calls Tryd.prog 52 #[.int .u64 m, .int .i64 i] w fun e w' => e = .returned (.int .u64 (MM.withI m i)) ∧ w' = w :=
  (rwith_any m i w h.1 h.2).mono fun e w' h => ⟨h.1, h.2.symm⟩

set_option maxRecDepth 100000 in
set_option maxHeartbeats 1600000 in
theorem rclose_any (v : Value) (ps : List (Nat × Nat)) (n₀ n : Nat) (w : World) (hv : Prs n₀ w v ps) (hn : 1 ≤ n) (hn1 : n ≤ 64) (hp : ∀ p ∈ ps, p.1 < n ∧ p.2 < n) (hb : n₀ ≤ w.heap.size) (hl : ps.length ≤ 9223372036854775807) :
    Calls Tryd.prog 36 #[.int .i64 n, v] w fun e w' => ∃ S, e = .returned (.slice (some ⟨w.heap.size, 0, none⟩) n n) ∧ LL.IsClose n ps S ∧ Row5 w.heap.size n S w' ∧ Below w.heap.size w w' := by
  have hmk := run_make_row' (P := Tryd.prog) 23 45 (.int .u64 0) 8 Tryd.underlying23 Tryd.infoU64 rfl .i64 .i64 n (by omega) (by omega)
  have HV := Lib.hid hv
  have HP := Lib.hid hp
  obtain ⟨a, cap, rfl⟩ := hv.form
  have hR0 := Row5.made w n (by unfold maxLen; omega)
  rw [ones5_zero] at hR0
  have hB0 : Below w.heap.size w (w.alloc (.cells (madeCells #[Value.int .u64 0] n) 45)) := (Below.refl _ _).alloc (Nat.le_refl _) _
  clear hv hp
  go_enter Tryd.func36, Tryd.ntmps36
  go_wp2_with fail
  clear hmk
  go_loopw [6] (fun i wr => ∃ k : Nat, k ≤ n ∧ i = .int .i64 (k : Int) ∧ Row5 w.heap.size n (ones5 n k) wr ∧ Below w.heap.size w wr) (fun i _ => n - (intOf i).toNat)
  case atStart => exact ⟨0, Nat.zero_le _, rfl, hR0, hB0⟩
  case round =>
    obtain ⟨k, hk, rfl, hR, hB⟩ := hrel
    clear hR0 hB0
    by_cases hlt : k < n
    · have HR := Lib.hid hR
      have hc := hR.cell (ones5_len n k) hlt
      have hf := hR.frozen k
      have i1 : (0 : Int) ≤ k ∧ (k : Int) < n := by omega
      have HS := Lib.hid (ones5_step n k hlt)
      clear hR
      go_wp2_with (go_at_call 51; refine (rone_any _ _).mono ?_; rintro e w' ⟨rfl, rfl⟩)
      go_roundw
      case rel => exact ⟨k + 1, by omega, by go_num, HS.out ▸ HR.out.set k _, hB.setCell (p := ⟨w.heap.size, k, none⟩) (Nat.le_refl _) _⟩
      case measure => simp [intOf]; omega
    · have hR1 : Row5 w.heap.size n (pairs5 n ps 0) wr := by
        obtain rfl : k = n := by omega
        exact hR
      clear hR hk hn
      go_wp2_with fail
      go_loopw [7] (fun i wr => ∃ q : Nat, q ≤ ps.length ∧ i = .int .i64 (q : Int) ∧ Row5 w.heap.size n (pairs5 n ps q) wr ∧ Below w.heap.size w wr) (fun i _ => ps.length - (intOf i).toNat)
      case atStart => exact ⟨0, Nat.zero_le _, rfl, hR1, hB⟩
      case round =>
        obtain ⟨q, hq, rfl, hR2, hB2⟩ := hrel
        clear hR1 hB
        by_cases hlq : q < ps.length
        · have HR := Lib.hid hR2
          have hst := pairs5_step n ps q hlq
          obtain ⟨b, off, rfl, hbk, hc⟩ := HV.out.at (by omega)
          have hcc := hc q hlq
          clear hc
          have hmem : ps[q]?.getD (0, 0) ∈ ps := by rw [List.getElem?_eq_getElem hlq]; exact List.getElem_mem hlq
          have hlt2 := HP.out _ hmem
          generalize ps[q]?.getD (0, 0) = pr at hst hcc hlt2
          obtain ⟨p1, p2⟩ := pr
          have hx1 : wr.cell? ⟨b, off + q * 2, none⟩ = some (.int .i64 (p1 : Int)) := (hB2.cell (p := ⟨b, off + q * 2, none⟩) (by show b < w.heap.size; omega)).trans hcc.1
          have hx2 : wr.cell? ⟨b, off + q * 2 + 1, none⟩ = some (.int .i64 (p2 : Int)) := (hB2.cell (p := ⟨b, off + q * 2 + 1, none⟩) (by show b < w.heap.size; omega)).trans hcc.2
          have hlt1 : p1 < n := hlt2.1
          have hcu := hR2.cell (pairs5_len n ps q) hlt1
          have hfu := hR2.frozen p1
          have bu := (pairs5_wide n ps q).at p1
          have HU := Lib.hid bu
          have HS := Lib.hid (show (pairs5 n ps q).set p1 (MM.withI ((pairs5 n ps q)[p1]?.getD 0) (p2 : Int)) = pairs5 n ps (q + 1) from hst)
          clear hst hcc hmem hlt2 hR2 bu
          obtain ⟨mu, hmu⟩ : ∃ m, (pairs5 n ps q)[p1]?.getD 0 = m := ⟨_, rfl⟩
          rw [hmu] at hcu HS HU
          clear hmu
          have i1 : (0 : Int) ≤ q ∧ (q : Int) < ps.length := by omega
          have i2 : (0 : Int) ≤ p1 ∧ (p1 : Int) < n := by omega
          go_wp2_with fail
          refine wp_region_still_tail 21 (by kernel_rfl) (by kernel_rfl) ?_
          simp only [List.take_succ_cons, List.take_zero, List.drop_succ_cons, List.drop_zero]
          iterate 19 still_step
          still_call (rwith_st mu _ _ HU.out)
          still_step
          refine wpStill_nil ?_
          change wpList _ _ _ _ _ wr.drew
          have HR3 := Lib.hid (show Row5 w.heap.size n (pairs5 n ps q) wr.drew from HR.out)
          have hB3 : Below w.heap.size w wr.drew := hB2.trans ⟨rfl, rfl, rfl, Nat.le_refl _, fun _ _ => rfl⟩
          have hfu3 := HR3.out.frozen p1
          have hcu3 : wr.drew.cell? ⟨w.heap.size, p1, none⟩ = some (.int .u64 mu) := hcu
          clear hcu hfu hx1 hx2 hB2 HR
          generalize wr.drew = w2 at HR3 hB3 hfu3 hcu3 ⊢
          go_wp2_with fail
          go_roundw
          case rel => exact ⟨q + 1, by omega, by go_num, HS.out ▸ HR3.out.set p1 _, hB3.setCell (p := ⟨w.heap.size, p1, none⟩) (Nat.le_refl _) _⟩
          case measure => simp [intOf]; omega
        · have hR3 : Row5 w.heap.size n (pairs5 n ps ps.length) wr := by
            obtain rfl : q = ps.length := by omega
            exact hR2
          clear hR2 hq HV
          have HI0 := Lib.hid (pairs5_inv n ps hn1 HP.out)
          have hBq := hB2
          clear hB2
          go_wp2_with fail
          clear HP
          go_loopg [8] (LL.far (pairs5 n ps ps.length) + 1) (fun gn a wr => ∃ (S : List Int) (t : Bool), a = .bool t ∧ Row5 w.heap.size n S wr ∧ Below w.heap.size w wr ∧
            RowKit.Hid (LL.Inv n ps S ∧ LL.Comp n ps S ∧ ((t = true ∧ gn = LL.far S + 1) ∨ (t = false ∧ gn = 0 ∧ LL.Closed n S))))
          case atStart => exact ⟨_, true, rfl, hR3, hBq, Lib.hid ⟨HI0.out.1, HI0.out.2, .inl ⟨rfl, rfl⟩⟩⟩
          case round =>
            obtain ⟨Sr, t, rfl, hRr, hBr, HH⟩ := hrel
            clear hR3 hBq HI0
            cases t
            · have HZ := Lib.hid (show LL.IsClose n ps Sr by
                obtain ⟨h1, h2, h | h⟩ := HH.out
                · cases h.1
                · exact LL.close_of h1 h2 h.2.2)
              go_wp2_with fail
              go_ret
              exact ⟨rfl, Sr, HZ.out, hRr, hBr⟩
            · have HG := Lib.hid (show gk = LL.far Sr + 1 by
                obtain ⟨_, _, h | h⟩ := HH.out
                · exact h.2
                · cases h.1)
              go_wp2_with fail
              go_loopw [8, 9] (fun a i wr => ∃ (k : Nat) (S : List Int) (t : Bool), k ≤ n ∧ i = .int .i64 (k : Int) ∧ a = .bool t ∧ Row5 w.heap.size n S wr ∧ Below w.heap.size w wr ∧
                RowKit.Hid (LL.Inv n ps S ∧ LL.Comp n ps S ∧ ((t = false ∧ S = Sr ∧ ∀ i', i' < k → ∀ j, j < n → LL.closedAt Sr i' j = true) ∨ (t = true ∧ LL.far S < LL.far Sr)))) (fun _ i _ => n - (intOf i).toNat)
              case atStart => exact ⟨0, Sr, false, Nat.zero_le _, rfl, rfl, hRr, hBr, Lib.hid ⟨HH.out.1, HH.out.2.1, .inl ⟨rfl, rfl, fun i' hi => absurd hi (Nat.not_lt_zero _)⟩⟩⟩
              case round =>
                obtain ⟨k, S, t, hk, rfl, rfl, hR4, hB4, HH4⟩ := hrel
                clear hRr hBr HH
                by_cases hkn : k < n
                · go_wp2_with fail
                  go_loopw [8, 10] (fun a i wr => ∃ (q : Nat) (S : List Int) (t : Bool), q ≤ n ∧ i = .int .i64 (q : Int) ∧ a = .bool t ∧ Row5 w.heap.size n S wr ∧ Below w.heap.size w wr ∧
                    RowKit.Hid (LL.Inv n ps S ∧ LL.Comp n ps S ∧ ((t = false ∧ S = Sr ∧ (∀ i', i' < k → ∀ j, j < n → LL.closedAt Sr i' j = true) ∧ ∀ j, j < q → LL.closedAt Sr k j = true) ∨ (t = true ∧ LL.far S < LL.far Sr)))) (fun _ i _ => n - (intOf i).toNat)
                  case atStart => exact ⟨0, S, t, Nat.zero_le _, rfl, rfl, hR4, hB4, Lib.hid ⟨HH4.out.1, HH4.out.2.1, HH4.out.2.2.imp (fun h => ⟨h.1, h.2.1, h.2.2, fun j hj => absurd hj (Nat.not_lt_zero _)⟩) id⟩⟩
                  case round =>
                    obtain ⟨q, S, t, hq, rfl, rfl, hR5, hB5, HH5⟩ := hrel
                    clear hR4 hB4 HH4
                    by_cases hqn : q < n
                    · have hlen : S.length = n := HH5.out.1.1
                      have HV := Lib.hid (hR5.nums hlen)
                      have HX := Lib.hid HH5.out.1.2.1
                      have HR := Lib.hid hR5
                      have HL := Lib.hid hlen
                      cases h1 : LL.ab S k q
                      · have H1 := Lib.hid h1
                        have HW := Lib.hid (show LL.Inv n ps S ∧ LL.Comp n ps S ∧ ((t = false ∧ S = Sr ∧ (∀ i', i' < k → ∀ j, j < n → LL.closedAt Sr i' j = true) ∧ ∀ j, j < q + 1 → LL.closedAt Sr k j = true) ∨ (t = true ∧ LL.far S < LL.far Sr)) from
                          LL.next_closed HH5.out (by unfold LL.closedAt; rw [h1]; rfl))
                        clear h1 hlen HH5
                        go_wp2_with fail
                        go_quiet ((go_at_call 23; exact abv_q0 HV HX H1 (by have := HL.out; omega) _))
                        go_wp2_with fail
                        go_roundw
                        case rel => exact ⟨q + 1, S, t, by omega, by go_num, rfl, HR.out.drewN nq, hB5.trans ⟨rfl, rfl, rfl, Nat.le_refl _, fun _ _ => rfl⟩, HW⟩
                        case measure => simp [intOf]; omega
                      · have H1 := Lib.hid h1
                        have hck := hR5.cell hlen hkn
                        have hcq := hR5.cell hlen hqn
                        have hfk := hR5.frozen k
                        have i1 : (0 : Int) ≤ k ∧ (k : Int) < n := by omega
                        have i2 : (0 : Int) ≤ q ∧ (q : Int) < n := by omega
                        cases h5 : (bits .or .u64 (S[k]?.getD 0) (S[q]?.getD 0) == S[k]?.getD 0)
                        · have HW := Lib.hid (LL.next_or hkn HH5.out h1 h5)
                          generalize hmk : S[k]?.getD 0 = mk at hck h5 HW
                          generalize hmq : S[q]?.getD 0 = mq at hcq h5 HW
                          have h5' : (bits .or .u64 mk mq != mk) = true := by rw [bne, h5]; rfl
                          clear h1 hlen HH5 hmk hmq hR5
                          go_wp2_with fail
                          go_quiet ((go_at_call 23; exact abv_q0 HV HX H1 (by have := HL.out; omega) _))
                          have HR6 := Lib.hid (show Row5 w.heap.size n S (wr.drewN nq) from HR.out)
                          have hB6 : Below w.heap.size w (wr.drewN nq) := hB5.trans ⟨rfl, rfl, rfl, Nat.le_refl _, fun _ _ => rfl⟩
                          have hck6 : (wr.drewN nq).cell? ⟨w.heap.size, k, none⟩ = some (.int .u64 mk) := hck
                          have hcq6 : (wr.drewN nq).cell? ⟨w.heap.size, q, none⟩ = some (.int .u64 mq) := hcq
                          have hfk6 : (wr.drewN nq).frozen? ⟨w.heap.size, k, none⟩ = false := hfk
                          clear hck hcq hfk hB5 HR HV
                          generalize wr.drewN nq = w6 at HR6 hB6 hck6 hcq6 hfk6 ⊢
                          go_wp2_with fail
                          go_still_tail 12, (by kernel_rfl)
                          change wpList _ _ _ _ _ w6.drew
                          have HR7 := Lib.hid (show Row5 w.heap.size n S w6.drew from HR6.out)
                          have hB7 : Below w.heap.size w w6.drew := hB6.trans ⟨rfl, rfl, rfl, Nat.le_refl _, fun _ _ => rfl⟩
                          have hck7 : w6.drew.cell? ⟨w.heap.size, k, none⟩ = some (.int .u64 mk) := hck6
                          have hfk7 : w6.drew.frozen? ⟨w.heap.size, k, none⟩ = false := hfk6
                          clear hck6 hcq6 hfk6 hB6 HR6
                          generalize w6.drew = w7 at HR7 hB7 hck7 hfk7 ⊢
                          go_wp2_with fail
                          go_roundw
                          case rel => exact ⟨q + 1, S.set k (bits .or .u64 mk mq), true, by omega, by go_num, rfl, HR7.out.set k _, hB7.setCell (p := ⟨w.heap.size, k, none⟩) (Nat.le_refl _) _, Lib.hid ⟨HW.out.1, HW.out.2.1, .inr ⟨rfl, HW.out.2.2⟩⟩⟩
                          case measure => simp [intOf]; omega
                        · have HW := Lib.hid (LL.next_closed HH5.out (show LL.closedAt S k q = true by unfold LL.closedAt; rw [h1, h5]; rfl))
                          generalize S[k]?.getD 0 = mk at hck h5
                          generalize S[q]?.getD 0 = mq at hcq h5
                          have h5' : (bits .or .u64 mk mq != mk) = false := by rw [bne, h5]; rfl
                          clear h1 hlen HH5 hR5
                          go_wp2_with fail
                          go_quiet ((go_at_call 23; exact abv_q0 HV HX H1 (by have := HL.out; omega) _))
                          go_wp2_with fail
                          go_roundw
                          case rel => exact ⟨q + 1, S, t, by omega, by go_num, rfl, HR.out.drewN nq, hB5.trans ⟨rfl, rfl, rfl, Nat.le_refl _, fun _ _ => rfl⟩, HW⟩
                          case measure => simp [intOf]; omega
                    · have HW := Lib.hid (show LL.Inv n ps S ∧ LL.Comp n ps S ∧ ((t = false ∧ S = Sr ∧ ∀ i', i' < k + 1 → ∀ j, j < n → LL.closedAt Sr i' j = true) ∨ (t = true ∧ LL.far S < LL.far Sr)) from
                        ⟨HH5.out.1, HH5.out.2.1, HH5.out.2.2.imp (fun h => ⟨h.1, h.2.1, LL.all_row h.2.2.1 (fun j hj => h.2.2.2 j (by omega))⟩) id⟩)
                      clear HH5
                      go_wp2_with fail
                      go_roundw
                      case rel => exact ⟨k + 1, S, t, by omega, by go_num, rfl, hR5, hB5, HW⟩
                      case measure => simp [intOf]; omega
                · have HW := Lib.hid (show LL.Inv n ps S ∧ LL.Comp n ps S ∧ ((t = false ∧ LL.Closed n S) ∨ (t = true ∧ LL.far S < LL.far Sr)) by
                    obtain ⟨h1, h2, ⟨h3, h4, h5⟩ | h3⟩ := HH4.out
                    · refine ⟨h1, h2, .inl ⟨h3, ?_⟩⟩
                      rw [h4]
                      exact fun i' hi j hj => h5 i' (by omega) j hj
                    · exact ⟨h1, h2, .inr h3⟩)
                  clear HH4
                  go_wp2_with fail
                  cases t
                  · go_roundg 0
                    case measure => have := HG.out; omega
                    case rel => exact ⟨S, false, rfl, hR4, hB4, Lib.hid ⟨HW.out.1, HW.out.2.1, .inr ⟨rfl, rfl, HW.out.2.2.elim (fun h => h.2) (fun h => by cases h.1)⟩⟩⟩
                  · go_roundg (LL.far S + 1)
                    case measure => have := HG.out; have := HW.out.2.2.elim (fun h => by cases h.1) (fun h => h.2); omega
                    case rel => exact ⟨S, true, rfl, hR4, hB4, Lib.hid ⟨HW.out.1, HW.out.2.1, .inl ⟨rfl, rfl⟩⟩⟩
end Go.Proofs.YtaaicmldldkhhaaDoor
