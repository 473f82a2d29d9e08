import Derived.Test.YtaaicmldldkhhaaDoorLawLatticeCovers
set_option linter.unusedSimpArgs false
set_option linter.unusedVariables false
/-! LatticeChains: the walk -/
namespace Go.Proofs.YtaaicmldldkhhaaDoor
open Go.RowKit

theorem cell_four_new5 (W : World) (a b c d : Value) (t : TypeId) : ∀ j x, [a, b, c, d][j]? = some x → (W.alloc (.cells #[a, b, c, d] t)).cell? ((⟨W.heap.size, 0, none⟩ : Addr).add j) = some x := by
  intro j x hj
  match j, hj with
  | 0, hj => simp at hj; subst hj; simp [Addr.add]
  | 1, hj => simp at hj; subst hj; simp [Addr.add]
  | 2, hj => simp at hj; subst hj; simp [Addr.add]
  | 3, hj => simp at hj; subst hj; simp [Addr.add]
def chI (i : Nat) : List (Int × Int) := castP ((List.range i).map fun j => (j, j + 1))
def beI (k i : Nat) : List (Int × Int) := castP ((List.range i).flatMap fun j => [(0, j), (j, k - 1)])
theorem chI_len (i : Nat) : (chI i).length = i := by unfold chI; rw [castP_len]; simp
theorem beI_len (k i : Nat) : (beI k i).length = 2 * i := by
  unfold beI; rw [castP_len]
  induction i with
  | zero => rfl
  | succ i ih => rw [List.range_succ, List.flatMap_append, List.length_append, ih]; simp; omega
theorem cellsI_app (l m : List (Int × Int)) : cellsI (l ++ m) = cellsI l ++ cellsI m := by unfold cellsI; rw [List.flatMap_append]
theorem chI_succ (i : Nat) : cellsI (chI (i + 1)) = cellsI (chI i) ++ [.int .i64 (i : Int), .int .i64 ((i : Int) + 1)] := by
  unfold chI castP
  rw [List.range_succ, List.map_append, List.map_append, cellsI_app]
  simp [cellsI]
theorem beI_succ (k i : Nat) (hk : 1 ≤ k) : cellsI (beI k (i + 1)) = cellsI (beI k i) ++ [.int .i64 0, .int .i64 (i : Int), .int .i64 (i : Int), .int .i64 ((k : Int) - 1)] := by
  unfold beI castP
  rw [List.range_succ, List.flatMap_append, List.map_append, cellsI_app]
  have : ((k - 1 : Nat) : Int) = (k : Int) - 1 := by omega
  simp [cellsI, this]
theorem chI_one (i : Nat) (h : 0 < i) : (cellsI (chI i))[1]? = some (.int .i64 1) := by
  obtain ⟨i, rfl⟩ : ∃ j, i = j + 1 := ⟨i - 1, by omega⟩
  have := (cellsI_get (chI (i + 1)) 0).2
  rw [show 0 * 2 + 1 = 1 from rfl] at this
  rw [this]
  unfold chI castP
  simp
theorem beI_one (k i : Nat) (h : 0 < i) : (cellsI (beI k i))[1]? = some (.int .i64 0) := by
  induction i with
  | zero => omega
  | succ i ih =>
    by_cases e : i = 0
    · subst e; rfl
    · have h1 := (cellsI_get (beI k (i + 1)) 0).2
      have h2 := (cellsI_get (beI k i) 0).2
      rw [show 0 * 2 + 1 = 1 from rfl] at h1 h2
      rw [h2] at ih
      rw [h1, ← ih (by omega)]
      unfold beI castP
      rw [List.range_succ, List.flatMap_append, List.map_append, List.getElem?_append_left (by have := beI_len k i; unfold beI castP at this; omega)]
/-- rows that differ are different rows -/
theorem rows_apart {W : World} {b1 b2 : Nat} {e : TypeId} {v1 v2 : Value} {n1 n2 : Nat} {xs ys : List Value} {x y : Value} (h1 : W.ownsRow b1 e 2 v1 n1 xs) (h2 : W.ownsRow b2 e 2 v2 n2 ys)
    (hx : v1 = .slice none 0 0 ∨ xs[1]? = some x) (hy : v2 = .slice none 0 0 ∨ ys[1]? = some y) (hxy : x ≠ y) : v1.ownBlock = none ∨ v1.ownBlock ≠ v2.ownBlock := by
  have key : ∀ {cur : Array Value} {zs : List Value} {m : Nat} {z : Value}, cur.toList.take m = zs → zs[1]? = some z → cur.toList[1]? = some z := by
    intro cur zs m z h hz
    rw [← h] at hz
    have hm : 1 < m := by
      apply Classical.byContradiction; intro hn
      rw [List.getElem?_eq_none (by rw [List.length_take]; omega)] at hz
      cases hz
    rwa [List.getElem?_take_of_lt hm] at hz
  rcases h1.2 with ⟨rfl, _⟩ | ⟨g1, c1, r1, rfl, _, hg1, _, _, _, t1⟩
  · exact .inl rfl
  · rcases h2.2 with ⟨rfl, _⟩ | ⟨g2, c2, r2, rfl, _, hg2, _, _, _, t2⟩
    · exact .inr (by simp [Value.ownBlock])
    · refine .inr fun e => ?_
      obtain rfl : g1 = g2 := by simpa [Value.ownBlock] using e
      rw [hg1] at hg2
      cases hg2
      rcases hx with hx | hx
      · cases hx
      · rcases hy with hy | hy
        · cases hy
        · exact hxy (Option.some.inj ((key t1 hx).symm.trans (key t2 hy)))
theorem toPrs_cast (l : List (Nat × Nat)) : toPrs (castP l) = l := by
  unfold toPrs castP
  rw [List.map_map]
  conv => rhs; rw [← List.map_id l]
  exact List.map_congr_left fun p _ => by simp
theorem cast_ok {k : Nat} {l : List (Nat × Nat)} (hl : ∀ p ∈ l, p.1 < k ∧ p.2 < k) : ∀ p ∈ castP l, pairOk k p = true := by
  intro p hp
  unfold castP at hp
  obtain ⟨q, hq, rfl⟩ := List.mem_map.1 hp
  have := hl q hq
  unfold pairOk
  simp
  omega
theorem build_right {k m : Nat} {l : List (Nat × Nat)} {e : Ending} {W : World} (h : BuildP k (castP l) e W) (h1 : 1 ≤ k) (h2 : k ≤ 64) (hl : ∀ p ∈ l, p.1 < k ∧ p.2 < k) (hr : ∀ T, LL.IsClose k l T → LL.rightB T = true ∧ LL.heightN T = m) :
    ∃ (a : Option Addr) (cap : Nat) (T : List Int), e = .returned (.tuple #[.slice a T.length cap, .int .i64 0]) ∧ Nums .u64 W.heap.size W (.slice a T.length cap) T ∧ Wide T ∧ T.length ≤ big5 ∧ LL.rightB T = true ∧ LL.heightN T = m := by
  obtain ⟨v, S, q, rfl, hv, hw, hc⟩ := h
  have hok := cast_ok hl
  rcases hc with ⟨hbad, _⟩ | ⟨_, _, _, T, hT, hs⟩
  · exact absurd ⟨by omega, by omega, by rw [Int.toNat_natCast]; exact hok⟩ hbad
  · rw [Int.toNat_natCast, toPrs_cast] at hT
    obtain ⟨r1, r2⟩ := hr T hT
    rcases hs with ⟨_, rfl, rfl⟩ | ⟨r3, _⟩
    · obtain ⟨a, cap, rfl⟩ := hv.form
      exact ⟨a, cap, S, rfl, hv, hw, by rw [hT.1]; simp only [big5]; omega, r1, r2⟩
    · rw [r1] at r3; cases r3
theorem chain_ok (k : Nat) (h : 1 ≤ k) : ∀ p ∈ LL.chainPs k, p.1 < k ∧ p.2 < k := by
  intro p hp
  unfold LL.chainPs at hp
  obtain ⟨i, hi, rfl⟩ := List.mem_map.1 hp
  have := List.mem_range.1 hi
  exact ⟨by omega, by omega⟩
theorem beside_ok (k : Nat) (h : 1 ≤ k) : ∀ p ∈ LL.besidePs k, p.1 < k ∧ p.2 < k := by
  rintro ⟨i, j⟩ hp
  have := (LL.mem_beside k i j).1 hp
  exact ⟨by omega, by omega⟩

/-- what an append to one of two rows leaves -/
theorem two_rows {w wr w1 : World} {e : TypeId} {v u : Value} {n1 n2 : Nat} {xs ys : List Value} {x y : Value} {o : Obj} (hB : Below w.heap.size w wr) (h1 : wr.ownsRow w.heap.size e 2 v n1 xs) (h2 : wr.ownsRow w.heap.size e 2 u n2 ys)
    (hx : v = .slice none 0 0 ∨ xs[1]? = some x) (hy : u = .slice none 0 0 ∨ ys[1]? = some y) (hxy : y ≠ x) (hg : (wr.alloc o).grownBy w1 v.ownBlock) :
    w1.ownsRow w.heap.size e 2 u n2 ys ∧ Below w.heap.size w w1 := by
  refine ⟨(h2.alloc o).kept hg (rows_apart h2 h1 hy hx hxy), (hB.alloc hB.size o).grown hg (by have := hB.size; simp; omega) (fun j hj => (h1.lt j hj).1)⟩

set_option maxRecDepth 100000 in
set_option maxHeartbeats 1600000 in
theorem latticeChains_walk (hB : BuildC) (hH : HeightC) (n : Int) (hn0 : 0 ≤ n) (hn1 : n ≤ 255) (w : World) (hTz : Tz w) :
    Calls Tryd.prog 11 #[.int .u8 n] w fun e w' => e = .returned (.bool true) ∧ Below w.heap.size w w' := by
  have HBd := Lib.hid hB
  have HHt := Lib.hid hH
  clear hB hH
  obtain ⟨i0, hi, hz0, hz1, hz2⟩ := info_parts Tryd.infoPair
  go_enter Tryd.func11, Tryd.ntmps11
  go_wp2_with fail
  obtain ⟨k, hk, hk1, hk2⟩ : ∃ k : Nat, 1 + n % 64 = (k : Int) ∧ 1 ≤ k ∧ k ≤ 64 := ⟨(1 + n % 64).toNat, by omega, by omega, by omega⟩
  rw [hk]
  clear hk
  go_loopw [4, 5, 6] (fun o1 o2 q wr => ∃ i : Nat, i ≤ k - 1 ∧ q = .int .i64 (i : Int) ∧ RowKit.Hid (i = 0 → o1 = .slice none 0 0 ∧ o2 = .slice none 0 0) ∧ wr.ownsRow w.heap.size 40 2 o1 i (cellsI (chI i)) ∧ wr.ownsRow w.heap.size 40 2 o2 (2 * i) (cellsI (beI k i)) ∧ Below w.heap.size w wr) (fun _ _ q _ => k - (intOf q).toNat)
  case atStart => exact ⟨0, Nat.zero_le _, rfl, Lib.hid (fun _ => ⟨rfl, rfl⟩), ⟨rfl, .inl ⟨rfl, rfl⟩⟩, ⟨rfl, .inl ⟨rfl, rfl⟩⟩, Below.refl _ _⟩
  case round =>
    obtain ⟨i, hik, rfl, HZ, H1, H2, hBw⟩ := hrel
    by_cases hlt : i + 1 < k
    · have g1 : (i : Int) + 1 < k := by omega
      have HO1 := Lib.hid H1
      have HO2 := Lib.hid H2
      clear H1 H2
      have HX := Lib.hid (show u4 = .slice none 0 0 ∨ (cellsI (chI i))[1]? = some (.int .i64 1) from (Nat.eq_zero_or_pos i).elim (fun h => .inl (HZ.out h).1) (fun h => .inr (chI_one i h)))
      have HY := Lib.hid (show u5 = .slice none 0 0 ∨ (cellsI (beI k i))[1]? = some (.int .i64 0) from (Nat.eq_zero_or_pos i).elim (fun h => .inl (HZ.out h).2) (fun h => .inr (beI_one k i h)))
      clear HZ
      go_wp2_with (first
        | (at_builtin
           refine wpList_append_own _ rfl _ _ 22 rfl w.heap.size 40 i0 (.agg #[.int .i64 0, .int .i64 0]) 2 16 Tryd.underlying22 hi hz0 hz1 hz2 rfl (by decide) _ _ _ rfl (HO1.out.alloc _) ⟨wr.heap.size, 0, none⟩ 1 1 [.int .i64 (i : Int), .int .i64 ((i : Int) + 1)] rfl rfl (cell_two_new5 _ _ _ _) (by simp [Value.oneCell']) (by unfold maxLen; omega) (by omega) (by have := hBw.size; simp; omega) ?_
           intro v1 w1 hown' hgrow _
           have HA1 := Lib.hid hown'
           have HT1 := Lib.hid (two_rows hBw HO1.out HO2.out HX.out HY.out (by simp) hgrow)
           clear hown' hgrow HO2)
        | (at_builtin
           refine wpList_append_own _ rfl _ _ 22 rfl w.heap.size 40 i0 (.agg #[.int .i64 0, .int .i64 0]) 2 16 Tryd.underlying22 hi hz0 hz1 hz2 rfl (by decide) _ _ _ rfl (HT1.out.1.alloc _) ⟨w1.heap.size, 0, none⟩ 2 2 [.int .i64 0, .int .i64 (i : Int), .int .i64 (i : Int), .int .i64 ((k : Int) - 1)] rfl rfl (cell_four_new5 _ _ _ _ _ _) (by simp [Value.oneCell']) (by unfold maxLen; omega) (by omega) (by have := HT1.out.2.size; simp; omega) ?_
           intro v2 w2 hown' hgrow _
           have HB2 := Lib.hid hown'
           have HT2 := Lib.hid (two_rows HT1.out.2 HT1.out.1 HA1.out HY.out (.inr (by rw [← chI_succ]; exact chI_one (i + 1) (Nat.succ_pos i))) (by simp) hgrow)
           clear hown' hgrow))
      have HF1 := Lib.hid (show w2.ownsRow w.heap.size 40 2 v1 (i + 1) (cellsI (chI (i + 1))) by rw [chI_succ]; exact HT2.out.1)
      have HF2 := Lib.hid (show w2.ownsRow w.heap.size 40 2 v2 (2 * (i + 1)) (cellsI (beI k (i + 1))) by rw [beI_succ k i hk1]; exact HB2.out)
      go_roundw
      case rel => exact ⟨i + 1, by omega, by go_num, Lib.hid (fun h => absurd h (Nat.succ_ne_zero i)), HF1.out, HF2.out, HT2.out.2⟩
      case measure => simp [intOf]; omega
    · obtain rfl : i = k - 1 := by omega
      have g1 : ¬ (((k - 1 : Nat) : Int) + 1 < k) := by omega
      have P1 := Lib.hid (prs_of_row (by rw [chI_len]; exact H1))
      have P2 := Lib.hid (prs_of_row (by rw [beI_len]; exact H2))
      have HBw := Lib.hid hBw
      clear H1 H2 hBw HZ
      go_wp2_with fail
      have hwk := Lib.hid (show (Lit.int .i64 (k : Int)).wf = true by simp only [Lit.wf, Bool.and_eq_true, decide_eq_true_eq]; exact ⟨show (-9223372036854775808 : Int) ≤ (k : Int) by omega, show (k : Int) ≤ (9223372036854775807 : Int) by omega⟩)
      have ek : ((k - 1 : Nat) : Int) = (k : Int) - 1 := by omega
      refine (HBd.out _ (chI (k - 1)) _ k wr P1.out (Nat.le_refl _) (by rw [chI_len]; simp only [big5]; omega) hwk.out (by first | exact hTz | exact hTz.on (by assumption) | exact hTz.on HBB.out | exact hTz.alloc _ | exact (hTz.on (by assumption)).alloc _ | exact (hTz.on HBB.out).alloc _ | exact (hTz.on (by assumption)).drewN _ | exact (hTz.on HBB.out).drewN _ | exact (hTz.alloc _).alloc _ | exact ((hTz.on (by assumption)).alloc _).alloc _)).mono ?_
      rintro e w1 ⟨hbp, hb1⟩
      obtain ⟨a1, c1, T1, rfl, hn1', hw1, hl1, hr1, hh1⟩ := build_right (l := LL.chainPs k) hbp hk1 hk2 (chain_ok k hk1) (fun T h => LL.chain_right hk1 hk2 h)
      have HN1 := Lib.hid hn1'
      have HW1 := Lib.hid hw1
      have HL1 := Lib.hid hl1
      have HR1 := Lib.hid hr1
      have HH1 := Lib.hid hh1
      have HB1 := Lib.hid (bstep HBw.out hb1)
      have HP2 := Lib.hid ((PrsI.below hb1 P2.out).mono hb1.size)
      clear hbp hb1 hn1' hw1 hl1 hr1 hh1 P1 P2 HBw
      go_wp2_with fail
      refine (HHt.out _ T1 _ w1 HN1.out (Nat.le_refl _) HW1.out HL1.out (by first | exact hTz | exact hTz.on (by assumption) | exact hTz.on HBB.out | exact hTz.alloc _ | exact (hTz.on (by assumption)).alloc _ | exact (hTz.on HBB.out).alloc _ | exact (hTz.on (by assumption)).drewN _ | exact (hTz.on HBB.out).drewN _ | exact (hTz.alloc _).alloc _ | exact ((hTz.on (by assumption)).alloc _).alloc _)).mono ?_
      rintro e w2 ⟨rfl, hb2⟩
      rw [HR1.out, if_pos rfl, HH1.out, ek]
      have HB2 := Lib.hid (bstep HB1.out hb2)
      have HP3 := Lib.hid ((PrsI.below hb2 HP2.out).mono hb2.size)
      clear HB1 HP2 hb2
      go_wp2_with fail
      refine (HBd.out _ (beI k (k - 1)) _ k w2 HP3.out (Nat.le_refl _) (by rw [beI_len]; simp only [big5]; omega) hwk.out (by first | exact hTz | exact hTz.on (by assumption) | exact hTz.on HBB.out | exact hTz.alloc _ | exact (hTz.on (by assumption)).alloc _ | exact (hTz.on HBB.out).alloc _ | exact (hTz.on (by assumption)).drewN _ | exact (hTz.on HBB.out).drewN _ | exact (hTz.alloc _).alloc _ | exact ((hTz.on (by assumption)).alloc _).alloc _)).mono ?_
      rintro e w3 ⟨hbp, hb3⟩
      obtain ⟨a2, c2, T2, rfl, hn2', hw2, hl2, hr2, hh2⟩ := build_right (l := LL.besidePs k) hbp hk1 hk2 (beside_ok k hk1) (fun T h => LL.beside_right hk1 hk2 h)
      have HN2 := Lib.hid hn2'
      have HW2 := Lib.hid hw2
      have HL2 := Lib.hid hl2
      have HR2 := Lib.hid hr2
      have HH2 := Lib.hid hh2
      have HB3 := Lib.hid (bstep HB2.out hb3)
      clear hbp hb3 hn2' hw2 hl2 hr2 hh2 HP3 HB2
      go_wp2_with fail
      refine (HHt.out _ T2 _ w3 HN2.out (Nat.le_refl _) HW2.out HL2.out (by first | exact hTz | exact hTz.on (by assumption) | exact hTz.on HBB.out | exact hTz.alloc _ | exact (hTz.on (by assumption)).alloc _ | exact (hTz.on HBB.out).alloc _ | exact (hTz.on (by assumption)).drewN _ | exact (hTz.on HBB.out).drewN _ | exact (hTz.alloc _).alloc _ | exact ((hTz.on (by assumption)).alloc _).alloc _)).mono ?_
      rintro e w4 ⟨rfl, hb4⟩
      rw [HR2.out, if_pos rfl, HH2.out]
      have HB4 := Lib.hid (bstep HB3.out hb4)
      clear HB3 hb4
      by_cases hm : k ≤ 3
      · have em : ((min (k - 1) 2 : Nat) : Int) = (k : Int) - 1 := by omega
        have m1 : ((k : Int) - 1 ≤ 2) = True := by simp; omega
        have m2 : ((k : Int) - 1 < 2 ∨ (k : Int) - 1 = 2) = True := by simp; omega
        rw [em]
        clear hm
        go_wp2_with fail
        refine (awake5_any HBd.out HHt.out _ (by first | exact hTz | exact hTz.on (by assumption) | exact hTz.on HBB.out | exact hTz.alloc _ | exact (hTz.on (by assumption)).alloc _ | exact (hTz.on HBB.out).alloc _ | exact (hTz.on (by assumption)).drewN _ | exact (hTz.on HBB.out).drewN _ | exact (hTz.alloc _).alloc _ | exact ((hTz.on (by assumption)).alloc _).alloc _)).mono ?_
        rintro e w99 ⟨rfl, hb99⟩
        go_wp2_with fail
        go_ret
        exact ⟨rfl, bstep HB4.out hb99⟩
      · have em : ((min (k - 1) 2 : Nat) : Int) = 2 := by omega
        have m1 : ((k : Int) - 1 ≤ 2) = False := by simp; omega
        have HM := Lib.hid (show ¬ ((k : Int) - 1 ≤ 2) by omega)
        rw [em]
        clear hm
        go_wp2_with fail
        refine (awake5_any HBd.out HHt.out _ (by first | exact hTz | exact hTz.on (by assumption) | exact hTz.on HBB.out | exact hTz.alloc _ | exact (hTz.on (by assumption)).alloc _ | exact (hTz.on HBB.out).alloc _ | exact (hTz.on (by assumption)).drewN _ | exact (hTz.on HBB.out).drewN _ | exact (hTz.alloc _).alloc _ | exact ((hTz.on (by assumption)).alloc _).alloc _)).mono ?_
        rintro e w99 ⟨rfl, hb99⟩
        go_wp2_with fail
        go_ret
        exact ⟨rfl, bstep HB4.out hb99⟩
end Go.Proofs.YtaaicmldldkhhaaDoor
