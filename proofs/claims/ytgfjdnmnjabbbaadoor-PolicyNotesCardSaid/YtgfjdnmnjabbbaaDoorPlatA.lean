import Derived.Test.YtgfjdnmnjabbbaaDoorPlatH
import Derived.Test.YtgfjdnmnjabbbaaDoorMaskG
set_option linter.unusedSimpArgs false
set_option linter.unusedVariables false
/-! the walks of layer 5's level, way, end -/
namespace Go.Proofs.YtgfjdnmnjabbbaaDoor
open Go.RowKit

set_option maxHeartbeats 400000 in
theorem level_any (a : Option Addr) (len cap : Nat) (i : Int) (w : World) :
    Calls Tryd.prog 41 #[.slice a len cap, .int .i64 i] w fun e w' => e = .returned (.bool (decide (0 ≤ i) && decide (i < len))) ∧ w' = w := by
  by_cases h0 : 0 ≤ i
  · have HB := Lib.hid (show decide (i < len) = (decide (0 ≤ i) && decide (i < len)) by rw [decide_eq_true h0, Bool.true_and])
    go_enter Tryd.func41, Tryd.ntmps41
    go_wp2_with fail
    go_ret
    exact ⟨ret_bool HB.out, rfl⟩
  · have HB := Lib.hid (show (decide (0 ≤ i) && decide (i < len)) = false by rw [decide_eq_false h0]; rfl)
    have h0 : i < 0 := by omega
    go_enter Tryd.func41, Tryd.ntmps41
    go_wp2_with fail
    go_ret
    exact ⟨ret_bool HB.out.symm, rfl⟩

/-- the boxes of a way: whether it is turned, and the masks -/
def wayBoxes (w : World) (v : Value) (t : Bool) : World := (w.alloc (.cells #[v] 23)).alloc (.cells #[.bool t] 4)
def wayF (Bt Bu : Nat) : Value := .func (.func 71) #[] #[.pointer (some ⟨Bt, 0, none⟩), .pointer (some ⟨Bu, 0, none⟩)]
set_option maxHeartbeats 400000 in
theorem way_any (a : Option Addr) (len cap : Nat) (t : Bool) (w : World) :
    Calls Tryd.prog 57 #[.slice a len cap, .bool t] w fun e w' => e = .returned (wayF (w.heap.size + 1) w.heap.size) ∧ w' = wayBoxes w (.slice a len cap) t := by
  go_enter Tryd.func57, Tryd.ntmps57
  go_wp2_with fail
  go_ret
  exact ⟨rfl, rfl⟩

/-- the masks one way round -/
def beyL (xs : List Int) (t : Bool) : List Int := if t = true then LL.dualL xs else xs
theorem bey_len (xs : List Int) (t : Bool) : (beyL xs t).length = xs.length := by
  cases t
  · rfl
  · exact LL.dual_len xs
theorem bey_wide {xs : List Int} (hx : Wide xs) (t : Bool) : Wide (beyL xs t) := by
  cases t
  · exact hx
  · exact LL.dual_wide xs
theorem bey_ord {xs : List Int} (h : LL.ordB xs = true) (hx : Wide xs) (t : Bool) : LL.ordB (beyL xs t) = true := by
  cases t
  · exact h
  · exact LL.dual_ord h hx
/-- a way: its boxes hold the masks xs, and which way round -/
def Way (n₀ : Nat) (w : World) (Bt Bu : Nat) (xs : List Int) (t : Bool) : Prop :=
  Bt < n₀ ∧ Bu < n₀ ∧ w.cell? ⟨Bt, 0, none⟩ = some (.bool t) ∧ ∃ v, w.cell? ⟨Bu, 0, none⟩ = some v ∧ Nums .u64 n₀ w v xs
theorem Way.below {n₀ : Nat} {w w' : World} {Bt Bu : Nat} {xs : List Int} {t : Bool} (h : Way n₀ w Bt Bu xs t) (hb : Below n₀ w w') : Way n₀ w' Bt Bu xs t := by
  obtain ⟨h1, h2, h3, v, h4, h5⟩ := h
  exact ⟨h1, h2, (hb.cell (p := ⟨Bt, 0, none⟩) h1).trans h3, v, (hb.cell (p := ⟨Bu, 0, none⟩) h2).trans h4, h5.below hb⟩
theorem Way.mono {n₀ n₁ : Nat} {w : World} {Bt Bu : Nat} {xs : List Int} {t : Bool} (h : Way n₀ w Bt Bu xs t) (hn : n₀ ≤ n₁) : Way n₁ w Bt Bu xs t := by
  obtain ⟨h1, h2, h3, v, h4, h5⟩ := h
  exact ⟨by omega, by omega, h3, v, h4, h5.mono hn⟩
theorem Way.drew {n₀ : Nat} {w : World} {Bt Bu : Nat} {xs : List Int} {t : Bool} (h : Way n₀ w Bt Bu xs t) : Way n₀ w.drew Bt Bu xs t := h.below ⟨rfl, rfl, rfl, Nat.le_refl _, fun _ _ => rfl⟩
theorem Way.made {n₀ : Nat} {w : World} {v : Value} {xs : List Int} (t : Bool) (h : Nums .u64 n₀ w v xs) (hn : n₀ ≤ w.heap.size) : Way (w.heap.size + 2) (wayBoxes w v t) (w.heap.size + 1) w.heap.size xs t := by
  have e1 : (wayBoxes w v t).heap[w.heap.size + 1]? = some (.cells #[.bool t] 4) := by
    have := World.alloc_heap_new (w.alloc (.cells #[v] 23)) (.cells #[.bool t] 4)
    rw [World.size_alloc] at this; exact this
  have e2 : (wayBoxes w v t).heap[w.heap.size]? = some (.cells #[v] 23) :=
    (Below.heap_alloc (w.alloc (.cells #[v] 23)) _ _ (by simp)).trans (World.alloc_heap_new w _)
  refine ⟨by omega, by omega, by simp [World.cell?, e1], v, by simp [World.cell?, e2], ?_⟩
  exact (h.below (((Below.refl n₀ w).alloc hn _).alloc (by simp; omega) _)).mono (by omega)

set_option maxHeartbeats 800000 in
theorem way1_any (Bt Bu i n₀ : Nat) (xs : List Int) (t : Bool) (w : World) (h : Way n₀ w Bt Bu xs t) (hx : Wide xs) (hl : xs.length ≤ 64) (hi : i < xs.length) :
    Calls Tryd.prog 71 #[.int .i64 i, .pointer (some ⟨Bt, 0, none⟩), .pointer (some ⟨Bu, 0, none⟩)] w fun e w' => e = .returned (.int .u64 ((beyL xs t)[i]?.getD 0)) ∧ w' = w := by
  obtain ⟨_, _, ht, v, hu, hv⟩ := h
  obtain ⟨bk, off, cap, rfl, hbk, hc⟩ := hv.at (by omega)
  have HX := Lib.hid hx
  have i1 : (0 : Int) ≤ i ∧ (i : Int) < xs.length := by omega
  cases t
  · have hci := hc i hi
    have HB := Lib.hid (show xs[i]?.getD 0 = (beyL xs false)[i]?.getD 0 from rfl)
    clear hc hv hx
    generalize xs[i]?.getD 0 = x at hci HB
    go_enter Tryd.func71, Tryd.ntmps71
    go_wp2_with fail
    go_ret
    exact ⟨ret_int HB.out, rfl⟩
  · have HC := Lib.hid hc
    have HD := Lib.hid (show LL.dnI xs i xs.length = (beyL xs true)[i]?.getD 0 from (LL.dual_at xs hi).symm)
    clear hc hv hx
    go_enter Tryd.func71, Tryd.ntmps71
    go_wp2_with fail
    go_loop [5, 15] (fun m k => ∃ j : Nat, j ≤ xs.length ∧ k = .int .i64 (j : Int) ∧ m = .int .u64 (LL.dnI xs i j)) (fun _ k => xs.length - (intOf k).toNat)
    case atStart => exact ⟨0, Nat.zero_le _, rfl, rfl⟩
    case round =>
      obtain ⟨j, hj, rfl, rfl⟩ := hrel
      by_cases hlt : j < xs.length
      · have hcj := HC.out j hlt
        have hxj := HX.out.at j
        have HXJ := Lib.hid hxj
        have hd := LL.dn_bd xs i j
        have HDB := Lib.hid hd
        have i2 : (0 : Int) ≤ j ∧ (j : Int) < xs.length := by omega
        cases hab : LL.ab xs j i
        · have HN := Lib.hid (show LL.dnI xs i j = LL.dnI xs i (j + 1) by show _ = if _ then _ else _; rw [hab]; rfl)
          have HA := Lib.hid (show MM.hasB (xs[j]?.getD 0) (i : Int) = false from hab)
          clear hab hxj hd
          generalize xs[j]?.getD 0 = xj at hcj HA HXJ
          go_wp2_with (go_at_call 55; refine (has_any _ _ _ HXJ.out.1 HXJ.out.2).mono ?_; rintro e w' ⟨rfl, rfl⟩; rw [HA.out])
          go_round
          case rel => exact ⟨j + 1, by omega, by go_num, by rw [HN.out]⟩
          case measure => simp [intOf]; omega
        · have HN := Lib.hid (show MM.withI (LL.dnI xs i j) (j : Int) = LL.dnI xs i (j + 1) by show _ = if _ then _ else _; rw [hab]; rfl)
          have HA := Lib.hid (show MM.hasB (xs[j]?.getD 0) (i : Int) = true from hab)
          clear hab hxj hd
          generalize xs[j]?.getD 0 = xj at hcj HA HXJ
          go_wp2_with (first | (go_at_call 55; refine (has_any _ _ _ HXJ.out.1 HXJ.out.2).mono ?_; rintro e w' ⟨rfl, rfl⟩; rw [HA.out]) | (go_at_call 40; refine (with_any _ _ _ HDB.out.1 HDB.out.2).mono ?_; rintro e w' ⟨rfl, rfl⟩))
          go_round
          case rel => exact ⟨j + 1, by omega, by go_num, by rw [HN.out]⟩
          case measure => simp [intOf]; omega
      · obtain rfl : j = xs.length := by omega
        go_wp2_with fail
        go_ret
        exact ⟨ret_int HD.out, rfl⟩

/-- what is told of a number that may be none (-1) -/
def nearE (k : Int) : Ending := .returned (.tuple #[.int .i64 (if 0 ≤ k then k else 0), .bool (decide (0 ≤ k))])
theorem nearE_yes (j : Nat) : Ending.returned (.tuple #[.int .i64 (j : Int), .bool true]) = nearE (j : Int) := by
  unfold nearE; rw [if_pos (by omega), decide_eq_true (by omega)]
theorem nearE_no : Ending.returned (.tuple #[.int .i64 0, .bool false]) = nearE (-1) := rfl
set_option maxHeartbeats 800000 in
theorem end_any (Bt Bu n n₀ : Nat) (xs : List Int) (t : Bool) (w : World) (h : Way n₀ w Bt Bu xs t) (hx : Wide xs) (ho : LL.ordB xs = true) (hn : n = xs.length) :
    Calls Tryd.prog 58 #[.int .i64 n, wayF Bt Bu] w fun e w' => e = nearE (LL.endI (beyL xs t)) ∧ w' = w := by
  subst hn
  have HW := Lib.hid h
  have HX := Lib.hid hx
  have HO := Lib.hid (bey_ord ho hx t)
  have HBx := Lib.hid (bey_wide hx t)
  have hl := (LL.ord_len ho).2
  have bb := LL.below_bd xs.length hl
  have HL := Lib.hid (bey_len xs t)
  clear h hx ho
  unfold wayF
  go_enter Tryd.func58, Tryd.ntmps58
  go_wp2_with (go_at_call 68; refine (below_any _ _ (by omega) (by omega)).mono ?_; rintro e w' ⟨rfl, rfl⟩)
  obtain ⟨B, hB⟩ : ∃ B, MM.belowI (xs.length : Int) = B := ⟨_, rfl⟩
  rw [hB]
  have HB := Lib.hid hB
  clear hB bb
  go_loop [11] (fun k => ∃ j : Nat, j ≤ xs.length ∧ k = .int .i64 (j : Int) ∧ RowKit.Hid (∀ i, i < j → LL.isEnd (beyL xs t) i = false)) (fun k => xs.length - (intOf k).toNat)
  case atStart => exact ⟨0, Nat.zero_le _, rfl, Lib.hid (fun i hi => absurd hi (Nat.not_lt_zero _))⟩
  case round =>
    obtain ⟨j, hj, rfl, HN⟩ := hrel
    by_cases hlt : j < xs.length
    · have HE := Lib.hid (show ((beyL xs t)[j]?.getD 0 == B) = LL.isEnd (beyL xs t) j by
        rw [← HB.out, ← HL.out]; exact LL.end_eq HO.out HBx.out (by rw [HL.out]; exact hlt))
      cases he : LL.isEnd (beyL xs t) j
      · have hE : ((beyL xs t)[j]?.getD 0 == B) = false := by rw [HE.out, he]
        have HS := Lib.hid (LL.none_step HN.out he)
        clear he HE
        generalize hbj : (beyL xs t)[j]?.getD 0 = y at hE
        have HBJ := Lib.hid hbj
        clear hbj
        go_wp2_with (go_at_call 71; refine (way1_any Bt Bu j n₀ xs t _ HW.out HX.out hl hlt).mono ?_; rintro e w' ⟨rfl, rfl⟩; rw [HBJ.out])
        go_round
        case rel => exact ⟨j + 1, by omega, by go_num, HS⟩
        case measure => simp [intOf]; omega
      · have hE : ((beyL xs t)[j]?.getD 0 == B) = true := by rw [HE.out, he]
        have HR := Lib.hid (show LL.endI (beyL xs t) = (j : Int) from LL.firstI_hit (by rw [HL.out]; exact hlt) he HN.out)
        clear he HE
        generalize hbj : (beyL xs t)[j]?.getD 0 = y at hE
        have HBJ := Lib.hid hbj
        clear hbj
        go_wp2_with (go_at_call 71; refine (way1_any Bt Bu j n₀ xs t _ HW.out HX.out hl hlt).mono ?_; rintro e w' ⟨rfl, rfl⟩; rw [HBJ.out])
        go_ret2
        exact ⟨by rw [HR.out]; exact nearE_yes j, rfl⟩
    · have HR := Lib.hid (show LL.endI (beyL xs t) = -1 from LL.firstI_none (fun i hi => HN.out i (by rw [HL.out] at hi; omega)))
      go_wp2_with fail
      go_ret2
      exact ⟨by rw [HR.out]; exact nearE_no, rfl⟩
end Go.Proofs.YtgfjdnmnjabbbaaDoor
