import Derived.Test.YtbdmpilaeoclgaaDomW
import Derived.Test.YtbdmpilaeoclgaaGraD
import Derived.StillTailTactics
set_option linter.unusedSimpArgs false
set_option linter.unusedVariables false
/-! DomChains: the walk -/
namespace Go.Proofs.Ytbdmpilaeoclgaa
open Go.RowKit
theorem row_of_is {W : World} {a : Option Addr} {len cap : Nat} {zs : List Int} (h : IsRow .i64 W a len cap zs) : Row W.heap.size W (.slice a len cap) (zs.take len) ∧ (zs.take len).length = len := by
  rcases h with ⟨rfl, rfl, rfl, rfl⟩ | ⟨x, rfl, hl, hm, hz, hc, _⟩
  · exact ⟨cells_empty _ _ _ _ (fun _ => rfl), rfl⟩
  · have hlen : (zs.take len).length = len := by rw [List.length_take]; omega
    refine ⟨?_, hlen⟩
    by_cases h0 : len = 0
    · subst h0
      rw [List.take_zero]
      exact cells_empty _ _ _ _ (fun e => by cases e)
    · have h1 := hc 0 (by omega)
      rw [show x.add 0 = x from by cases x; rename_i s; cases s <;> simp [Addr.add]] at h1
      obtain ⟨b, off, rfl, hb⟩ := addr_plain h1
      refine .inr ⟨b, off, cap, by rw [intsV_len, hlen], hb, by rw [intsV_len, hlen]; exact hl, fun j u hj => ?_⟩
      have hjl : j < len := by
        have := (List.getElem?_eq_some_iff.1 hj).1
        rwa [intsV_len, hlen] at this
      have h2 := hc j (by omega)
      rw [Addr.add_lit] at h2
      rw [h2, ← hj, intsV_at (by omega), List.getElem?_take_of_lt hjl, List.getD_eq_getElem?_getD]
theorem copy_row {W w1 : World} {xs : List Int} {v1 : Value} (ho : w1.ownsRow W.heap.size 3 1 v1 xs.length (intsV xs)) : Row w1.heap.size w1 v1 xs := cells_of_row ho
theorem src_lit {W w : World} {va : Option Addr} {vc : Nat} {xs : List Int} (hv : Row W.heap.size W (.slice va xs.length vc) xs) (hb : Below W.heap.size W w) :
    (.slice va xs.length vc : Value) = .slice none 0 0 ∧ xs.length = 0 ∨ ∃ ad c, (.slice va xs.length vc : Value) = .slice (some ad) xs.length c ∧ ∀ j u, (intsV xs)[j]? = some u → (w.alloc (.cells #[] 3)).cell? (ad.add j) = some u := by
  have h := Cells.src (show Cells W.heap.size (w.alloc (.cells #[] 3)) (.slice va xs.length vc) (intsV xs) from Row.below (hb.alloc hb.size _) hv)
  rwa [intsV_len] at h
theorem lit_below {W w w1 : World} {B n : Nat} {v1 : Value} {xs : List Value} (hb : Below W.heap.size W w) (ho : w1.ownsRow B 3 1 v1 n xs) (hg : (w.alloc (.cells #[] 3)).grownBy w1 (Value.slice (some ⟨w.heap.size, 0, none⟩) 0 0).ownBlock) : Below W.heap.size W w1 := by
  refine (hb.alloc hb.size _).grown hg (by have := hb.size; simp; omega) (fun k e => ?_)
  simp [Value.ownBlock] at e
  have := hb.size; omega
theorem foundE_neg {m : Int} (h : m < 0) : foundE m = .returned (.tuple #[.int .i64 0, .bool false]) := by
  unfold foundE foundN foundB; rw [if_neg (by omega), decide_eq_false (by omega)]
set_option maxRecDepth 100000 in
set_option maxHeartbeats 3200000 in
theorem domChains_none {va : Option Addr} {vc : Nat} {xs : List Int} (a b : Int) (W : World) (HV : RowKit.Hid (Row W.heap.size W (.slice va xs.length vc) xs)) (hl : xs.length ≤ 64) (m : Int) (HM : RowKit.Hid (m < 0)) (HNK : RowKit.Hid (DD.nearI xs a b = m)) :
    Calls Try.prog 4 #[.slice va xs.length vc, .int .i64 a, .int .i64 b] W fun e W' => e = .returned (.bool true) ∧ Below W.heap.size W W' := by
    obtain ⟨i0, hi0, hz0, hz1, hz2⟩ := info_parts Try.infoGInt
    have HLA := Lib.hid (chainL_len xs a)
    have HLB := Lib.hid (chainL_len xs b)
    have HDB := Lib.hid (show DD.domB xs a b = decide (a ∈ DD.chainL xs b) from rfl)
    have HB0 := Lib.hid (Below.refl W.heap.size W)
    go_enter Try.func4, Try.ntmps4
    go_wp2_with (at_builtin
                 refine GG.wpList_append_any rfl _ _ 24 rfl W.heap.size 3 i0 (.int .i64 0) 1 8 Try.underlying24 hi0 hz0 hz1 hz2 rfl (by decide) (.slice (some ⟨W.heap.size, 0, none⟩) 0 0) 0 [] rfl (GG.lit_row W HB0.out.size (by decide) rfl) (.slice va xs.length vc) xs.length (intsV xs) rfl (by rw [intsV_len, Nat.mul_one]) (src_lit HV.out HB0.out) (GG.oneCell_ints xs) (by unfold maxLen; omega) (by omega) (by have := HB0.out.size; first | (simp; done) | (simp; omega)) ?_
                 intro v1 w1 ho hg
                 rw [Nat.zero_add, List.nil_append] at ho
                 have HR1 := Lib.hid (show Row w1.heap.size w1 v1 xs from cells_of_row ho)
                 have HC1 := Lib.hid (lit_below HB0.out ho hg)
                 clear ho hg)
    refine (dchain_any a _ HR1.out (by omega)).mono ?_
    rintro e w2 ⟨lv, rfl, hl2, hb2⟩
    have HL2 := Lib.hid hl2
    have HB2 := Lib.hid (HC1.out.trans (hb2.mono HC1.out.size))
    have HD2 := Lib.hid (Below.refl w2.heap.size w2)
    clear hl2 hb2
    go_wp2_with (at_builtin
                 refine GG.wpList_append_any rfl _ _ 24 rfl W.heap.size 3 i0 (.int .i64 0) 1 8 Try.underlying24 hi0 hz0 hz1 hz2 rfl (by decide) (.slice (some ⟨w2.heap.size, 0, none⟩) 0 0) 0 [] rfl (GG.lit_row w2 HB2.out.size (by decide) rfl) (.slice va xs.length vc) xs.length (intsV xs) rfl (by rw [intsV_len, Nat.mul_one]) (src_lit HV.out HB2.out) (GG.oneCell_ints xs) (by unfold maxLen; omega) (by omega) (by have := HB2.out.size; first | (simp; done) | (simp; omega)) ?_
                 intro v3 w3 ho hg
                 rw [Nat.zero_add, List.nil_append] at ho
                 have HR3 := Lib.hid (show Row w3.heap.size w3 v3 xs from cells_of_row ho)
                 have HC3 := Lib.hid (lit_below HB2.out ho hg)
                 have HD3 := Lib.hid (lit_below HD2.out ho hg)
                 clear ho hg)
    refine (dnear_any a b _ HR3.out (by omega)).mono ?_
    rintro e w4 ⟨rfl, hb4⟩
    have HB4 := Lib.hid (HC3.out.trans (hb4.mono HC3.out.size))
    have HD4 := Lib.hid (HD3.out.trans (hb4.mono HD3.out.size))
    clear hb4
    rw [HNK.out, foundE_neg HM.out]
    go_wp2_with (at_builtin
                 refine GG.wpList_append_any rfl _ _ 24 rfl W.heap.size 3 i0 (.int .i64 0) 1 8 Try.underlying24 hi0 hz0 hz1 hz2 rfl (by decide) (.slice (some ⟨w4.heap.size, 0, none⟩) 0 0) 0 [] rfl (GG.lit_row w4 HB4.out.size (by decide) rfl) (.slice va xs.length vc) xs.length (intsV xs) rfl (by rw [intsV_len, Nat.mul_one]) (src_lit HV.out HB4.out) (GG.oneCell_ints xs) (by unfold maxLen; omega) (by omega) (by have := HB4.out.size; first | (simp; done) | (simp; omega)) ?_
                 intro v5 w5 ho hg
                 rw [Nat.zero_add, List.nil_append] at ho
                 have HR5 := Lib.hid (show Row w5.heap.size w5 v5 xs from cells_of_row ho)
                 have HC5 := Lib.hid (lit_below HB4.out ho hg)
                 have HD5 := Lib.hid (lit_below HD4.out ho hg)
                 clear ho hg)
    refine (ddom_any a b _ HR5.out (by omega)).mono ?_
    rintro e w6 ⟨rfl, hb6⟩
    have HB6 := Lib.hid (HC5.out.trans (hb6.mono HC5.out.size))
    have HD6 := Lib.hid (HD5.out.trans (hb6.mono HD5.out.size))
    clear hb6
    go_wp2_with fail
    refine (rnear_any a b _ (HV.out.on HB6.out HB6.out.size) (by omega)).mono ?_
    rintro e w7 ⟨rfl, hb7⟩
    rw [HNK.out]
    have HB7 := Lib.hid (bstep HB6.out hb7)
    have HD7 := Lib.hid (bstep HD6.out hb7)
    clear hb7
    go_wp2_with fail
    refine (rchain_any a _ (HV.out.on HB7.out HB7.out.size) (by omega)).mono ?_
    rintro e w8 ⟨rv, rfl, hr8, hb8⟩
    have HR8 := Lib.hid hr8
    have HB8 := Lib.hid (bstep HB7.out hb8)
    have HL8 := Lib.hid (HL2.out.on (bstep HD7.out hb8) (bstep HD7.out hb8).size)
    clear hr8 hb8
    go_wp2_with fail
    refine (ints_any _ _ (DD.chainL xs a) (DD.chainL xs a) _ _ HL8.out HR8.out (by have := HLA.out; omega) (by have := HLA.out; omega)).mono ?_
    rintro e w9 ⟨rfl, d, rfl⟩
    rw [decide_eq_true (rfl : DD.chainL xs a = DD.chainL xs a)]
    have HB9 := Lib.hid (below_dN HB8.out d)
    obtain ⟨w9, ew9⟩ : ∃ w9, w9 = w8.drewN d := ⟨_, rfl⟩
    rw [← ew9]
    rw [← ew9] at HB9
    clear ew9
    go_wp2_with fail
    refine (rchain_any b _ (HV.out.on HB9.out HB9.out.size) (by omega)).mono ?_
    rintro e w10 ⟨bv, rfl, hr10, hb10⟩
    have HR10 := Lib.hid hr10
    have HB10 := Lib.hid (bstep HB9.out hb10)
    clear hr10 hb10
    go_wp2_with fail
    refine (rin_any a _ HR10.out (by have := HLB.out; omega)).mono ?_
    rintro e w11 ⟨rfl, hw⟩
    rw [hw, ← HDB.out]
    clear hw w11
    have hmx : max m 0 = 0 := Int.max_eq_right (by have := HM.out; omega)
    have hpx : decide ((0 : Int) ≤ m) = false := decide_eq_false (by have := HM.out; omega)
    have hbb : (DD.domB xs a b != DD.domB xs a b) = false := bne_self_eq_false _
    go_wp2_with fail
    refine (awakeD_any _).mono ?_
    rintro e w12 ⟨rfl, hb12⟩
    have HB12 := Lib.hid (bstep HB10.out hb12)
    clear hb12
    go_wp2_with fail
    go_ret
    exact ⟨rfl, HB12.out⟩
set_option maxRecDepth 100000 in
set_option maxHeartbeats 3200000 in
theorem domChains_hit {va : Option Addr} {vc : Nat} {xs : List Int} (a b : Int) (W : World) (HV : RowKit.Hid (Row W.heap.size W (.slice va xs.length vc) xs)) (hl : xs.length ≤ 64) (q : Nat) (HNK : RowKit.Hid (DD.nearI xs a b = (q : Int))) :
    Calls Try.prog 4 #[.slice va xs.length vc, .int .i64 a, .int .i64 b] W fun e W' => e = .returned (.bool true) ∧ Below W.heap.size W W' := by
    obtain ⟨i0, hi0, hz0, hz1, hz2⟩ := info_parts Try.infoGInt
    have HLA := Lib.hid (chainL_len xs a)
    have HLB := Lib.hid (chainL_len xs b)
    have HDB := Lib.hid (show DD.domB xs a b = decide (a ∈ DD.chainL xs b) from rfl)
    have HB0 := Lib.hid (Below.refl W.heap.size W)
    go_enter Try.func4, Try.ntmps4
    go_wp2_with (at_builtin
                 refine GG.wpList_append_any rfl _ _ 24 rfl W.heap.size 3 i0 (.int .i64 0) 1 8 Try.underlying24 hi0 hz0 hz1 hz2 rfl (by decide) (.slice (some ⟨W.heap.size, 0, none⟩) 0 0) 0 [] rfl (GG.lit_row W HB0.out.size (by decide) rfl) (.slice va xs.length vc) xs.length (intsV xs) rfl (by rw [intsV_len, Nat.mul_one]) (src_lit HV.out HB0.out) (GG.oneCell_ints xs) (by unfold maxLen; omega) (by omega) (by have := HB0.out.size; first | (simp; done) | (simp; omega)) ?_
                 intro v1 w1 ho hg
                 rw [Nat.zero_add, List.nil_append] at ho
                 have HR1 := Lib.hid (show Row w1.heap.size w1 v1 xs from cells_of_row ho)
                 have HC1 := Lib.hid (lit_below HB0.out ho hg)
                 clear ho hg)
    refine (dchain_any a _ HR1.out (by omega)).mono ?_
    rintro e w2 ⟨lv, rfl, hl2, hb2⟩
    have HL2 := Lib.hid hl2
    have HB2 := Lib.hid (HC1.out.trans (hb2.mono HC1.out.size))
    have HD2 := Lib.hid (Below.refl w2.heap.size w2)
    clear hl2 hb2
    go_wp2_with (at_builtin
                 refine GG.wpList_append_any rfl _ _ 24 rfl W.heap.size 3 i0 (.int .i64 0) 1 8 Try.underlying24 hi0 hz0 hz1 hz2 rfl (by decide) (.slice (some ⟨w2.heap.size, 0, none⟩) 0 0) 0 [] rfl (GG.lit_row w2 HB2.out.size (by decide) rfl) (.slice va xs.length vc) xs.length (intsV xs) rfl (by rw [intsV_len, Nat.mul_one]) (src_lit HV.out HB2.out) (GG.oneCell_ints xs) (by unfold maxLen; omega) (by omega) (by have := HB2.out.size; first | (simp; done) | (simp; omega)) ?_
                 intro v3 w3 ho hg
                 rw [Nat.zero_add, List.nil_append] at ho
                 have HR3 := Lib.hid (show Row w3.heap.size w3 v3 xs from cells_of_row ho)
                 have HC3 := Lib.hid (lit_below HB2.out ho hg)
                 have HD3 := Lib.hid (lit_below HD2.out ho hg)
                 clear ho hg)
    refine (dnear_any a b _ HR3.out (by omega)).mono ?_
    rintro e w4 ⟨rfl, hb4⟩
    have HB4 := Lib.hid (HC3.out.trans (hb4.mono HC3.out.size))
    have HD4 := Lib.hid (HD3.out.trans (hb4.mono HD3.out.size))
    clear hb4
    rw [HNK.out, foundE_hit]
    go_wp2_with (at_builtin
                 refine GG.wpList_append_any rfl _ _ 24 rfl W.heap.size 3 i0 (.int .i64 0) 1 8 Try.underlying24 hi0 hz0 hz1 hz2 rfl (by decide) (.slice (some ⟨w4.heap.size, 0, none⟩) 0 0) 0 [] rfl (GG.lit_row w4 HB4.out.size (by decide) rfl) (.slice va xs.length vc) xs.length (intsV xs) rfl (by rw [intsV_len, Nat.mul_one]) (src_lit HV.out HB4.out) (GG.oneCell_ints xs) (by unfold maxLen; omega) (by omega) (by have := HB4.out.size; first | (simp; done) | (simp; omega)) ?_
                 intro v5 w5 ho hg
                 rw [Nat.zero_add, List.nil_append] at ho
                 have HR5 := Lib.hid (show Row w5.heap.size w5 v5 xs from cells_of_row ho)
                 have HC5 := Lib.hid (lit_below HB4.out ho hg)
                 have HD5 := Lib.hid (lit_below HD4.out ho hg)
                 clear ho hg)
    refine (ddom_any a b _ HR5.out (by omega)).mono ?_
    rintro e w6 ⟨rfl, hb6⟩
    have HB6 := Lib.hid (HC5.out.trans (hb6.mono HC5.out.size))
    have HD6 := Lib.hid (HD5.out.trans (hb6.mono HD5.out.size))
    clear hb6
    go_wp2_with fail
    refine (rnear_any a b _ (HV.out.on HB6.out HB6.out.size) (by omega)).mono ?_
    rintro e w7 ⟨rfl, hb7⟩
    rw [HNK.out]
    have HB7 := Lib.hid (bstep HB6.out hb7)
    have HD7 := Lib.hid (bstep HD6.out hb7)
    clear hb7
    go_wp2_with fail
    refine (rchain_any a _ (HV.out.on HB7.out HB7.out.size) (by omega)).mono ?_
    rintro e w8 ⟨rv, rfl, hr8, hb8⟩
    have HR8 := Lib.hid hr8
    have HB8 := Lib.hid (bstep HB7.out hb8)
    have HL8 := Lib.hid (HL2.out.on (bstep HD7.out hb8) (bstep HD7.out hb8).size)
    clear hr8 hb8
    go_wp2_with fail
    refine (ints_any _ _ (DD.chainL xs a) (DD.chainL xs a) _ _ HL8.out HR8.out (by have := HLA.out; omega) (by have := HLA.out; omega)).mono ?_
    rintro e w9 ⟨rfl, d, rfl⟩
    rw [decide_eq_true (rfl : DD.chainL xs a = DD.chainL xs a)]
    have HB9 := Lib.hid (below_dN HB8.out d)
    obtain ⟨w9, ew9⟩ : ∃ w9, w9 = w8.drewN d := ⟨_, rfl⟩
    rw [← ew9]
    rw [← ew9] at HB9
    clear ew9
    go_wp2_with fail
    refine (rchain_any b _ (HV.out.on HB9.out HB9.out.size) (by omega)).mono ?_
    rintro e w10 ⟨bv, rfl, hr10, hb10⟩
    have HR10 := Lib.hid hr10
    have HB10 := Lib.hid (bstep HB9.out hb10)
    clear hr10 hb10
    go_wp2_with fail
    refine (rin_any a _ HR10.out (by have := HLB.out; omega)).mono ?_
    rintro e w11 ⟨rfl, hw⟩
    rw [hw, ← HDB.out]
    clear hw w11
    have hmx : max (q : Int) 0 = (q : Int) := Int.max_eq_left (by omega)
    have hpx : (0 : Int) ≤ (q : Int) := by omega
    have hbb : (DD.domB xs a b != DD.domB xs a b) = false := bne_self_eq_false _
    go_wp2_with fail
    refine (awakeD_any _).mono ?_
    rintro e w12 ⟨rfl, hb12⟩
    have HB12 := Lib.hid (bstep HB10.out hb12)
    clear hb12
    go_wp2_with fail
    go_ret
    exact ⟨rfl, HB12.out⟩
theorem domChains_walk {v : Value} {xs : List Int} (a b : Int) (W : World) (hv : Row W.heap.size W v xs) :
    Calls Try.prog 4 #[v, .int .i64 a, .int .i64 b] W fun e W' => e = .returned (.bool true) ∧ Below W.heap.size W W' := by
  have HV := Lib.hid hv
  obtain ⟨va, vc, rfl⟩ := hv.form
  clear hv
  by_cases hl : xs.length ≤ 64
  · rcases (show DD.nearI xs a b = -1 ∨ 0 ≤ DD.nearI xs a b by have := nearI_bd xs a b; omega) with e | e
    · exact domChains_none a b W HV hl _ (Lib.hid (by omega)) (Lib.hid e)
    · exact domChains_hit a b W HV hl (DD.nearI xs a b).toNat (Lib.hid (by omega))
  · have h1 : 64 < xs.length := by omega
    go_enter Try.func4, Try.ntmps4
    go_wp2_with fail
    go_ret
    exact ⟨rfl, Below.refl _ _⟩
end Go.Proofs.Ytbdmpilaeoclgaa
