import Derived.Test.YtnmdihojbfhkfaaDoorInts
import Derived.Test.YtnmdihojbfhkfaaDoorMaskW
import Derived.Test.YtnmdihojbfhkfaaDoorMaskL
import Derived.Deep.QuietTactic
import Derived.BigQuiet
/-! the reference's list of a set -/
namespace Go.Proofs.YtnmdihojbfhkfaaDoor
set_option linter.unusedVariables false
open Go.RowKit

set_option maxRecDepth 100000 in
set_option maxHeartbeats 1000000 in
theorem list_any (m : Int) (w : World) (m0 : 0 ≤ m) (m1 : m ≤ 18446744073709551615) :
    Calls Tryd.prog 7 #[.int .u64 m] w fun e w' => ∃ v, e = .returned v ∧ w'.ownsRow w.heap.size 3 1 v (MM.bitsI m).length ((MM.bitsI m).map (Value.int .i64)) ∧ Below w.heap.size w w' := by
  obtain ⟨i0, hi, hz0, hz1, hz2⟩ := info_parts Tryd.infoInt
  go_enter Tryd.func7, Tryd.ntmps7
  go_wp2
  go_loopw [3, 4] (fun v i wr => ∃ k : Nat, k ≤ 64 ∧ i = .int .i64 k ∧ wr.ownsRow w.heap.size 3 1 v (MM.uptoI m k).length ((MM.uptoI m k).map (Value.int .i64)) ∧ Below w.heap.size w wr) (fun _ i _ => 64 - (intOf i).toNat)
  case atStart => exact ⟨0, by omega, rfl, World.ownsRow_nil _ _ _ _, Below.refl _ _⟩
  case round =>
    obtain ⟨k, hk, rfl, hown, hB⟩ := hrel
    have hlen := MM.uptoI_len m k
    by_cases hlt : k < 64
    · cases hh : MM.hasB m (k : Int)
      · have hno := Lib.hid (MM.uptoI_no m k hh)
        go_wp2_with (go_at_call 18; refine (rhas_any _ _ _ m0 m1).mono ?_; rintro e w' ⟨rfl, rfl⟩)
        go_roundw
        case rel => exact ⟨k + 1, by omega, by go_num, by rw [hno.out]; exact hown, hB⟩
        case measure => simp [intOf]; omega
      · have hyes := Lib.hid (MM.uptoI_yes m k hh)
        go_wp2_with (first | (go_at_call 18; refine (rhas_any _ _ _ m0 m1).mono ?_; rintro e w' ⟨rfl, rfl⟩) | (at_builtin; refine wpList_append_own _ rfl _ _ 23 rfl w.heap.size 3 i0 (.int .i64 0) 1 8 Tryd.underlying23 hi hz0 hz1 hz2 rfl (by decide) _ _ _ rfl (hown.alloc _) ⟨wr.heap.size, 0, none⟩ 1 1 [.int .i64 (k : Int)] rfl rfl (cell_one_new _ _ _) (by simp [Value.oneCell']) (by unfold maxLen; omega) (by omega) (by have := hB.size; simp; omega) ?_; intro v' w1 hown' hgrow _))
        have hgrow' : (wr.alloc (.cells #[.int .i64 (k : Int)] 3)).grownBy w1 u3.ownBlock := hgrow
        go_roundw
        case rel => exact ⟨k + 1, by omega, by go_num, by rw [hyes.out]; simpa using hown', (hB.alloc hB.size _).grown hgrow' (by have := hB.size; simp; omega) (fun j hj => by have := (hown.lt j hj).1; omega)⟩
        case measure => simp [intOf]; omega
    · obtain rfl : k = 64 := by omega
      go_wp2
      go_ret
      exact ⟨_, rfl, hown, hB⟩

theorem take_snoc_int (l : List Int) (k : Nat) (h : k < l.length) : l.take (k + 1) = l.take k ++ [l[k]?.getD 0] := by
  rw [List.take_succ_eq_append_getElem h, List.getElem?_eq_getElem h]; rfl
set_option maxHeartbeats 400000 in
theorem same_any (a b : Value) (xs ys : List Int) (n : Nat) (w : World) (ha : Ints n w a xs) (hb : Ints n w b ys) (hx : xs.length ≤ 1000000) (hy : ys.length ≤ 1000000) :
    Calls Tryd.prog 12 #[a, b] w fun e w' => e = .returned (.bool (xs == ys)) ∧ Below w.heap.size w w' := by
  by_cases hl : xs.length = ys.length
  · by_cases h0 : xs.length = 0
    · have ex : xs = [] := List.length_eq_zero_iff.1 h0
      have ey : ys = [] := List.length_eq_zero_iff.1 (hl ▸ h0)
      subst ex ey
      obtain ⟨a1, c1, rfl⟩ := ha.form
      obtain ⟨b1, d1, rfl⟩ := hb.form
      go_enter Tryd.func12, Tryd.ntmps12
      go_wp2
      go_loop [5] (fun k => k = .int .i64 0) (fun _ => 0)
      case atStart => exact rfl
      case round =>
        obtain rfl := hrel
        go_wp2
        go_ret
        exact ⟨rfl, Below.refl _ _⟩
    · rcases ha with ⟨_, h⟩ | ⟨ba, oa, ca, rfl, hba, _, hca⟩
      · exact absurd (by rw [h]; rfl) h0
      rcases hb with ⟨_, h⟩ | ⟨bb, ob, cb, rfl, hbb, _, hcb⟩
      · exact absurd (hl.trans (by rw [h]; rfl)) h0
      have hne : ((xs.length : Int) != (ys.length : Int)) = false := by rw [bne_eq_false_iff_eq]; omega
      have hl1 : xs.length ≤ ys.length := by omega
      have hl2 : ys.length ≤ xs.length := by omega
      have HL := Lib.hid hl
      clear hl
      go_enter Tryd.func12, Tryd.ntmps12
      go_wp2
      go_loopw [5] (fun k wr => ∃ j d : Nat, j ≤ xs.length ∧ k = .int .i64 j ∧ wr = w.drewN d ∧ Hid (xs.take j = ys.take j)) (fun k _ => xs.length - (intOf k).toNat)
      case atStart => exact ⟨0, 0, by omega, rfl, rfl, Lib.hid rfl⟩
      case round =>
        obtain ⟨j, d, hj, rfl, rfl, HT⟩ := hrel
        by_cases hlt : j < xs.length
        · have hx1 : w.cell? ⟨ba, oa + j, none⟩ = some (.int .i64 (xs[j]?.getD 0)) := hca j hlt
          have hy1 : w.cell? ⟨bb, ob + j, none⟩ = some (.int .i64 (ys[j]?.getD 0)) := hcb j (by omega)
          have i1 : (0 : Int) ≤ j ∧ (j : Int) < xs.length := by omega
          have i2 : (0 : Int) ≤ j ∧ (j : Int) < ys.length := by omega
          have ht := take_snoc_int xs j hlt
          have hu := take_snoc_int ys j (by omega)
          clear hca hcb
          generalize xs[j]?.getD 0 = x at hx1 ht
          generalize ys[j]?.getD 0 = y at hy1 hu
          by_cases hxy : x = y
          · subst hxy
            have HT' := Lib.hid (show xs.take (j + 1) = ys.take (j + 1) by rw [ht, hu, HT.out])
            have hb : (x != x) = false := by simp
            clear ht hu
            go_wp2
            go_quiet (fail)
            go_wp2
            go_roundw
            case rel => exact ⟨j + 1, d + nq, by omega, by go_num, rfl, HT'⟩
            case measure => simp [intOf]; omega
          · have hb : (x != y) = true := by simpa using hxy
            have HN := Lib.hid (show (xs == ys) = false by
              rw [beq_eq_false_iff_ne]; intro h; apply hxy
              have : xs.take (j + 1) = ys.take (j + 1) := by rw [h]
              rw [ht, hu, HT.out] at this
              simpa using this)
            clear ht hu
            go_wp2
            go_quiet (fail)
            go_wp2
            go_ret
            exact ⟨ret_bool HN.out.symm, below_drewN (below_drewN (Below.refl _ _) _) _⟩
        · obtain rfl : j = xs.length := by omega
          have HE := Lib.hid (show (xs == ys) = true by
            have := HT.out
            rw [List.take_of_length_le (Nat.le_refl _), List.take_of_length_le hl2] at this
            rw [this]; simp)
          go_wp2
          go_ret
          exact ⟨ret_bool HE.out.symm, below_drewN (Below.refl _ _) _⟩
  · have hne : ((xs.length : Int) != (ys.length : Int)) = true := by rw [bne_iff_ne]; omega
    have hr := Lib.hid (show (xs == ys) = false by rw [beq_eq_false_iff_ne]; intro h; exact hl (by rw [h]))
    obtain ⟨a1, c1, rfl⟩ := ha.form
    obtain ⟨b1, d1, rfl⟩ := hb.form
    go_enter Tryd.func12, Tryd.ntmps12
    go_wp2
    go_ret
    exact ⟨ret_bool hr.out.symm, Below.refl _ _⟩
end Go.Proofs.YtnmdihojbfhkfaaDoor
