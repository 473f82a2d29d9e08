import Derived.Test.YtnmdihojbfhkfaaDoorMaskList
/-! the set of a list -/
namespace Go.Proofs.YtnmdihojbfhkfaaDoor
set_option linter.unusedVariables false
open Go.RowKit

set_option maxHeartbeats 400000 in
theorem of_any (v : Value) (xs : List Int) (n : Nat) (w : World) (hv : Ints n w v xs) (hx : xs.length ≤ 1000000) :
    Calls Tryd.prog 13 #[v] w fun e w' => e = .returned (.tuple #[.int .u64 (MM.ofM xs), .bool (MM.allIn xs)]) ∧ w = w' := by
  rcases hv with ⟨⟨_, _, rfl⟩, rfl⟩ | ⟨b, off, cap, rfl, hb, _, hc⟩
  · go_enter Tryd.func13, Tryd.ntmps13
    go_wp2
    go_loop [4, 10] (fun m k => m = .int .u64 0 ∧ k = .int .i64 0) (fun _ _ => 0)
    case atStart => exact ⟨rfl, rfl⟩
    case round =>
      obtain ⟨rfl, rfl⟩ := hrel
      go_wp2
      go_ret2
      exact ⟨rfl, rfl⟩
  · go_enter Tryd.func13, Tryd.ntmps13
    go_wp2
    go_loop [4, 10] (fun m k => ∃ j : Nat, j ≤ xs.length ∧ k = .int .i64 j ∧ m = .int .u64 (MM.foldW (xs.take j)) ∧ MM.allIn (xs.take j) = true) (fun _ k => xs.length - (intOf k).toNat)
    case atStart => exact ⟨0, by omega, rfl, rfl, rfl⟩
    case round =>
      obtain ⟨j, hj, rfl, rfl, hall⟩ := hrel
      have hbd := MM.foldW_bd (xs.take j)
      have HA := Lib.hid hall
      clear hall
      by_cases hlt : j < xs.length
      · have ht := take_snoc_int xs j hlt
        have hx1 : w.cell? ⟨b, off + j, none⟩ = some (.int .i64 (xs[j]?.getD 0)) := hc j hlt
        clear hc
        generalize xs[j]?.getD 0 = x at hx1 ht
        by_cases hin : 0 ≤ x ∧ x < 64
        · have h1 := Lib.hid (MM.all_yes _ _ _ ht HA.out hin)
          have h2 := Lib.hid (show bits .or .u64 (MM.foldW (xs.take j)) (MM.bitI x) = MM.foldW (xs.take (j + 1)) by rw [ht, MM.foldW_snoc, MM.or_with _ _ hbd.1 hbd.2])
          have hz := MM.bit_nz x hin
          clear ht hin
          generalize MM.foldW (xs.take j) = f at hbd h2
          go_wp2_with (go_at_call 20; refine (bit_any _ _).mono ?_; rintro e w' ⟨rfl, rfl⟩)
          go_round
          case rel => exact ⟨j + 1, by omega, by go_num, by rw [h2.out], h1.out⟩
          case measure => simp [intOf]; omega
        · have h1 := Lib.hid (MM.allIn_take xs (j + 1) (MM.all_no _ _ _ ht hin))
          have h2 := Lib.hid (MM.ofM_no xs h1.out)
          have hz := MM.bit_z x hin
          clear ht hin
          go_wp2_with (go_at_call 20; refine (bit_any _ _).mono ?_; rintro e w' ⟨rfl, rfl⟩)
          go_ret2
          exact ⟨ret_ib h2.out.symm h1.out.symm, rfl⟩
      · obtain rfl : j = xs.length := by omega
        have h1 := Lib.hid (show MM.allIn xs = true by have := HA.out; rwa [List.take_of_length_le (Nat.le_refl _)] at this)
        have h2 := Lib.hid (MM.ofM_yes xs h1.out)
        clear hc
        go_wp2
        go_ret2
        exact ⟨ret_ib h2.out.symm h1.out.symm, rfl⟩

end Go.Proofs.YtnmdihojbfhkfaaDoor
