import Derived.Test.YtkfojieiemgliaaGraM
set_option linter.unusedSimpArgs false
set_option linter.unusedVariables false
/-! graphs: what only reads -/
namespace Go.Proofs.Ytkfojieiemgliaa
open Go.RowKit

theorem node_any (v : Value) (n : Nat) (i : Int) (w : World) (hv : ∃ a cap, v = .slice a n cap) (hn : n ≤ 17592186044416) :
    Calls Try.prog 30 #[v, .int .i64 i] w fun e w' => e = .returned (.bool (GG.inB n i)) ∧ w = w' := by
  obtain ⟨a, cap, rfl⟩ := hv
  by_cases h : 0 ≤ i ∧ i < n
  · have HS := Lib.hid (show GG.inB n i = true from decide_eq_true h)
    obtain ⟨h1, h2⟩ := h
    go_enter Try.func30, Try.ntmps30
    go_wp2_with fail
    go_ret
    exact ⟨ret_bool HS.out.symm, rfl⟩
  · have HS := Lib.hid (show GG.inB n i = false from decide_eq_false h)
    by_cases h1 : 0 ≤ i
    · have h2 : ¬ i < n := fun h2 => h ⟨h1, h2⟩
      clear h
      go_enter Try.func30, Try.ntmps30
      go_wp2_with fail
      go_ret
      exact ⟨ret_bool HS.out.symm, rfl⟩
    · clear h
      go_enter Try.func30, Try.ntmps30
      go_wp2_with fail
      go_ret
      exact ⟨ret_bool HS.out.symm, rfl⟩

set_option maxHeartbeats 800000 in
theorem leads_any (v : Value) (to : List (List Int)) (n₀ : Nat) (w : World) (hv : GraphM n₀ w v to) (hs : Small to) (a : Nat) (b : Int) (ha : a < to.length) :
    Calls Try.prog 29 #[v, .int .i64 a, .int .i64 b] w fun e w' => e = .returned (.bool (GG.leadsB to a b)) ∧ w = w' := by
  obtain ⟨bk, off, cap, rfl⟩ := hv.addr (by omega)
  obtain ⟨a', cap', hc1, hr⟩ := hv.at ha
  have hl := hs.row a
  have i1 : (0 : Int) ≤ a ∧ (a : Int) < to.length := by omega
  have HL := Lib.hid (show GG.leadsB to a b = decide (b ∈ to[a]?.getD []) from rfl)
  clear hv hs
  generalize to[a]?.getD [] = row at *
  have HR := Lib.hid hr
  clear hr
  go_enter Try.func29, Try.ntmps29
  go_wp2_with fail
  go_loop [7] (fun k => ∃ j : Nat, j ≤ row.length ∧ k = .int .i64 (j : Int) ∧ RowKit.Hid (∀ i, i < j → row[i]?.getD 0 ≠ b)) (fun k => row.length - (intOf k).toNat)
  case atStart => exact ⟨0, Nat.zero_le _, rfl, Lib.hid (fun i hi => absurd hi (Nat.not_lt_zero _))⟩
  case round =>
    obtain ⟨j, hj, rfl, HN⟩ := hrel
    by_cases hlt : j < row.length
    · obtain ⟨rb, ro, rfl, hc2⟩ := HR.out.cellAt hlt
      obtain ⟨x, hx⟩ : ∃ x, x = row[j]?.getD 0 := ⟨_, rfl⟩
      rw [← hx] at hc2
      by_cases he : x = b
      · subst he
        have HS := Lib.hid (show GG.leadsB to a x = true from HL.out.trans (decide_eq_true (hx ▸ GG.getD_mem hlt)))
        clear hx
        go_wp2_with fail
        go_ret
        exact ⟨ret_bool HS.out.symm, rfl⟩
      · have HS := Lib.hid (show ∀ i, i < j + 1 → row[i]?.getD 0 ≠ b from fun i hi => (Nat.lt_succ_iff_lt_or_eq.1 hi).elim (fun h => HN.out i h) (fun h => by rw [h, ← hx]; exact he))
        have he' : (x == b) = false := beq_eq_false_iff_ne.2 he
        clear hx he
        go_wp2_with fail
        go_round
        case rel => exact ⟨j + 1, by omega, by go_num, HS⟩
        case measure => simp [intOf]; omega
    · have HS := Lib.hid (show GG.leadsB to a b = false from HL.out.trans (decide_eq_false (fun hm => by
        obtain ⟨i, hi, e⟩ := List.getElem_of_mem hm
        exact HN.out i (by omega) (by rw [List.getElem?_eq_getElem hi]; exact e))))
      go_wp2_with fail
      go_ret
      exact ⟨ret_bool HS.out.symm, rfl⟩
end Go.Proofs.Ytkfojieiemgliaa
