import Derived.Test.YthjfgfgkbfhdfaaGreatDoorPolA
import Derived.Laws.StructEq
set_option linter.unusedSimpArgs false
set_option linter.unusedVariables false
/-! policy: the reference's Same, of two that are the same -/
namespace Go.Proofs.YthjfgfgkbfhdfaaGreatDoor
open Go.RowKit

theorem eq_chan (s : ByteArray) (x : Int) (w : World) : (Op.equalIn 10000 40 (.agg #[.string s, .int .i64 x]) (.agg #[.string s, .int .i64 x])).run Tryz.prog w = .ok true w := by
  go_simp
theorem PolV.below {w W : World} {v : Value} {st : PSt} {S : List Int} (h : PolV w v st S) (hb : Below w.heap.size w W) : PolV W v st S := by
  obtain ⟨vL, vU, vI, vO, rfl, h0, h1, h2, h3⟩ := h
  exact ⟨vL, vU, vI, vO, rfl, strs_on h0 hb, nums_on h1 hb, chans_on h2 hb, chans_on h3 hb⟩
theorem strs_cell {n : Nat} {W : World} {a : Option Addr} {c : Nat} {ss : List ByteArray} (h : Strs n W (.slice a ss.length c) ss) {j : Nat} (hj : j < ss.length) : ∃ b off, a = some ⟨b, off, none⟩ ∧ ss.length ≤ c ∧ W.cell? ⟨b, off + j, none⟩ = some (.string (wd6 ss j)) := by
  obtain ⟨b, off, cap, e, _, hc, hcell⟩ := h.one (by omega)
  simp only [Value.slice.injEq] at e
  obtain ⟨rfl, _, rfl⟩ := e
  exact ⟨b, off, rfl, hc, hcell j hj⟩
theorem chans_cell {n : Nat} {W : World} {a : Option Addr} {c : Nat} {cs : List (ByteArray × Int)} (h : Chans n W (.slice a cs.length c) cs) {j : Nat} (hj : j < cs.length) :
    ∃ b off, a = some ⟨b, off, none⟩ ∧ cs.length ≤ c ∧ W.cell? ⟨b, off + j * 2, none⟩ = some (.string (cs[j]?.getD (⟨#[]⟩, 0)).1) ∧ W.cell? ⟨b, off + j * 2 + 1, none⟩ = some (.int .i64 (cs[j]?.getD (⟨#[]⟩, 0)).2) := by
  rcases h with ⟨_, rfl⟩ | ⟨b, off, cap, e, _, hc, hcell⟩
  · simp at hj
  · simp only [Value.slice.injEq] at e
    obtain ⟨rfl, _, rfl⟩ := e
    exact ⟨b, off, rfl, hc, hcell j hj⟩

set_option maxRecDepth 100000 in
set_option maxHeartbeats 6400000 in
theorem rsame6_any (a b : Value) (st : PSt) (S : List Int) (w : World) (ha : PolV w a st S) (hb : PolV w b st S) (l0 : st.L.length ≤ 9223372036854775807) (l1 : S.length ≤ 9223372036854775807) (l2 : st.I.length ≤ 9223372036854775807) (l3 : st.O.length ≤ 9223372036854775807) :
    Calls Tryz.prog 13 #[a, b] w fun e w' => e = .returned (.bool true) ∧ Below w.heap.size w w' := by
  obtain ⟨vL, vU, vI, vO, rfl, a0, a1, a2, a3⟩ := ha
  obtain ⟨uL, uU, uI, uO, rfl, b0, b1, b2, b3⟩ := hb
  obtain ⟨xL, cL, rfl⟩ := a0.form
  obtain ⟨xU, cU, rfl⟩ := a1.form
  obtain ⟨xI, cI, rfl⟩ := a2.form
  obtain ⟨xO, cO, rfl⟩ := a3.form
  obtain ⟨yL, dL, rfl⟩ := b0.form
  obtain ⟨yU, dU, rfl⟩ := b1.form
  obtain ⟨yI, dI, rfl⟩ := b2.form
  obtain ⟨yO, dO, rfl⟩ := b3.form
  have hA : Below w.heap.size w ((w.alloc (.cells #[.slice xL st.L.length cL, .slice xU S.length cU, .slice xI st.I.length cI, .slice xO st.O.length cO, .int .i64 st.D] 26)).alloc (.cells #[.slice yL st.L.length dL, .slice yU S.length dU, .slice yI st.I.length dI, .slice yO st.O.length dO, .int .i64 st.D] 26)) := ((Below.refl _ _).alloc (Nat.le_refl _) _).alloc (by simp) _
  have HA := Lib.hid hA
  have g0 : ((w.alloc (.cells #[.slice xL st.L.length cL, .slice xU S.length cU, .slice xI st.I.length cI, .slice xO st.O.length cO, .int .i64 st.D] 26)).alloc (.cells #[.slice yL st.L.length dL, .slice yU S.length dU, .slice yI st.I.length dI, .slice yO st.O.length dO, .int .i64 st.D] 26)).heap[w.heap.size]? = some (.cells #[.slice xL st.L.length cL, .slice xU S.length cU, .slice xI st.I.length cI, .slice xO st.O.length cO, .int .i64 st.D] 26) := by
    show ((w.heap.push _).push _)[w.heap.size]? = _; simp [Array.getElem?_push]
  have g1 : ((w.alloc (.cells #[.slice xL st.L.length cL, .slice xU S.length cU, .slice xI st.I.length cI, .slice xO st.O.length cO, .int .i64 st.D] 26)).alloc (.cells #[.slice yL st.L.length dL, .slice yU S.length dU, .slice yI st.I.length dI, .slice yO st.O.length dO, .int .i64 st.D] 26)).heap[w.heap.size + 1]? = some (.cells #[.slice yL st.L.length dL, .slice yU S.length dU, .slice yI st.I.length dI, .slice yO st.O.length dO, .int .i64 st.D] 26) :=
    new_block (w := w.alloc (.cells #[.slice xL st.L.length cL, .slice xU S.length cU, .slice xI st.I.length cI, .slice xO st.O.length cO, .int .i64 st.D] 26)) rfl (by simp)
  have A0 := Lib.hid (strs_on a0 hA)
  have A1 := Lib.hid (nums_on a1 hA)
  have A2 := Lib.hid (chans_on a2 hA)
  have A3 := Lib.hid (chans_on a3 hA)
  have B0 := Lib.hid (strs_on b0 hA)
  have B1 := Lib.hid (nums_on b1 hA)
  have B2 := Lib.hid (chans_on b2 hA)
  have B3 := Lib.hid (chans_on b3 hA)
  obtain ⟨p0, p1, p2, p3, p4⟩ := block_cells g0
  obtain ⟨q0, q1, q2, q3, q4⟩ := block_cells g1
  clear a0 a1 a2 a3 b0 b1 b2 b3 hA
  have hzz : w.heap.size + 1 < ((w.alloc (.cells #[.slice xL st.L.length cL, .slice xU S.length cU, .slice xI st.I.length cI, .slice xO st.O.length cO, .int .i64 st.D] 26)).alloc (.cells #[.slice yL st.L.length dL, .slice yU S.length dU, .slice yI st.I.length dI, .slice yO st.O.length dO, .int .i64 st.D] 26)).heap.size := by simp
  have G0 := Lib.hid g0
  have G1 := Lib.hid g1
  clear g0 g1
  go_enter Tryz.func13, Tryz.ntmps13
  go_wp2_with fail
  refine (rsame5_any _ _ S S _ _ A1.out B1.out l1 l1).mono ?_
  rintro e w1 ⟨rfl, hb1⟩
  rw [show (S == S) = true from beq_self_eq_true S]
  have z1 : w.heap.size < ((w.alloc (.cells #[.slice xL st.L.length cL, .slice xU S.length cU, .slice xI st.I.length cI, .slice xO st.O.length cO, .int .i64 st.D] 26)).alloc (.cells #[.slice yL st.L.length dL, .slice yU S.length dU, .slice yI st.I.length dI, .slice yO st.O.length dO, .int .i64 st.D] 26)).heap.size := Nat.lt_trans (Nat.lt_succ_self _) hzz
  have C0 := Lib.hid (strs_on A0.out hb1)
  have C2 := Lib.hid (chans_on A2.out hb1)
  have C3 := Lib.hid (chans_on A3.out hb1)
  have D0 := Lib.hid (strs_on B0.out hb1)
  have D2 := Lib.hid (chans_on B2.out hb1)
  have D3 := Lib.hid (chans_on B3.out hb1)
  have H0 := Lib.hid ((hb1.block _ z1).trans G0.out)
  have H1 := Lib.hid ((hb1.block _ hzz).trans G1.out)
  have HB := Lib.hid (bstep HA.out hb1)
  clear p0 p1 p2 p3 p4 q0 q1 q2 q3 q4 A0 A1 A2 A3 B0 B1 B2 B3 G0 G1 hb1 z1 hzz HA
  obtain ⟨p0, p1, p2, p3, p4⟩ := block_cells H0.out
  obtain ⟨q0, q1, q2, q3, q4⟩ := block_cells H1.out
  go_wp2_with fail
  go_loopw [5] (fun k wr => ∃ j m : Nat, j ≤ st.L.length ∧ k = .int .i64 (j : Int) ∧ wr = w1.drewN m) (fun k _ => st.L.length - (intOf k).toNat)
  case atStart => exact ⟨0, 0, Nat.zero_le _, rfl, rfl⟩
  case round =>
    obtain ⟨j, m, hj, rfl, rfl⟩ := hrel
    by_cases hlt : j < st.L.length
    · obtain ⟨b, off, rfl, hc1, hc2⟩ := strs_cell C0.out hlt
      obtain ⟨b', off', rfl, hd1, hd2⟩ := strs_cell D0.out hlt
      have i1 : (0 : Int) ≤ j ∧ (j : Int) < st.L.length := by omega
      generalize wd6 st.L j = q at *
      go_wp2_with fail
      go_quiet (fail)
      go_wp2_with fail
      go_roundw
      case rel => exact ⟨j + 1, _, by omega, by go_num, rfl⟩
      case measure => simp [intOf]; omega
    · obtain rfl : j = st.L.length := by omega
      go_wp2_with fail
      clear hj hlt
      go_loopw [6] (fun k wr => ∃ j m : Nat, j ≤ st.I.length ∧ k = .int .i64 (j : Int) ∧ wr = w1.drewN m) (fun k _ => st.I.length - (intOf k).toNat)
      case atStart => exact ⟨0, m, Nat.zero_le _, rfl, rfl⟩
      case round =>
        obtain ⟨j2, m2, hj2, rfl, rfl⟩ := hrel
        by_cases hlt2 : j2 < st.I.length
        · obtain ⟨b, off, rfl, hc1, hc2, hc3⟩ := chans_cell C2.out hlt2
          obtain ⟨b', off', rfl, hd1, hd2, hd3⟩ := chans_cell D2.out hlt2
          have i1 : (0 : Int) ≤ j2 ∧ (j2 : Int) < st.I.length := by omega
          generalize (st.I[j2]?.getD (⟨#[]⟩, 0)).1 = q at *
          generalize (st.I[j2]?.getD (⟨#[]⟩, 0)).2 = x at *
          have hE := eq_chan q x
          go_wp2_with fail
          go_quiet (fail)
          go_wp2_with fail
          go_roundw
          case rel => exact ⟨j2 + 1, _, by omega, by go_num, rfl⟩
          case measure => simp [intOf]; omega
        · obtain rfl : j2 = st.I.length := by omega
          go_wp2_with fail
          clear hj2 hlt2
          go_loopw [7] (fun k wr => ∃ j m : Nat, j ≤ st.O.length ∧ k = .int .i64 (j : Int) ∧ wr = w1.drewN m) (fun k _ => st.O.length - (intOf k).toNat)
          case atStart => exact ⟨0, m2, Nat.zero_le _, rfl, rfl⟩
          case round =>
            obtain ⟨j3, m3, hj3, rfl, rfl⟩ := hrel
            by_cases hlt3 : j3 < st.O.length
            · obtain ⟨b, off, rfl, hc1, hc2, hc3⟩ := chans_cell C3.out hlt3
              obtain ⟨b', off', rfl, hd1, hd2, hd3⟩ := chans_cell D3.out hlt3
              have i1 : (0 : Int) ≤ j3 ∧ (j3 : Int) < st.O.length := by omega
              generalize (st.O[j3]?.getD (⟨#[]⟩, 0)).1 = q at *
              generalize (st.O[j3]?.getD (⟨#[]⟩, 0)).2 = x at *
              have hE := eq_chan q x
              go_wp2_with fail
              go_quiet (fail)
              go_wp2_with fail
              go_roundw
              case rel => exact ⟨j3 + 1, _, by omega, by go_num, rfl⟩
              case measure => simp [intOf]; omega
            · obtain rfl : j3 = st.O.length := by omega
              go_wp2_with fail
              go_ret
              exact ⟨rfl, bdN HB.out _⟩
end Go.Proofs.YthjfgfgkbfhdfaaGreatDoor
