import Derived.Test.YtbelhoeailjkkaaGraE
set_option linter.unusedSimpArgs false
set_option linter.unusedVariables false
/-! graphs: may a graph be? (the reference) -/
namespace Go.Proofs.Ytbelhoeailjkkaa.GG
theorem rowOk_nil (n : Nat) (row : List Int) : rowOk n (row.take 0) = true := by
  rw [List.take_zero]; exact row_mk (by simp) (by simp)
theorem rowOk_step {n : Nat} {row : List Int} {k : Nat} (hk : k < row.length) (h : rowOk n (row.take k) = true) (h1 : 0 ≤ row[k]?.getD 0) (h2 : row[k]?.getD 0 < n) (h3 : ∀ j, j < k → row[j]?.getD 0 ≠ row[k]?.getD 0) : rowOk n (row.take (k + 1)) = true := by
  rw [List.getElem?_eq_getElem hk] at h1 h2 h3
  simp only [Option.getD_some] at h1 h2 h3
  rw [List.take_succ_eq_append_getElem hk]
  refine row_mk (fun j hj => ?_) ?_
  · rcases List.mem_append.1 hj with h' | h'
    · exact row_in h j h'
    · rw [List.mem_singleton.1 h']; exact ⟨h1, h2⟩
  · rw [List.nodup_append]
    refine ⟨row_nodup h, by simp, fun a ha b hb e => ?_⟩
    rw [List.mem_singleton.1 hb] at e
    obtain ⟨i, hi, e2⟩ := List.mem_take_iff_getElem.1 ha
    exact h3 i (by omega) (by rw [List.getElem?_eq_getElem (show i < row.length by omega), Option.getD_some, e2, e])
theorem rowOk_all {n : Nat} {row : List Int} {k : Nat} (hk : row.length ≤ k) (h : rowOk n (row.take k) = true) : rowOk n row = true := by
  rwa [List.take_of_length_le hk] at h
theorem rows_step {to : List (List Int)} {i : Nat} (h : ∀ j, j < i → rowOk to.length (to[j]?.getD []) = true) (hi : rowOk to.length (to[i]?.getD []) = true) : ∀ j, j < i + 1 → rowOk to.length (to[j]?.getD []) = true := by
  intro j hj
  by_cases e : j = i
  · subst e; exact hi
  · exact h j (by omega)
end Go.Proofs.Ytbelhoeailjkkaa.GG
namespace Go.Proofs.Ytbelhoeailjkkaa
open Go.RowKit

set_option maxRecDepth 100000 in
set_option maxHeartbeats 3200000 in
theorem rrightG_any (a : Value) (to : List (List Int)) (n : Nat) (w : World) (ha : GraphM n w a to) (hx : Small to) :
    Calls Try.prog 24 #[a] w fun e w' => e = .returned (.bool (GG.rightG to)) ∧ ∃ d, w' = w.drewN d := by
  obtain ⟨aa, ca, rfl⟩ := ha.form
  have hx0 := hx.1
  by_cases hl : 1 ≤ to.length ∧ to.length ≤ 256
  · obtain ⟨hl1, hl2⟩ := hl
    obtain ⟨xb, xo, xc, e1⟩ := ha.addr (by omega)
    cases e1
    have HA := Lib.hid ha
    have HX := Lib.hid hx
    clear ha hx
    go_enter Try.func24, Try.ntmps24
    go_wp2_with fail
    go_loopw [3] (fun k wr => ∃ i d : Nat, i ≤ to.length ∧ k = .int .i64 (i : Int) ∧ wr = w.drewN d ∧ RowKit.Hid (∀ j, j < i → GG.rowOk to.length (to[j]?.getD []) = true)) (fun k _ => to.length - (intOf k).toNat)
    case atStart => exact ⟨0, 0, by omega, rfl, rfl, Lib.hid (fun j hj => absurd hj (Nat.not_lt_zero _))⟩
    case round =>
      obtain ⟨i, d, hi, rfl, rfl, HT⟩ := hrel
      by_cases hlt : i < to.length
      · obtain ⟨ra, rac, hx1, hrx⟩ := HA.out.at hlt
        have i1 : (0 : Int) ≤ i ∧ (i : Int) < to.length := by omega
        have b1 := HX.out.row i
        have HNO := Lib.hid (GG.right_no hlt)
        have HYES := Lib.hid (GG.rows_step HT.out)
        have HLONG := Lib.hid (fun (h : to.length < (to[i]?.getD []).length) => GG.rowOk_long h)
        obtain ⟨r, er⟩ : ∃ r, r = to[i]?.getD [] := ⟨_, rfl⟩
        rw [← er] at hx1 hrx b1 HNO HYES HLONG
        have HRX := Lib.hid hrx
        clear er hrx HT
        by_cases hrl : r.length ≤ 256
        · go_wp2_with fail
          go_loopw [4] (fun k wr => ∃ q d : Nat, q ≤ r.length ∧ k = .int .i64 (q : Int) ∧ wr = w.drewN d ∧ RowKit.Hid (GG.rowOk to.length (r.take q) = true)) (fun k _ => r.length - (intOf k).toNat)
          case atStart => exact ⟨0, _, by omega, rfl, rfl, Lib.hid (GG.rowOk_nil _ _)⟩
          case round =>
            obtain ⟨q, d', hq, rfl, rfl, HQ⟩ := hrel
            by_cases hqt : q < r.length
            · obtain ⟨xb2, xo2, rfl, hx2⟩ := HRX.out.cellAt hqt
              have i3 : (0 : Int) ≤ q ∧ (q : Int) < r.length := by omega
              have HSTEP := Lib.hid (GG.rowOk_step hqt HQ.out)
              have HBAD := Lib.hid (GG.rowOk_no (n := to.length) hqt)
              have HTW := Lib.hid (fun (j : Nat) (hj : j < q) => GG.rowOk_twice (n := to.length) hj hqt)
              obtain ⟨x, ex⟩ : ∃ x, x = r[q]?.getD 0 := ⟨_, rfl⟩
              rw [← ex] at hx2 HSTEP HBAD HTW
              clear ex HQ
              by_cases hin : 0 ≤ x ∧ x < to.length
              · obtain ⟨hin1, hin2⟩ := hin
                go_wp2_with fail
                go_loopw [5] (fun k wr => ∃ j d : Nat, j ≤ q ∧ k = .int .i64 (j : Int) ∧ wr = w.drewN d ∧ RowKit.Hid (∀ i, i < j → r[i]?.getD 0 ≠ x)) (fun k _ => q - (intOf k).toNat)
                case atStart => exact ⟨0, _, by omega, rfl, rfl, Lib.hid (fun i hi => absurd hi (Nat.not_lt_zero _))⟩
                case round =>
                  obtain ⟨j, d'', hj, rfl, rfl, HJ⟩ := hrel
                  by_cases hjt : j < q
                  · obtain ⟨xb3, xo3, e3, hx3⟩ := HRX.out.cellAt (show j < r.length by omega)
                    cases e3
                    have i4 : (0 : Int) ≤ j ∧ (j : Int) < r.length := by omega
                    have HNE := Lib.hid (fun (h : r[j]?.getD 0 ≠ x) (i : Nat) (hi : i < j + 1) => (Nat.lt_succ_iff_lt_or_eq.1 hi).elim (fun h => HJ.out i h) (fun e => by rw [e]; exact h))
                    have HEQ := Lib.hid (HTW.out j hjt)
                    obtain ⟨y, ey⟩ : ∃ y, y = r[j]?.getD 0 := ⟨_, rfl⟩
                    rw [← ey] at hx3 HNE HEQ
                    clear ey HJ
                    by_cases hxy : y = x
                    · subst hxy
                      have HS := Lib.hid (HNO.out (HEQ.out rfl))
                      have hn3 : (y == y) = true := beq_self_eq_true y
                      go_wp2_with fail
                      go_quiet (fail)
                      go_wp2_with fail
                      go_ret
                      exact ⟨ret_bool HS.out.symm, _, (by first | rfl | exact World.drewN_drewN _ _ _)⟩
                    · have HS := Lib.hid (HNE.out hxy)
                      have hn3 : (y == x) = false := beq_eq_false_iff_ne.2 hxy
                      clear hxy
                      go_wp2_with fail
                      go_quiet (fail)
                      go_wp2_with fail
                      go_roundw
                      case rel => exact ⟨j + 1, _, by omega, by go_num, (by first | rfl | exact World.drewN_drewN _ _ _), HS⟩
                      case measure => simp [intOf]; omega
                  · have HS := Lib.hid (HSTEP.out hin1 hin2 (fun i hi => HJ.out i (by omega)))
                    go_wp2_with fail
                    go_roundw
                    case rel => exact ⟨q + 1, _, by omega, by go_num, (by first | rfl | exact World.drewN_drewN _ _ _), HS⟩
                    case measure => simp [intOf]; omega
              · have HS := Lib.hid (HNO.out (HBAD.out (by unfold GG.inB; exact decide_eq_false hin)))
                by_cases h1 : 0 ≤ x
                · have h2 : ¬ x < to.length := fun h2 => hin ⟨h1, h2⟩
                  clear hin
                  go_wp2_with fail
                  go_ret
                  exact ⟨ret_bool HS.out.symm, _, rfl⟩
                · clear hin
                  go_wp2_with fail
                  go_ret
                  exact ⟨ret_bool HS.out.symm, _, rfl⟩
            · have HS := Lib.hid (HYES.out (GG.rowOk_all (by omega) HQ.out))
              go_wp2_with fail
              go_roundw
              case rel => exact ⟨i + 1, _, by omega, by go_num, rfl, HS⟩
              case measure => simp [intOf]; omega
        · have HS := Lib.hid (HNO.out (HLONG.out (by omega)))
          go_wp2_with fail
          go_ret
          exact ⟨ret_bool HS.out.symm, _, rfl⟩
      · have HS := Lib.hid (show GG.rightG to = true from GG.right_mk hl1 hl2 (fun j hj => HT.out j (by omega)))
        go_wp2_with fail
        go_ret
        exact ⟨ret_bool HS.out.symm, _, rfl⟩
  · have HS := Lib.hid (GG.right_no_len hl)
    by_cases h1 : 1 ≤ to.length
    · have h2 : ¬ to.length ≤ 256 := fun h2 => hl ⟨h1, h2⟩
      clear hl ha hx
      go_enter Try.func24, Try.ntmps24
      go_wp2_with fail
      go_ret
      exact ⟨ret_bool HS.out.symm, 0, rfl⟩
    · clear hl ha hx
      go_enter Try.func24, Try.ntmps24
      go_wp2_with fail
      go_ret
      exact ⟨ret_bool HS.out.symm, 0, rfl⟩
end Go.Proofs.Ytbelhoeailjkkaa
