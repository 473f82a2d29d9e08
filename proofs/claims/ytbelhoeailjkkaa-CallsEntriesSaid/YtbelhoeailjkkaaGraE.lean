import Derived.Test.YtbelhoeailjkkaaGraW
set_option linter.unusedSimpArgs false
set_option linter.unusedVariables false
/-! graphs: rows that are the same (written by wip/tools/gen_graeq.py) -/
namespace Go.Proofs.Ytbelhoeailjkkaa.GG
theorem take_same {α : Type} {d : α} {xs ys : List α} {j : Nat} (h1 : j < xs.length) (h2 : j < ys.length) (h : xs.take j = ys.take j) (e : xs[j]?.getD d = ys[j]?.getD d) : xs.take (j + 1) = ys.take (j + 1) := by
  rw [List.getElem?_eq_getElem h1, List.getElem?_eq_getElem h2] at e
  simp only [Option.getD_some] at e
  rw [List.take_succ_eq_append_getElem h1, List.take_succ_eq_append_getElem h2, h, e]
theorem take_whole {α : Type} {xs ys : List α} {j : Nat} (h1 : xs.length ≤ j) (h2 : ys.length ≤ j) (h : xs.take j = ys.take j) : xs = ys := by
  rwa [List.take_of_length_le h1, List.take_of_length_le h2] at h
end Go.Proofs.Ytbelhoeailjkkaa.GG
namespace Go.Proofs.Ytbelhoeailjkkaa
open Go.RowKit
theorem BRow.cellAt {n₀ : Nat} {W : World} {a : Option Addr} {n cap : Nat} {xs : List Bool} (h : BRow n₀ W (.slice a n cap) xs) {k : Nat} (hk : k < xs.length) : ∃ b off, a = some ⟨b, off, none⟩ ∧ W.cell? ⟨b, off + k, none⟩ = some (.bool (xs[k]?.getD false)) := by
  obtain ⟨b, off, cap', e, _, hc⟩ := h.at (by omega)
  cases e
  exact ⟨b, off, rfl, hc k hk⟩

set_option maxHeartbeats 1600000 in
theorem ints_any (a b : Value) (xs ys : List Int) (n : Nat) (w : World) (ha : Row n w a xs) (hb : Row n w b ys) (hx : xs.length ≤ 17592186044416) (hy : ys.length ≤ 17592186044416) :
    Calls Try.prog 12 #[a, b] w fun e w' => e = .returned (.bool (decide (xs = ys))) ∧ ∃ d, w' = w.drewN d := by
  obtain ⟨aa, ca, rfl⟩ := ha.form
  obtain ⟨ab, cb, rfl⟩ := hb.form
  by_cases hl : xs.length = ys.length
  · have hne : ((xs.length : Int) != (ys.length : Int)) = false := by rw [bne_eq_false_iff_eq]; omega
    have hl1 : xs.length ≤ ys.length := by omega
    have hl2 : ys.length ≤ xs.length := by omega
    have HL := Lib.hid hl
    have HA := Lib.hid ha
    have HB := Lib.hid hb
    clear hl ha hb
    go_enter Try.func12, Try.ntmps12
    go_wp2_with fail
    go_loopw [5] (fun k wr => ∃ j d : Nat, j ≤ xs.length ∧ k = .int .i64 (j : Int) ∧ wr = w.drewN d ∧ RowKit.Hid (xs.take j = ys.take j)) (fun k _ => xs.length - (intOf k).toNat)
    case atStart => exact ⟨0, 0, by omega, rfl, rfl, Lib.hid rfl⟩
    case round =>
      obtain ⟨j, d, hj, rfl, rfl, HT⟩ := hrel
      by_cases hlt : j < xs.length
      · obtain ⟨xb, xo, rfl, hx1⟩ := HA.out.cellAt hlt
        obtain ⟨yb, yo, rfl, hy1⟩ := HB.out.cellAt (show j < ys.length by omega)
        have i1 : (0 : Int) ≤ j ∧ (j : Int) < xs.length := by omega
        have i2 : (0 : Int) ≤ j ∧ (j : Int) < ys.length := by omega
        obtain ⟨x, ex⟩ : ∃ x, x = xs[j]?.getD 0 := ⟨_, rfl⟩
        obtain ⟨y, ey⟩ : ∃ y, y = ys[j]?.getD 0 := ⟨_, rfl⟩
        rw [← ex] at hx1
        rw [← ey] at hy1
        have EX := Lib.hid ex
        have EY := Lib.hid ey
        clear ex ey
        by_cases hxy : x = y
        · subst hxy
          have HT' := Lib.hid (GG.take_same hlt (show j < ys.length by omega) HT.out (EX.out.symm.trans EY.out))
          have hn2 : (x != x) = false := bne_self_eq_false x
          clear HT EX EY
          go_wp2_with fail
          go_quiet (fail)
          go_wp2_with fail
          go_roundw
          case rel => exact ⟨j + 1, _, by omega, by go_num, (by first | rfl | exact World.drewN_drewN _ _ _), HT'⟩
          case measure => simp [intOf]; omega
        · have HS := Lib.hid (show decide (xs = ys) = false from decide_eq_false (fun e => hxy (by rw [EX.out, EY.out, e])))
          have hn2 : (x != y) = true := bne_iff_ne.2 hxy
          clear HT EX EY hxy
          
          go_wp2_with fail
          go_quiet (fail)
          go_wp2_with fail
          go_ret
          exact ⟨ret_bool HS.out.symm, _, (by first | rfl | exact World.drewN_drewN _ _ _)⟩
      · have HS := Lib.hid (show decide (xs = ys) = true from decide_eq_true (GG.take_whole (by omega) (by omega) HT.out))
        clear HT
        go_wp2_with fail
        go_ret
        exact ⟨ret_bool HS.out.symm, _, rfl⟩
  · have hne : ((xs.length : Int) != (ys.length : Int)) = true := by rw [bne_iff_ne]; omega
    have HS := Lib.hid (show decide (xs = ys) = false from decide_eq_false (fun e => hl (by rw [e])))
    clear hl ha hb
    go_enter Try.func12, Try.ntmps12
    go_wp2_with fail
    go_ret
    exact ⟨ret_bool HS.out.symm, 0, rfl⟩

set_option maxRecDepth 100000 in
set_option maxHeartbeats 3200000 in
theorem same_any (a b : Value) (xs ys : List (List Int)) (n : Nat) (w : World) (ha : GraphM n w a xs) (hb : GraphM n w b ys) (hx : Small xs) (hy : Small ys) :
    Calls Try.prog 7 #[a, b] w fun e w' => e = .returned (.bool (decide (xs = ys))) ∧ ∃ d, w' = w.drewN d := by
  obtain ⟨aa, ca, rfl⟩ := ha.form
  obtain ⟨ab, cb, rfl⟩ := hb.form
  have hx0 := hx.1
  have hy0 := hy.1
  by_cases hl : xs.length = ys.length
  · have hne : ((xs.length : Int) != (ys.length : Int)) = false := by rw [bne_eq_false_iff_eq]; omega
    have hl1 : xs.length ≤ ys.length := by omega
    have hl2 : ys.length ≤ xs.length := by omega
    have HL := Lib.hid hl
    have HA := Lib.hid ha
    have HB := Lib.hid hb
    have HX := Lib.hid hx
    have HY := Lib.hid hy
    clear hl ha hb hx hy
    go_enter Try.func7, Try.ntmps7
    go_wp2_with fail
    go_loopw [5] (fun k wr => ∃ j d : Nat, j ≤ xs.length ∧ k = .int .i64 (j : Int) ∧ wr = w.drewN d ∧ RowKit.Hid (xs.take j = ys.take j)) (fun k _ => xs.length - (intOf k).toNat)
    case atStart => exact ⟨0, 0, by omega, rfl, rfl, Lib.hid rfl⟩
    case round =>
      obtain ⟨j, d, hj, rfl, rfl, HT⟩ := hrel
      by_cases hlt : j < xs.length
      · obtain ⟨xb, xo, xc, e1⟩ := HA.out.addr (by omega)
        cases e1
        obtain ⟨yb, yo, yc, e2⟩ := HB.out.addr (by omega)
        cases e2
        obtain ⟨ra, rac, hx1, hrx⟩ := HA.out.at hlt
        obtain ⟨rb, rbc, hy1, hry⟩ := HB.out.at (show j < ys.length by omega)
        have i1 : (0 : Int) ≤ j ∧ (j : Int) < xs.length := by omega
        have i2 : (0 : Int) ≤ j ∧ (j : Int) < ys.length := by omega
        have b1 := HX.out.row j
        have b2 := HY.out.row j
        obtain ⟨r, er⟩ : ∃ r, r = xs[j]?.getD [] := ⟨_, rfl⟩
        obtain ⟨s, es⟩ : ∃ s, s = ys[j]?.getD [] := ⟨_, rfl⟩
        rw [← er] at hx1 hrx b1
        rw [← es] at hy1 hry b2
        have EX := Lib.hid er
        have EY := Lib.hid es
        have HRX := Lib.hid hrx
        have HRY := Lib.hid hry
        clear er es hrx hry
        by_cases hrl : r.length = s.length
        · have hn2 : ((r.length : Int) != (s.length : Int)) = false := by rw [bne_eq_false_iff_eq]; omega
          have hr1 : r.length ≤ s.length := by omega
          have hr2 : s.length ≤ r.length := by omega
          clear hrl
          go_wp2_with fail
          go_quiet (fail)
          go_wp2_with fail
          go_loopw [6] (fun k wr => ∃ q d : Nat, q ≤ r.length ∧ k = .int .i64 (q : Int) ∧ wr = w.drewN d ∧ RowKit.Hid (r.take q = s.take q)) (fun k _ => r.length - (intOf k).toNat)
          case atStart => exact ⟨0, _, by omega, rfl, (by first | rfl | exact World.drewN_drewN _ _ _), Lib.hid rfl⟩
          case round =>
            obtain ⟨q, d', hq, rfl, rfl, HQ⟩ := hrel
            by_cases hqt : q < r.length
            · obtain ⟨xb2, xo2, rfl, hx2⟩ := HRX.out.cellAt hqt
              obtain ⟨yb2, yo2, rfl, hy2⟩ := HRY.out.cellAt (show q < s.length by omega)
              have i3 : (0 : Int) ≤ q ∧ (q : Int) < r.length := by omega
              have i4 : (0 : Int) ≤ q ∧ (q : Int) < s.length := by omega
              obtain ⟨x, ex⟩ : ∃ x, x = r[q]?.getD 0 := ⟨_, rfl⟩
              obtain ⟨y, ey⟩ : ∃ y, y = s[q]?.getD 0 := ⟨_, rfl⟩
              rw [← ex] at hx2
              rw [← ey] at hy2
              have EX2 := Lib.hid ex
              have EY2 := Lib.hid ey
              clear ex ey hn2
              by_cases hxy : x = y
              · subst hxy
                have HQ' := Lib.hid (GG.take_same hqt (show q < s.length by omega) HQ.out (EX2.out.symm.trans EY2.out))
                have hn3 : (x != x) = false := bne_self_eq_false x
                clear HQ EX2 EY2
                go_wp2_with fail
                go_quiet (fail)
                go_wp2_with fail
                go_roundw
                case rel => exact ⟨q + 1, _, by omega, by go_num, (by first | rfl | exact World.drewN_drewN _ _ _), HQ'⟩
                case measure => simp [intOf]; omega
              · have HS := Lib.hid (show decide (xs = ys) = false from decide_eq_false (fun e => hxy (by rw [EX2.out, EY2.out, EX.out, EY.out, e])))
                have hn3 : (x != y) = true := bne_iff_ne.2 hxy
                clear HQ EX2 EY2 hxy
                go_wp2_with fail
                go_quiet (fail)
                go_wp2_with fail
                go_ret
                exact ⟨ret_bool HS.out.symm, _, (by first | rfl | exact World.drewN_drewN _ _ _)⟩
            · have HQ' := Lib.hid (GG.take_same hlt (show j < ys.length by omega) HT.out (EX.out.symm.trans ((GG.take_whole (by omega) (by omega) HQ.out).trans EY.out)))
              clear HQ HT hn2
              go_wp2_with fail
              go_roundw
              case rel => exact ⟨j + 1, _, by omega, by go_num, rfl, HQ'⟩
              case measure => simp [intOf]; omega
        · have hn2 : ((r.length : Int) != (s.length : Int)) = true := by rw [bne_iff_ne]; omega
          have HS := Lib.hid (show decide (xs = ys) = false from decide_eq_false (fun e => hrl (by rw [EX.out, EY.out, e])))
          clear HT hrl
          go_wp2_with fail
          go_quiet (fail)
          go_wp2_with fail
          go_ret
          exact ⟨ret_bool HS.out.symm, _, (by first | rfl | exact World.drewN_drewN _ _ _)⟩
      · have HS := Lib.hid (show decide (xs = ys) = true from decide_eq_true (GG.take_whole (by omega) (by omega) HT.out))
        clear HT
        go_wp2_with fail
        go_ret
        exact ⟨ret_bool HS.out.symm, _, rfl⟩
  · have hne : ((xs.length : Int) != (ys.length : Int)) = true := by rw [bne_iff_ne]; omega
    have HS := Lib.hid (show decide (xs = ys) = false from decide_eq_false (fun e => hl (by rw [e])))
    clear hl ha hb hx hy
    go_enter Try.func7, Try.ntmps7
    go_wp2_with fail
    go_ret
    exact ⟨ret_bool HS.out.symm, 0, rfl⟩
end Go.Proofs.Ytbelhoeailjkkaa
