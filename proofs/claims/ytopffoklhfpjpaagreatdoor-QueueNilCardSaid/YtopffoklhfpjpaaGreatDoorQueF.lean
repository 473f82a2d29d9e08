import Derived.Test.YtopffoklhfpjpaaGreatDoorQueR
set_option linter.unusedSimpArgs false
set_option linter.unusedVariables false
/-! queue: the rows of inputs -/
namespace Go.Proofs.YtopffoklhfpjpaaGreatDoor
open Go.RowKit
def rowAt (to : List (List Int)) (j : Nat) : List Int := to[j]?.getD []
/-- may inputs be, of so many? -/
def fillOk (n : Nat) (to : List (List Int)) : Bool := decide (to.length ≤ n) && to.all (fun l => decide (l.length ≤ 4096))
def partAt (to : List (List Int)) (i j : Nat) : List Int := if j < i then rowAt to j else []
theorem fill_no {n : Nat} {to : List (List Int)} {i : Nat} (hi : i < to.length) (h : 4096 < (rowAt to i).length) : fillOk n to = false := by
  cases e : fillOk n to with
  | false => rfl
  | true =>
    unfold fillOk at e
    rw [Bool.and_eq_true, List.all_eq_true] at e
    have h2 := of_decide_eq_true (e.2 _ (List.getElem_mem hi))
    unfold rowAt at h
    rw [List.getElem?_eq_getElem hi, Option.getD_some] at h
    omega
theorem fill_yes {n : Nat} {to : List (List Int)} (hn : to.length ≤ n) (h : ∀ j, j < to.length → (rowAt to j).length ≤ 4096) : fillOk n to = true := by
  unfold fillOk
  rw [Bool.and_eq_true, List.all_eq_true]
  refine ⟨decide_eq_true hn, fun x hx => decide_eq_true ?_⟩
  obtain ⟨j, hj, rfl⟩ := List.getElem_of_mem hx
  have := h j hj
  unfold rowAt at this
  rwa [List.getElem?_eq_getElem hj, Option.getD_some] at this
theorem fill_len {n : Nat} {to : List (List Int)} (h : fillOk n to = true) : to.length ≤ n := by
  unfold fillOk at h
  rw [Bool.and_eq_true] at h
  exact of_decide_eq_true h.1
theorem fill_row {n : Nat} {to : List (List Int)} (h : fillOk n to = true) (j : Nat) : (rowAt to j).length ≤ 4096 := by
  unfold fillOk at h
  rw [Bool.and_eq_true, List.all_eq_true] at h
  unfold rowAt
  cases e : to[j]? with
  | none => simp
  | some x => exact of_decide_eq_true (h.2 x (List.mem_of_getElem? e))
theorem part_set (to : List (List Int)) (i j : Nat) : (if j = i then rowAt to i else partAt to i j) = partAt to (i + 1) j := by
  unfold partAt
  by_cases e : j = i
  · subst e; rw [if_pos rfl, if_pos (by omega)]
  · rw [if_neg e]
    by_cases e2 : j < i
    · rw [if_pos e2, if_pos (by omega)]
    · rw [if_neg e2, if_neg (by omega)]
theorem part_all (to : List (List Int)) (j : Nat) : partAt to to.length j = rowAt to j := by
  unfold partAt rowAt
  split
  · rfl
  · rw [List.getElem?_eq_none (by omega)]; rfl
def FillE (n : Nat) (to : List (List Int)) (e : Ending) (w w' : World) : Prop :=
  Below w.heap.size w w' ∧ ((fillOk n to = true ∧ ∃ rb vs, e = .returned (.tuple #[.slice (some ⟨rb, 0, none⟩) n n, .bool true]) ∧ TabQ w.heap.size w' rb n vs (rowAt to)) ∨ (fillOk n to = false ∧ e = .returned (.tuple #[.slice none 0 0, .bool false])))
/-- a row is copied -/
theorem fill_step {B : Nat} {W wr w1 : World} {rb n m i : Nat} {vs : Nat → Value} {rows : Nat → List Int} {v : Value} {r : List Int} (hT : TabQ B wr rb n vs rows) (hB : Below B W wr) (hs : B ≤ wr.heap.size) (hi : i < n) (ho : w1.ownsRow B 2 1 v (0 + m) ([] ++ intsV r)) (hg : wr.grownBy w1 (Value.slice none 0 0).ownBlock) :
    w1.cell? ⟨rb, i, none⟩ = some (vs i) ∧ w1.frozen? ⟨rb, i, none⟩ = false ∧ TabQ B (w1.setCell ⟨rb, i, none⟩ v) rb n (fun j => if j = i then v else vs j) (fun j => if j = i then r else rows j) ∧ Below B W (w1.setCell ⟨rb, i, none⟩ v) := by
  have hb : Below wr.heap.size wr w1 := ⟨hg.os, hg.tape, hg.output, hg.size, fun k hk => hg.block k hk (fun e => by cases e)⟩
  have h1 := hT.on hb
  exact ⟨World.rowIs.cell h1.tab hi, World.rowIs.frozen h1.tab i, h1.set i (IRow.of_own (QQ.own00 ho)), (hB.trans (hb.mono hs)).setCell hT.base _⟩

set_option maxRecDepth 100000 in
set_option maxHeartbeats 3200000 in
theorem fill_any (v0 v1 v3 v4 : Value) (a2 : Option Addr) (n c2 : Nat) (a : Value) (to : List (List Int)) (w : World) (hn : n ≤ 4294967296) (ha : GraphM w.heap.size w a to) (hx : Small to) :
    Calls Tryz.prog 30 #[.agg #[v0, v1, .slice a2 n c2, v3, v4], a] w fun e w' => FillE n to e w w' := by
  obtain ⟨aa, ca, rfl⟩ := ha.form
  obtain ⟨i0, hi, hz0, hz1, hz2⟩ := info_parts Tryz.infoQInt
  have HA := Lib.hid ha
  have HX := Lib.hid hx
  have hx0 := hx.1
  have HB0 := Lib.hid ((Below.refl w.heap.size w).alloc (Nat.le_refl _) (.cells #[v0, v1, .slice a2 n c2, v3, v4] 26))
  clear ha hx
  by_cases h0 : n < to.length
  · have t1 : decide (n < to.length) = true := decide_eq_true h0
    have HF := Lib.hid (show fillOk n to = false by unfold fillOk; rw [decide_eq_false (by omega)]; rfl)
    clear h0
    go_enter Tryz.func30, Tryz.ntmps30
    go_wp2_with fail
    go_ret2
    exact ⟨HB0.out, .inr ⟨HF.out, rfl⟩⟩
  · have t1 : decide (n < to.length) = false := decide_eq_false h0
    have h0' : to.length ≤ n := by omega
    have hmk := run_make_row' (P := Tryz.prog) 72 29 (.slice none 0 0) 24 (by kernel_rfl) Tryz.infoQRow rfl .i64 .i64 n (by omega) (by omega)
    have H1 := Lib.hid (show TabQ w.heap.size ((w.alloc (.cells #[v0, v1, .slice a2 n c2, v3, v4] 26)).alloc (.cells (madeCells #[.slice none 0 0] n) 29)) (w.heap.size + 1) n (fun _ => .slice none 0 0) (fun _ => []) by
      have h := TabQ.made (B := w.heap.size) (W := w.alloc (.cells #[v0, v1, .slice a2 n c2, v3, v4] 26)) (by simp) n
      have e : (w.alloc (.cells #[v0, v1, .slice a2 n c2, v3, v4] 26)).heap.size = w.heap.size + 1 := by simp
      rw [e] at h
      exact h)
    have HB1 := Lib.hid (HB0.out.alloc HB0.out.size (.cells (madeCells #[.slice none 0 0] n) 29))
    clear h0
    go_enter Tryz.func30, Tryz.ntmps30
    go_wp2_with fail
    clear hmk
    go_loopw [21] (fun k wr => ∃ (i : Nat) (vs : Nat → Value), i ≤ to.length ∧ k = .int .i64 (i : Int) ∧ TabQ w.heap.size wr (w.heap.size + 1) n vs (partAt to i) ∧ Below w.heap.size w wr ∧ RowKit.Hid (∀ j, j < i → (rowAt to j).length ≤ 4096)) (fun k _ => to.length - (intOf k).toNat)
    case atStart => exact ⟨0, _, by omega, rfl, H1.out.congr (fun j _ => by unfold partAt; rw [if_neg (Nat.not_lt_zero _)]), HB1.out, Lib.hid (fun j hj => absurd hj (Nat.not_lt_zero _))⟩
    case round =>
      obtain ⟨i, vs, hi', rfl, hT, hB, HS⟩ := hrel
      have HT := Lib.hid hT
      have HB := Lib.hid hB
      clear hT hB H1 HB1
      by_cases hlt : i < to.length
      · obtain ⟨xb, xo, xc, e1⟩ := HA.out.addr (by omega)
        cases e1
        obtain ⟨ra, rac, hx1, hrx⟩ := (HA.out.below HB.out).at hlt
        have i1 : (0 : Int) ≤ i ∧ (i : Int) < to.length := by omega
        have i2 : (0 : Int) ≤ i ∧ (i : Int) < n := by omega
        have HNO := Lib.hid (fun h => fill_no (n := n) hlt h)
        have HP := Lib.hid (part_set to i)
        have HSN := Lib.hid (fun (h : (rowAt to i).length ≤ 4096) (j : Nat) (hj : j < i + 1) => (Nat.lt_succ_iff_lt_or_eq.1 hj).elim (HS.out j) (fun e => by rw [e]; exact h))
        obtain ⟨r, er⟩ : ∃ r, r = rowAt to i := ⟨_, rfl⟩
        change wr.cell? _ = some (.slice ra (rowAt to i).length rac) at hx1
        change Row w.heap.size wr (.slice ra (rowAt to i).length rac) (rowAt to i) at hrx
        rw [← er] at hx1 hrx HNO HP HSN
        have HRX := Lib.hid (Cells.src (show Cells w.heap.size wr (.slice ra r.length rac) (intsV r) from hrx))
        clear er hrx
        by_cases hr : 4096 < r.length
        · have t2 : decide (4096 < r.length) = true := decide_eq_true hr
          have t3 : decide ((4096 : Int) < (r.length : Int)) = true := decide_eq_true (by omega)
          have HN := Lib.hid (HNO.out hr)
          clear hr
          go_wp2_with fail
          go_ret2
          exact ⟨HB.out, .inr ⟨HN.out, rfl⟩⟩
        · have t2 : decide (4096 < r.length) = false := decide_eq_false hr
          have t3 : decide ((4096 : Int) < (r.length : Int)) = false := decide_eq_false (by omega)
          have hr' : r.length ≤ 4096 := by omega
          have HSS := Lib.hid (HSN.out hr')
          clear hr
          go_wp2_with (first
            | (at_builtin
               go_loud (
               refine wpList_append_any rfl _ _ 29 rfl w.heap.size 2 i0 (.int .i64 0) 1 8 Tryz.underlying29 hi hz0 hz1 hz2 rfl (by decide) (.slice none 0 0) 0 [] rfl (World.ownsRow_nil _ _ _ _) (.slice ra r.length rac) r.length (intsV r) rfl (by rw [intsV_len, Nat.mul_one]) (by have h := HRX.out; rw [intsV_len] at h; exact h) (QQ.oneInts r) (by unfold maxLen; omega) (by omega) (by have := HB.out.size; omega) ?_
               intro v1 w1 ho hg
               obtain ⟨va, vc, rfl⟩ := QQ.ownOf (QQ.own00 ho)
               have HD := Lib.hid (fill_step (i := i) HT.out HB.out HB.out.size (by omega) ho hg)
               have hcw := HD.out.1
               have hfw := HD.out.2.1
               clear ho hg)))
          go_roundw
          case rel => exact ⟨i + 1, _, by omega, by go_num, HD.out.2.2.1.congr (fun j _ => HP.out j), HD.out.2.2.2, HSS⟩
          case measure => simp [intOf]; omega
      · have HF := Lib.hid (show fillOk n to = true from fill_yes h0' (fun j hj => HS.out j (by omega)))
        have HE := Lib.hid (show TabQ w.heap.size wr (w.heap.size + 1) n vs (rowAt to) from HT.out.congr (fun j _ => by rw [show i = to.length by omega]; exact part_all to j))
        go_wp2_with fail
        go_ret2
        exact ⟨HB.out, .inl ⟨HF.out, _, _, rfl, HE.out⟩⟩
end Go.Proofs.YtopffoklhfpjpaaGreatDoor
