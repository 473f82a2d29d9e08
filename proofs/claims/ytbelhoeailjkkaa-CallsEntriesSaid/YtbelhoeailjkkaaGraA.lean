import Derived.Test.YtbelhoeailjkkaaGraR
import Derived.Great.Walk
set_option linter.unusedSimpArgs false
set_option linter.unusedVariables false
/-! graphs: an array of 256 bools -/
namespace Go.Proofs.Ytbelhoeailjkkaa
open Go.RowKit
def falses : Array Value := Array.replicate 256 (.bool false)
theorem info46 : (Try.prog.info? 48).map (fun i => (i.zero, i.size)) = some (some (.agg falses), 256) := by kernel_rfl
theorem run_zero46 (w : World) : (zeroValue 48).run Try.prog w = .ok (.agg falses) w := by
  have h := info46
  cases hi : Try.prog.info? 48 with
  | none => rw [hi] at h; cases h
  | some i =>
    rw [hi] at h
    simp only [Option.map_some, Option.some.injEq, Prod.mk.injEq] at h
    simp [zeroValue, typeInfo, hi, h.1]

/-- 256 flags -/
def Flags (W : World) (g : Nat) (B : Nat → Bool) : Prop := W.rowIs g 48 256 (fun i => .bool (B i))
theorem Flags.cell {W : World} {g : Nat} {B : Nat → Bool} (h : Flags W g B) {i : Nat} (hi : i < 256) : W.cell? ⟨g, i, none⟩ = some (.bool (B i)) := World.rowIs.cell h hi
theorem Flags.frozen {W : World} {g : Nat} {B : Nat → Bool} (h : Flags W g B) (i : Nat) : W.frozen? ⟨g, i, none⟩ = false := World.rowIs.frozen h i
theorem Flags.lt {W : World} {g : Nat} {B : Nat → Bool} (h : Flags W g B) : g < W.heap.size := World.rowIs.lt h
theorem Flags.of_block {W W' : World} {g : Nat} {B : Nat → Bool} (h : Flags W g B) (e : W'.heap[g]? = W.heap[g]?) : Flags W' g B := World.rowIs.of_block h e
theorem Flags.congr {W : World} {g : Nat} {B C : Nat → Bool} (h : Flags W g B) (e : ∀ i, i < 256 → B i = C i) : Flags W g C := World.rowIs.congr h (fun i hi => by rw [e i hi])
theorem Flags.set {W : World} {g : Nat} {B : Nat → Bool} (h : Flags W g B) (i : Nat) : Flags (W.setCell ⟨g, i, none⟩ (.bool true)) g (GG.setB B i) := by
  refine World.rowIs.congr (World.rowIs.set h i (.bool true)) (fun j _ => ?_)
  unfold GG.setB
  by_cases e : j = i <;> simp [e]
theorem flags_new (W : World) : Flags (W.alloc (.cells falses 48)) W.heap.size (fun _ => false) := by
  have h := World.rowIs_alloc W falses 48 (fun _ => .bool false) (fun i hi => by unfold falses at hi ⊢; rw [Array.size_replicate] at hi; simp [hi])
  have e : falses.size = 256 := by simp [falses]
  rw [e] at h
  exact h
/-- what has been gone of a row -/
def goneB (row : List Int) (q : Nat) (x : Nat) : Bool := decide ((x : Int) ∈ row.take q)
theorem gone_zero (row : List Int) (x : Nat) : false = goneB row 0 x := by simp [goneB]
theorem gone_succ {row : List Int} {q : Nat} (hq : q < row.length) (h0 : 0 ≤ row[q]?.getD 0) (x : Nat) : GG.setB (goneB row q) (row[q]?.getD 0).toNat x = goneB row (q + 1) x := by
  rw [List.getElem?_eq_getElem hq] at h0 ⊢
  simp only [Option.getD_some] at h0 ⊢
  unfold goneB GG.setB
  rw [List.take_succ_eq_append_getElem hq]
  by_cases e : x = (row[q]).toNat
  · subst e
    rw [if_pos rfl, Int.toNat_of_nonneg h0]
    exact (decide_eq_true (List.mem_append.2 (.inr (List.mem_singleton.2 rfl)))).symm
  · rw [if_neg e]
    have : (x : Int) ≠ row[q] := fun h => e (by omega)
    simp only [List.mem_append, List.mem_singleton, this, or_false]
theorem gone_at {row : List Int} {q : Nat} (h0 : 0 ≤ row[q]?.getD 0) (h : goneB row q (row[q]?.getD 0).toNat = true) : ∃ j, j < q ∧ row[j]?.getD 0 = row[q]?.getD 0 := by
  unfold goneB at h
  have h := of_decide_eq_true h
  rw [Int.toNat_of_nonneg h0] at h
  obtain ⟨i, hi, e⟩ := List.mem_take_iff_getElem.1 h
  exact ⟨i, by omega, by rw [List.getElem?_eq_getElem (show i < row.length by omega), Option.getD_some, e]⟩
theorem gone_no {row : List Int} {q : Nat} (h0 : 0 ≤ row[q]?.getD 0) (h : goneB row q (row[q]?.getD 0).toNat = false) (j : Nat) (hj : j < q) (hq : q < row.length) : row[j]?.getD 0 ≠ row[q]?.getD 0 := by
  intro e
  unfold goneB at h
  refine (of_decide_eq_false h) ?_
  rw [Int.toNat_of_nonneg h0, ← e, List.getElem?_eq_getElem (show j < row.length by omega), Option.getD_some]
  exact List.mem_take_iff_getElem.2 ⟨j, by omega, rfl⟩
theorem bcell0 {W : World} {A B : World} (h : Below W.heap.size W A) (g : Below W.heap.size W B) (b o : Nat) (hb : b < W.heap.size) : B.cell? ⟨b, o, none⟩ = A.cell? ⟨b, o, none⟩ := (g.cell (p := ⟨b, o, none⟩) hb).trans (h.cell (p := ⟨b, o, none⟩) hb).symm
/-- what both say of a row that lay below -/
theorem Row.of_both {W A B : World} (h : Below W.heap.size W A) (g : Below W.heap.size W B) {v : Value} {xs : List Int} : Row W.heap.size A v xs → Row W.heap.size B v xs
  | .inl e => .inl e
  | .inr ⟨b, off, cap, e, hb, hl, hc⟩ => .inr ⟨b, off, cap, e, hb, hl, fun j u hj => (bcell0 h g b (off + j) hb).trans (hc j u hj)⟩
theorem bcell {W w1 : World} {B : Nat} (hb : Below B W w1) (b o : Nat) (h : b < B) : w1.cell? ⟨b, o, none⟩ = W.cell? ⟨b, o, none⟩ := hb.cell (p := ⟨b, o, none⟩) h

set_option maxRecDepth 100000 in
set_option maxHeartbeats 3200000 in
theorem rightG_any (a : Value) (to : List (List Int)) (w : World) (ha : GraphM w.heap.size w a to) (hx : Small to) :
    Calls Try.prog 15 #[a] w fun e w' => e = .returned (.bool (GG.rightG to)) ∧ Below w.heap.size w w' := by
  obtain ⟨aa, ca, rfl⟩ := ha.form
  have hx0 := hx.1
  by_cases hl : 1 ≤ to.length ∧ to.length ≤ 256
  · obtain ⟨hl1, hl2⟩ := hl
    obtain ⟨xb, xo, xc, e1⟩ := ha.addr (by omega)
    cases e1
    have HA := Lib.hid ha
    have HX := Lib.hid hx
    have hal := fun (w : World) => run_zero46 w
    clear ha hx
    go_enter Try.func15, Try.ntmps15
    go_wp2
    go_step3
    go_wp2
    go_step3
    go_wp2
    go_loopw [3, 19] (fun r k wr => ∃ i : Nat, i ≤ to.length ∧ r = .bool true ∧ k = .int .i64 (i : Int) ∧ Below w.heap.size w wr ∧ RowKit.Hid (∀ j, j < i → GG.rowOk to.length (to[j]?.getD []) = true)) (fun _ k _ => to.length - (intOf k).toNat)
    case atStart => exact ⟨0, by omega, rfl, rfl, Below.refl _ _, Lib.hid (fun j hj => absurd hj (Nat.not_lt_zero _))⟩
    case round =>
      obtain ⟨i, hi, rfl, rfl, hB, HT⟩ := hrel
      by_cases hlt : i < to.length
      · obtain ⟨ra, rac, hx1, hrx⟩ := (HA.out.below hB).at hlt
        have i1 : (0 : Int) ≤ i ∧ (i : Int) < to.length := by omega
        have b1 := HX.out.row i
        have HNO := Lib.hid (GG.right_no hlt)
        have HYES := Lib.hid (GG.rows_step HT.out)
        obtain ⟨r, er⟩ : ∃ r, r = to[i]?.getD [] := ⟨_, rfl⟩
        rw [← er] at hx1 hrx b1 HNO HYES
        have HB := Lib.hid hB
        have HRX := Lib.hid (hrx.below ((Below.refl w.heap.size wr).alloc hB.size (.cells falses 48)))
        have HG := Lib.hid (flags_new wr)
        clear er hrx HT hB
        go_wp2_with fail
        obtain ⟨wo, ewo⟩ : ∃ wo : World, wo = wr := ⟨_, rfl⟩
        rw [← ewo]
        rw [← ewo] at HB HRX HG hx1
        clear ewo
        go_loopw [3, 25] (fun rt k wr => ∃ q : Nat, q ≤ r.length ∧ rt = .bool true ∧ k = .int .i64 (q : Int) ∧ Flags wr wo.heap.size (goneB r q) ∧ Below w.heap.size w wr ∧ RowKit.Hid (GG.rowOk to.length (r.take q) = true)) (fun _ k _ => r.length - (intOf k).toNat)
        case atStart => exact ⟨0, by omega, rfl, rfl, HG.out.congr (fun x _ => gone_zero r x), HB.out.alloc HB.out.size _, Lib.hid (GG.rowOk_nil _ _)⟩
        case round =>
          obtain ⟨q, hq, rfl, rfl, hF, hB2, HQ⟩ := hrel
          have HF := Lib.hid hF
          have HB2 := Lib.hid hB2
          clear hF hB2
          by_cases hqt : q < r.length
          · obtain ⟨xb2, xo2, rfl, hx2⟩ := (HRX.out.of_both (HB.out.alloc HB.out.size _) HB2.out).cellAt hqt
            have i3 : (0 : Int) ≤ q ∧ (q : Int) < r.length := by omega
            have HSTEP := Lib.hid (GG.rowOk_step hqt HQ.out)
            have HBAD := Lib.hid (GG.rowOk_no (n := to.length) hqt)
            have HTW := Lib.hid (fun (j : Nat) (hj : j < q) => GG.rowOk_twice (n := to.length) hj hqt)
            have HGA := Lib.hid (gone_at (row := r) (q := q))
            have HGN := Lib.hid (fun h0 hn j hj => gone_no (row := r) (q := q) h0 hn j hj hqt)
            have HGS := Lib.hid (gone_succ hqt)
            obtain ⟨x, ex⟩ : ∃ x, x = r[q]?.getD 0 := ⟨_, rfl⟩
            rw [← ex] at hx2 HSTEP HBAD HTW HGA HGN HGS
            clear ex HQ
            by_cases hin : 0 ≤ x ∧ x < to.length
            · have HIN := Lib.hid (show GG.inB to.length x = true from decide_eq_true hin)
              obtain ⟨hin1, hin2⟩ := hin
              have hc3 := HF.out.cell (show x.toNat < 256 by omega)
              have hf3 := HF.out.frozen x.toNat
              cases hg : goneB r q x.toNat
              · have HOK := Lib.hid (HSTEP.out hin1 hin2 (HGN.out hin1 hg))
                rw [hg] at hc3
                clear hg
                go_wp2_with (go_at_call 33; refine (node_any _ to.length _ _ ⟨_, _, rfl⟩ hx0).mono ?_; rintro e w' ⟨rfl, rfl⟩; rw [HIN.out])
                go_roundw
                case rel => exact ⟨q + 1, by omega, rfl, by go_num, (HF.out.set x.toNat).congr (fun y _ => HGS.out hin1 y), HB2.out.setCell (by have := HB.out.size; simp; omega) _, HOK⟩
                case measure => simp [intOf]; omega
              · obtain ⟨j, hj, hje⟩ := HGA.out hin1 hg
                have HS := Lib.hid (HNO.out (HTW.out j hj hje))
                rw [hg] at hc3
                clear hg hje
                go_wp2_with (go_at_call 33; refine (node_any _ to.length _ _ ⟨_, _, rfl⟩ hx0).mono ?_; rintro e w' ⟨rfl, rfl⟩; rw [HIN.out])
                try rw [Exit.noGoto_ret]
                go_ret
                exact ⟨ret_bool HS.out.symm, HB2.out⟩
            · have HIN := Lib.hid (show GG.inB to.length x = false from decide_eq_false hin)
              have HS := Lib.hid (HNO.out (HBAD.out HIN.out))
              clear hin
              go_wp2_with (go_at_call 33; refine (node_any _ to.length _ _ ⟨_, _, rfl⟩ hx0).mono ?_; rintro e w' ⟨rfl, rfl⟩; rw [HIN.out])
              try rw [Exit.noGoto_ret]
              go_ret
              exact ⟨ret_bool HS.out.symm, HB2.out⟩
          · have HS := Lib.hid (HYES.out (GG.rowOk_all (by omega) HQ.out))
            go_wp2_with fail
            go_roundw
            case rel => exact ⟨i + 1, by omega, rfl, by go_num, HB2.out, HS⟩
            case measure => simp [intOf]; omega
      · have HS := Lib.hid (show GG.rightG to = true from GG.right_mk hl1 hl2 (fun j hj => HT.out j (by omega)))
        have HB := Lib.hid hB
        clear hB
        go_wp2_with fail
        rw [Exit.noGoto_ret]
        go_ret
        exact ⟨ret_bool HS.out.symm, HB.out⟩
  · have HS := Lib.hid (GG.right_no_len hl)
    by_cases h1 : 1 ≤ to.length
    · have h2 : ¬ to.length ≤ 256 := fun h2 => hl ⟨h1, h2⟩
      clear hl ha hx
      go_enter Try.func15, Try.ntmps15
      go_wp2
      go_step3
      go_wp2
      try rw [Exit.noGoto_ret]
      go_ret
      exact ⟨ret_bool HS.out.symm, Below.refl _ _⟩
    · clear hl ha hx
      go_enter Try.func15, Try.ntmps15
      go_wp2
      go_step3
      go_wp2
      try rw [Exit.noGoto_ret]
      go_ret
      exact ⟨ret_bool HS.out.symm, Below.refl _ _⟩
end Go.Proofs.Ytbelhoeailjkkaa
