import Derived.Test.YtbdmpilaeoclgaaDomF
import Derived.Test.YtbdmpilaeoclgaaLaysD
import Derived.Laws.IdiomCopy
import Derived.Laws.CopyOwn
set_option linter.unusedSimpArgs false
set_option linter.unusedVariables false
/-! dom: places, a row of one number again and again -/
namespace Go.Proofs.Ytbdmpilaeoclgaa
open Go.RowKit
/-- n numbers in a block -/
def IntsN (W : World) (g n : Nat) (f : Nat → Int) : Prop := W.rowIs g 3 n (fun i => .int .i64 (f i))
theorem IntsN.set {W : World} {g n : Nat} {f : Nat → Int} (h : IntsN W g n f) (i : Nat) (c : Int) : IntsN (W.setCell ⟨g, i, none⟩ (.int .i64 c)) g n (DD.setI f i c) := by
  refine World.rowIs.congr (World.rowIs.set h i (.int .i64 c)) (fun j _ => ?_)
  unfold DD.setI
  by_cases e : j = i <;> simp [e]
theorem IntsN.congr {W : World} {g n : Nat} {f f' : Nat → Int} (h : IntsN W g n f) (e : ∀ i, i < n → f i = f' i) : IntsN W g n f' := World.rowIs.congr h (fun i hi => by rw [e i hi])
theorem IntsN.rd {W : World} {g n : Nat} {f : Nat → Int} (h : IntsN W g n f) : Rd W g 0 n f := fun i hi => by rw [Nat.zero_add]; exact World.rowIs.cell h hi
theorem IntsN.below {W W' : World} {g n B : Nat} {f : Nat → Int} (h : IntsN W g n f) (hb : Below B W W') (hg : g < B) : IntsN W' g n f := World.rowIs.of_block h (hb.block g hg)
theorem IntsN.row {W : World} {g n : Nat} {f : Nat → Int} (h : IntsN W g n f) : Row W.heap.size W (.slice (some ⟨g, 0, none⟩) n n) ((List.range n).map f) := by
  refine .inr ⟨g, 0, n, by rw [intsV_len]; simp, World.rowIs.lt h, by rw [intsV_len]; simp, fun j u hj => ?_⟩
  have hjn : j < n := by
    have := (List.getElem?_eq_some_iff.1 hj).1
    rw [intsV_len] at this; simpa using this
  unfold intsV at hj
  rw [List.getElem?_map, List.getElem?_map, List.getElem?_range hjn] at hj
  rw [Nat.zero_add, World.rowIs.cell h hjn]
  exact hj
/-- the places of the first m nodes of an order -/
def plA (l : List Int) (m x : Nat) : Int := if GG.atI l m x < 0 then 0 else GG.atI l m x
theorem plA_zero (l : List Int) (x : Nat) : 0 = plA l 0 x := by unfold plA; rw [GG.atI_zero]; rfl
theorem plA_succ {l : List Int} (hn : l.Nodup) {m : Nat} (hm : m < l.length) (hp : 0 ≤ l[m]?.getD 0) (x : Nat) : DD.setI (plA l m) (l[m]?.getD 0).toNat (m : Int) x = plA l (m + 1) x := by
  unfold DD.setI plA
  rw [GG.atI_succ hn hm hp]
  by_cases e : x = (l[m]?.getD 0).toNat
  · rw [if_pos e, if_pos e, if_neg (by omega)]
  · rw [if_neg e, if_neg e]
theorem plA_all {l : List Int} {m x : Nat} (hm : l.length ≤ m) (hx : (x : Int) ∈ l) : plA l m x = (l.idxOf (x : Int) : Int) := by
  unfold plA GG.atI
  rw [List.take_of_length_le hm, if_pos hx, if_neg (by omega)]

set_option maxHeartbeats 1600000 in
theorem places_any (la : Option Addr) (lc : Nat) (l : List Int) (w : World) (HF : Row w.heap.size w (.slice la l.length lc) l) (hn : l.Nodup) (hll : l.length ≤ 256) (hl : ∀ x ∈ l, 0 ≤ x ∧ x < l.length) :
    Calls Try.prog 41 #[.slice la l.length lc] w fun e w' => e = .returned (.slice (some ⟨w.heap.size, 0, none⟩) l.length l.length) ∧ IntsN w' w.heap.size l.length (plA l l.length) ∧ Below w.heap.size w w' := by
  have hmk := run_make_row' (P := Try.prog) 24 3 (.int .i64 0) 8 (by kernel_rfl) Try.infoGInt rfl .i64 .i64 l.length (by omega) (by omega)
  have H0 := Lib.hid (show IntsN (w.alloc (.cells (madeCells #[.int .i64 0] l.length) 3)) w.heap.size l.length (fun _ => 0) from World.rowIs_made w (.int .i64 0) l.length 3)
  have HFF := Lib.hid HF
  have HL := Lib.hid hl
  have HN := Lib.hid hn
  clear HF hl hn
  go_enter Try.func41, Try.ntmps41
  go_wp2_with fail
  clear hmk
  go_loopw [11] (fun k wr => ∃ q : Nat, q ≤ l.length ∧ k = .int .i64 (q : Int) ∧ IntsN wr w.heap.size l.length (plA l q) ∧ Below w.heap.size w wr) (fun k _ => l.length - (intOf k).toNat)
  case atStart => exact ⟨0, Nat.zero_le _, rfl, H0.out.congr (fun x _ => plA_zero l x), (Below.refl _ _).alloc (Nat.le_refl _) _⟩
  case round =>
    obtain ⟨q, hq, rfl, hT, hB⟩ := hrel
    have HT := Lib.hid hT
    have HB := Lib.hid hB
    clear hT hB H0
    by_cases hqt : q < l.length
    · obtain ⟨fb, fo, rfl, hc⟩ := (HFF.out.below HB.out).cellAt hqt
      have i1 : (0 : Int) ≤ q ∧ (q : Int) < l.length := by omega
      have hx := HL.out _ (GG.getD_mem (d := (0 : Int)) hqt)
      have HS := Lib.hid (fun x => plA_succ HN.out hqt hx.1 x)
      obtain ⟨x, ex⟩ : ∃ x, x = l[q]?.getD 0 := ⟨_, rfl⟩
      rw [← ex] at hc hx HS
      clear ex
      obtain ⟨y, rfl⟩ : ∃ y : Nat, x = (y : Int) := ⟨x.toNat, by omega⟩
      rw [Int.toNat_natCast] at HS
      have hyn : y < l.length := by omega
      have i2 : (0 : Int) ≤ y ∧ (y : Int) < l.length := by omega
      have hcy := World.rowIs.cell HT.out hyn
      have hfy := World.rowIs.frozen HT.out y
      clear hx
      go_wp2_with fail
      go_roundw
      case rel => exact ⟨q + 1, by omega, by go_num, (HT.out.set y (q : Int)).congr (fun x _ => HS.out x), HB.out.setCell (p := ⟨w.heap.size, y, none⟩) (Nat.le_refl _) _⟩
      case measure => simp [intOf]; omega
    · have HE := Lib.hid (show IntsN wr w.heap.size l.length (plA l l.length) by have h := HT.out; rwa [show q = l.length by omega] at h)
      clear HT
      go_wp2_with fail
      go_ret
      exact ⟨rfl, HE.out, HB.out⟩

section
variable {P : Program} {w : World}
theorem step_copy {ops : Array Oper} {o : Oper} {a : Act} {K : Act → World → Prop} {Q : Exit → Act → World → Prop} {E : Prop} (hg : o.guard = none) (d s : Operand) (dT sT : TypeId)
    (ho : o.op = .call { callee := .builtin .copy, args := #[d, s], argTypes := #[dT, sT] }) (dv sv : Value) (hd : a.eval d = dv) (hs : a.eval s = sv) (m : Nat) (w1 : World)
    (hrun : ∀ ty, (Builtin.copy_ #[dT, sT] ty #[dv, sv]).run P w = .ok (.int .i64 m) w1) (h : K (a.put o.dst (.int .i64 m)) w1) :
    if Region.wanted o (yielded ops a.tmps) = true then Oper.wp P o a w K Q else E := by
  rw [if_pos (by simp [Region.wanted, hg])]
  have hrun := hrun o.type
  unfold Oper.wp
  simp [execOp, ho, resolve, invoke, builtin, hd, hs, hrun, Result.andThen]
  exact h
theorem wpList_copy_by {ops : Array Oper} {rest : List Oper} {o : Oper} {a : Act} {Q : Exit → Act → World → Prop} (hgd : o.guard = none) (d s : Operand) (dT sT : TypeId)
    (ho : o.op = .call { callee := .builtin .copy, args := #[d, s], argTypes := #[dT, sT] }) (dv sv : Value) (hd : a.eval d = dv) (hs : a.eval s = sv) (m : Nat) (w1 : World)
    (hrun : ∀ ty, (Builtin.copy_ #[dT, sT] ty #[dv, sv]).run P w = .ok (.int .i64 m) w1) (h : wpList P ops Q rest (a.put o.dst (.int .i64 m)) w1) : wpList P ops Q (o :: rest) a w := by
  refine wpList_plain hgd fun K hK => ?_
  have hrun := hrun o.type
  unfold Oper.wp
  simp [execOp, ho, resolve, invoke, builtin, hd, hs, hrun, Result.andThen]
  exact hK _ _ h
end
theorem IntsN.setCells {g n : Nat} {v : Int} : ∀ (m o : Nat) (W : World) (f : Nat → Int), IntsN W g n f → IntsN (W.setCells g o (List.replicate m (.int .i64 v))) g n (fun i => if o ≤ i ∧ i < o + m then v else f i)
  | 0, o, W, f, h => h.congr fun i _ => by rw [if_neg (by omega)]
  | m + 1, o, W, f, h => by
    rw [List.replicate_succ, World.setCells]
    refine (IntsN.setCells m (o + 1) _ _ (h.set o v)).congr fun i _ => ?_
    unfold DD.setI
    by_cases e : i = o
    · subst e; rw [if_neg (by omega), if_pos rfl, if_pos (by omega)]
    · rw [if_neg e]
      by_cases e2 : o + 1 ≤ i ∧ i < o + 1 + m
      · rw [if_pos e2, if_pos (by omega)]
      · rw [if_neg e2, if_neg (by omega)]
theorem below_setCells {g B : Nat} {v : Value} (hB : B ≤ g) : ∀ (m o : Nat) (W0 W : World), Below B W0 W → Below B W0 (W.setCells g o (List.replicate m v))
  | 0, _, _, _, h => h
  | m + 1, o, W0, W, h => by
    rw [List.replicate_succ, World.setCells]
    exact below_setCells hB m (o + 1) W0 _ (h.setCell (p := ⟨g, o, none⟩) hB v)
theorem run_copy_ints {W : World} {g n off : Nat} {f : Nat → Int} (h : IntsN W g n f) (v : Int) (m dLen dCap : Nat) (b so sLen sCap : Nat) (hm : m = Nat.min sLen dLen) (hfit : off + m ≤ n) (hsrc : ∀ j, j < m → W.cell? ⟨b, so + j, none⟩ = some (.int .i64 v)) (ty : TypeId) :
    (Builtin.copy_ #[24, 24] ty #[.slice (some ⟨g, off, none⟩) dLen dCap, .slice (some ⟨b, so, none⟩) sLen sCap]).run Try.prog W = .ok (.int .i64 m) (W.setCells g off (List.replicate m (.int .i64 v))) := by
  have := run_copy_cells (P := Try.prog) W 24 24 ty 3 g off dLen dCap ⟨b, so, none⟩ sLen sCap (List.replicate m (.int .i64 v)) Try.underlying24 (by kernel_rfl) (by rw [List.length_replicate]; exact hm) (fun j u hj => by
    rw [List.getElem?_replicate] at hj
    split at hj
    · rename_i hjm
      rw [Addr.add_lit, hsrc j hjm]; exact hj
    · cases hj) (fun j hj => by
    rw [List.length_replicate] at hj
    rw [World.rowIs.cell h (show off + j < n by omega)]; rfl) (fun j hj => World.rowIs.frozen h _) (fun u hu => by rw [(List.mem_replicate.1 hu).2]; rfl)
  rw [List.length_replicate] at this
  exact this
set_option maxHeartbeats 1600000 in
/-- a row of n times one number -/
theorem repeat_any (b off c n : Nat) (v : Int) (w : World) (hc : w.cell? ⟨b, off, none⟩ = some (.int .i64 v)) (hb : b < w.heap.size) (h1 : 1 ≤ n) (hn : n ≤ 256) :
    Calls Try.prog 42 #[.slice (some ⟨b, off, none⟩) 1 c, .int .i64 n] w fun e w' => e = .returned (.slice (some ⟨w.heap.size, 0, none⟩) n n) ∧ IntsN w' w.heap.size n (fun _ => v) ∧ Below w.heap.size w w' := by
  have hmk := run_make_row' (P := Try.prog) 24 3 (.int .i64 0) 8 (by kernel_rfl) Try.infoGInt rfl .i64 .i64 n (by omega) (by omega)
  have H0 := Lib.hid (show IntsN (w.alloc (.cells (madeCells #[.int .i64 0] n) 3)) w.heap.size n (fun _ => 0) from World.rowIs_made w (.int .i64 0) n 3)
  have HB0 := Lib.hid ((Below.refl w.heap.size w).alloc (Nat.le_refl _) (.cells (madeCells #[.int .i64 0] n) 3))
  have hc1 : (w.alloc (.cells (madeCells #[.int .i64 0] n) 3)).cell? ⟨b, off, none⟩ = some (.int .i64 v) := (HB0.out.cell (p := ⟨b, off, none⟩) hb).trans hc
  have HC := Lib.hid (fun ty => run_copy_ints H0.out v 1 n n b off 1 c (by show 1 = min 1 n; omega) (by omega) (fun j hj => by rw [show off + j = off by omega]; exact hc1) ty)
  have H1 := Lib.hid (H0.out.setCells (v := v) 1 0)
  have HB1 := Lib.hid (below_setCells (v := .int .i64 v) (Nat.le_refl w.heap.size) 1 0 _ _ HB0.out)
  go_enter Try.func42, Try.ntmps42
  have hcp := HC.out
  go_wp2_with (go_at_call 62; refine (Try.bits_Mul 1 n (by omega) (by omega) _).mono ?_; rintro e w1 ⟨rfl, hw⟩; rw [hw]; clear hw w1; rw [show ((1 * n / 18446744073709551616 : Nat) : Int) = 0 by omega, show ((1 * n % 18446744073709551616 : Nat) : Int) = (n : Int) by omega])
  clear hcp hmk
  go_loopw [8] (fun k wr => ∃ q : Nat, 1 ≤ q ∧ q ≤ n ∧ k = .int .i64 (q : Int) ∧ IntsN wr w.heap.size n (fun i => if i < q then v else 0) ∧ Below w.heap.size w wr) (fun k _ => n - (intOf k).toNat)
  case atStart => exact ⟨1, Nat.le_refl _, h1, rfl, H1.out.congr (fun i _ => by by_cases e : i < 1 <;> simp [e]), HB1.out⟩
  case round =>
    obtain ⟨q, hq1, hq, rfl, hI, hB⟩ := hrel
    have HI := Lib.hid hI
    have HB := Lib.hid hB
    clear hI hB H1 HB1 H0 HB0 HC hc1
    by_cases hqt : q < n
    · obtain ⟨m, hm⟩ : ∃ m, m = min q (n - q) := ⟨_, rfl⟩
      have HMM := Lib.hid hm
      have hm1 : m ≤ q ∧ q + m ≤ n ∧ 1 ≤ m := by omega
      have HC := Lib.hid (fun ty => run_copy_ints (W := wr.drew) (g := w.heap.size) (n := n) (f := fun i => if i < q then v else 0) HI.out v m (n - q) (n - q) w.heap.size 0 q n (by show m = min q (n - q); exact hm) hm1.2.1 (fun j hj => by
        rw [Nat.zero_add]
        have := World.rowIs.cell HI.out (show j < n by omega)
        rw [show (fun i : Nat => if i < q then v else 0) j = v from if_pos (by omega)] at this; exact this) ty)
      have HN := Lib.hid (IntsN.setCells (v := v) m q wr.drew _ HI.out)
      have HBN := Lib.hid (below_setCells (v := .int .i64 v) (Nat.le_refl w.heap.size) m q _ _ HB.out.drew)
      have b1 : (0 : Int) ≤ (q : Int) := by omega
      have b2 : (q : Int) ≤ (n : Int) := by omega
      have b3 : ((q : Int)).toNat = q := by omega
      have b4 : IntKind.i64.wrap ((q : Int) + (m : Int)) = (q : Int) + (m : Int) := IntWalk.i64_in _ (by omega)
      have b5 : n ≠ q := by omega
      clear hm
      go_wp2_with fail
      go_region_law (refine step_copy rfl (.tmp 41) (.tmp 44) 24 24 rfl _ _ rfl rfl m _ (by simp only [List.getElem_toArray, List.getElem_cons_succ, List.getElem_cons_zero, Act.put, Act.eval, List.setIfInBounds_toArray, List.set_cons_zero, List.set_cons_succ]; exact HC.out) ?_)
      simp only [List.getElem_toArray, List.getElem_cons_succ, List.getElem_cons_zero, Act.put, List.setIfInBounds_toArray, List.set_cons_zero, List.set_cons_succ]
      go_wp2_with fail
      go_roundw
      case rel => exact ⟨q + m, by omega, by omega, by go_num, HN.out.congr (fun i _ => by by_cases e : i < q + m <;> by_cases e2 : i < q <;> by_cases e3 : q ≤ i <;> simp [e, e2, e3] <;> omega), HBN.out⟩
      case measure => simp [intOf]; omega
    · go_wp2_with fail
      go_ret
      exact ⟨rfl, HI.out.congr (fun i hi => by rw [if_pos (by omega)]), HB.out⟩
end Go.Proofs.Ytbdmpilaeoclgaa
