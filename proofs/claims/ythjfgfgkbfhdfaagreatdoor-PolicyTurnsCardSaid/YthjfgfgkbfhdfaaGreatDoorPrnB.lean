import Derived.Test.YthjfgfgkbfhdfaaGreatDoorPrnK
import Derived.Test.YthjfgfgkbfhdfaaGreatDoorLaysB
import Derived.Shelf.Strings.Builder1
import Derived.Shelf.Strings.Builder2
import Derived.Shelf.Strings.BuilderF
import Derived.Shelf.Strings.BuilderK
import Derived.Laws.EntriesVeiled
import Derived.Test.YthjfgfgkbfhdfaaGreatDoorPrnL
import Derived.Test.YthjfgfgkbfhdfaaGreatDoorPlatV
set_option linter.unusedSimpArgs false
set_option linter.unusedVariables false
/-! policy: a text that grows: (*strings.Builder).copyCheck and WriteString as they lie here -/
namespace Go.Proofs.YthjfgfgkbfhdfaaGreatDoor
open Go.RowKit

theorem Tryz.sizeBld : (Tryz.prog.info? 45).map (·.size) = some 2 := by kernel_rfl
set_option maxRecDepth 100000 in
set_option maxHeartbeats 1600000 in
theorem check6_fresh (b : Nat) (w : World) (h0 : w.cell? ⟨b, 0, none⟩ = some (.pointer none)) (hsh : w.shape? b = some (45, 2)) (hfz : w.frozen? ⟨b, 0, none⟩ = false) :
    Calls Tryz.prog 33 #[.pointer (some ⟨b, 0, none⟩)] w fun e w' => e = .returned (.tuple #[]) ∧ w' = w.setCell ⟨b, 0, none⟩ (.pointer (some ⟨b, 0, none⟩)) := by
  obtain ⟨j, hj, hjs⟩ := Option.map_eq_some_iff.1 Tryz.sizeBld
  go_enter Tryz.func33, Tryz.ntmps33
  go_wp2
  rw [Lib.run_to_unsafe w ⟨b, 0, none⟩ Tryz.underlying42 Tryz.underlying99 hj (by rw [hjs]; decide) hsh (Nat.zero_lt_succ 1)]
  simp only [Result.andThen]
  rw [Oper.upon_value]
  go_wp2
  rw [run_callFunc_extern Tryz.func60 (by kernel_rfl) (by kernel_rfl) (by kernel_rfl) (e := Extern.AbiNoEscape.same) (by kernel_rfl)]
  rw [Lib.run_noEscape]
  simp only [Result.andThen]
  rw [Oper.upon_value]
  go_wp2
  rw [Lib.run_from_unsafe w ⟨b, 0, none⟩ Tryz.underlying99 Tryz.underlying42 hj hsh (by kernel_rfl)]
  simp only [Result.andThen]
  rw [Oper.upon_value]
  go_wp2
  go_end0
  exact ⟨rfl, rfl⟩
set_option maxRecDepth 100000 in
set_option maxHeartbeats 1600000 in
theorem check6_used (b : Nat) (w : World) (h0 : w.cell? ⟨b, 0, none⟩ = some (.pointer (some ⟨b, 0, none⟩))) :
    Calls Tryz.prog 33 #[.pointer (some ⟨b, 0, none⟩)] w fun e w' => e = .returned (.tuple #[]) ∧ w' = w := by
  obtain ⟨j, hj, _⟩ := Option.map_eq_some_iff.1 Tryz.sizeBld
  go_enter Tryz.func33, Tryz.ntmps33
  go_wp2
  rw [Lib.run_neq_ptr_same w _ Tryz.underlying42 hj]
  go_wp2
  go_end0
  exact ⟨rfl, rfl⟩
/-- what a builder holds, and what stands beside it -/
def Bld (B b : Nat) (l : List UInt8) (w : World) : Prop := Lib.IsBuilderF 45 5 B b (Lib.byteCells l) w
def KeptB (b : Nat) (w w' : World) : Prop := Lib.OthersKept 5 (some b) w w'
theorem check6_any (B b : Nat) (bs : List Value) (w : World) (h : Lib.IsBuilderF 45 5 B b bs w) :
    Calls Tryz.prog 33 #[.pointer (some ⟨b, 0, none⟩)] w fun e w' => e = .returned (.tuple #[]) ∧ Lib.BuilderAtF 45 5 B b (.pointer (some ⟨b, 0, none⟩)) bs w' ∧ Below B w w' ∧ KeptB b w w' := by
  cases h with
  | inl h =>
    refine (check6_fresh b w h.cell0 h.shape h.frozen0).mono ?_
    rintro e w' ⟨he, rfl⟩
    refine ⟨he, h.used _, ?_, ?_⟩
    · exact (Below.refl B w).setCell (p := ⟨b, 0, none⟩) h.1 _
    · exact (Lib.OthersKept.refl _ _ w).setCell ⟨b, 0, none⟩ rfl _
  | inr h =>
    refine (check6_used b w h.cell0).mono ?_
    rintro e w' ⟨he, rfl⟩
    exact ⟨he, h, Below.refl B _, Lib.OthersKept.refl _ _ _⟩
theorem grown_at {w w' : World} {b : Nat} {v : Value} {o : Obj} (hg : w.grownBy w' v.ownBlock) (hb : w.heap[b]? = some o) (hn : v.ownBlock ≠ some b) : w'.heap[b]? = some o := by
  have hlt : b < w.heap.size := (Array.getElem?_eq_some_iff.1 hb).1
  rw [hg.block b hlt (fun e => hn e.symm)]; exact hb
theorem Tryz.infoByte6 : (Tryz.prog.info? 5).map (fun i => (i.zero, i.size, i.bytes)) = some (some (.int .u8 0), 1, 1) := by kernel_rfl
set_option maxRecDepth 100000 in
set_option maxHeartbeats 3200000 in
theorem write6_any (B b : Nat) (l : List UInt8) (s : ByteArray) (w : World) (h : Bld B b l w) (hlen : l.length + s.size ≤ 140737488355328) (hBw : B ≤ w.heap.size) :
    Calls Tryz.prog 15 #[.pointer (some ⟨b, 0, none⟩), .string s] w fun e w' => (∃ v, e = .returned v) ∧ Bld B b (l ++ s.data.toList) w' ∧ Below B w w' ∧ KeptB b w w' := by
  obtain ⟨i0, hi, hz0, hz1, hz2⟩ := info_parts Tryz.infoByte6
  have HL := Lib.hid hlen
  have hbl : (Lib.byteCells l).length = l.length := by simp [Lib.byteCells]
  go_enter Tryz.func15, Tryz.ntmps15
  go_wp2_with (go_at_call 33; refine (check6_any B b _ _ h).mono ?_)
  rintro e w1 ⟨rfl, ⟨hB, v, hbk, hown, hne⟩, hb1, hk1⟩
  have HS := Lib.hid hb1.size
  have c1 : w1.cell? ⟨b, 1, none⟩ = some v := by simp [World.cell?, hbk]
  go_wp2_with (at_builtin; refine Lib.wpList_append_own_stringF _ rfl _ _ 43 9 rfl B 5 i0 Tryz.underlying43 Tryz.underlying9 hi hz0 hz1 hz2 _ _ _ rfl hown s rfl (by rw [hbl]; have := HL.out; unfold maxLen; omega) (by rw [hbl]; have := HL.out; omega) (by have := HS.out; omega) ?_)
  intro v' w2 hown' hgrow _
  have hb2 := grown_at hgrow hbk hne
  have d1 : w2.cell? ⟨b, 1, none⟩ = some v := by simp [World.cell?, hb2]
  have f1 : w2.frozen? ⟨b, 1, none⟩ = false := by simp [World.frozen?, hb2]
  obtain ⟨ao, n', cap, rfl⟩ : ∃ ao n' cap, v' = .slice ao n' cap := by
    rcases hown'.2 with ⟨hv, _⟩ | ⟨g, cap, cur, fz, hv, _⟩
    · exact ⟨_, _, _, hv⟩
    · exact ⟨_, _, _, hv⟩
  go_wp2
  go_ret2
  have e1 : Lib.byteCells (l ++ s.data.toList) = Lib.byteCells l ++ Lib.strCells s := by simp [Lib.byteCells, Lib.strCells]
  refine ⟨⟨_, rfl⟩, .inr ?_, ?_, (hk1.grown hgrow (Lib.ownsRowF_kind hown)).setCell ⟨b, 1, none⟩ rfl _⟩
  · rw [e1]
    exact Lib.BuilderAtF.put (T := 45) (e := 5) hB hb2 (bs' := Lib.byteCells l ++ Lib.strCells s) (by rw [List.length_append, Lib.strCells_length, hbl]; exact hown') (by decide)
  · exact (hb1.grown hgrow (by have := HS.out; omega) (fun k hk => (hown.lt k hk).1)).setCell (p := ⟨b, 1, none⟩) hB _
end Go.Proofs.YthjfgfgkbfhdfaaGreatDoor

/-! policy: a line that is written -/
namespace Go.Proofs.YthjfgfgkbfhdfaaGreatDoor
open Go.RowKit

theorem line_join : ∀ ws : List (List UInt8), lineL ws = Lib.join ws [32] ++ [10]
  | [] => rfl
  | [w] => by simp [lineL, Lib.join, List.intercalate]
  | w :: v :: vs => by
    have ih := line_join (v :: vs)
    show w ++ 32 :: lineL (v :: vs) = _
    rw [ih]
    simp [Lib.join, List.intercalate, List.intersperse]
theorem Bld.on {B b : Nat} {l : List UInt8} {w w' : World} (h : Bld B b l w) (hb : Below w.heap.size w w') : Bld B b l w' := by
  have key : ∀ p, Lib.BuilderAtF 45 5 B b p (Lib.byteCells l) w → Lib.BuilderAtF 45 5 B b p (Lib.byteCells l) w' := by
    intro p h
    have hlt := h.lt
    obtain ⟨hB, v, hbk, hown, hne⟩ := h
    refine ⟨hB, v, by rw [hb.block b hlt]; exact hbk, hown.kept (row := none) ⟨hb.os, hb.tape, hb.output, hb.size, fun k hk _ => hb.block k hk⟩ (Classical.em _), hne⟩
  exact h.imp (key _) (key _)
theorem Bld.lt {B b : Nat} {l : List UInt8} {w : World} (h : Bld B b l w) : b < w.heap.size := h.elim (fun x => x.lt) (fun x => x.lt)
theorem KeptB.on {b : Nat} {w w' : World} (hb : Below w.heap.size w w') : KeptB b w w' := fun k o hk _ _ => by
  have hlt := (Array.getElem?_eq_some_iff.1 hk).1
  rw [hb.block k hlt]; exact hk
theorem KeptB.trans {b : Nat} {a c d : World} (h : KeptB b a c) (k : KeptB b c d) : KeptB b a d := Lib.OthersKept.trans h k
theorem sep_list : (⟨#[32]⟩ : ByteArray).data.toList = [32] := rfl
/-- what a line leaves -/
def WroteP (B b : Nat) (l : List UInt8) (xs : List ByteArray) (w : World) (e : Ending) (w' : World) : Prop :=
  e = .returned (.tuple #[]) ∧ Bld B b (l ++ lineL (xs.map (·.data.toList))) w' ∧ Below B w w' ∧ KeptB b w w' ∧ w.heap.size ≤ w'.heap.size
set_option maxRecDepth 100000 in
set_option maxHeartbeats 800000 in
theorem line6_any (B b : Nat) (l : List UInt8) (xs : List ByteArray) (bk o c : Nat) (w : World) (h : Bld B b l w) (hc : ∀ j x, xs[j]? = some x → w.cell? ⟨bk, o + j, none⟩ = some (.string x)) (hbk : bk < w.heap.size) (hN : xs.length ≤ 1000) (hcap : xs.length ≤ c)
    (hlen : l.length + (lineL (xs.map (·.data.toList))).length ≤ 140737488355328) (hBw : B ≤ w.heap.size) :
    Calls Tryz.prog 14 #[.slice (some ⟨bk, o, none⟩) xs.length c, .pointer (some ⟨b, 0, none⟩)] w fun e w' => WroteP B b l xs w e w' := by
  have HH := Lib.hid h
  have HC := Lib.hid hc
  have hj := line_join (xs.map (·.data.toList))
  have HJ := Lib.hid hj
  have hjl : (lineL (xs.map (·.data.toList))).length = (Lib.join (xs.map (·.data.toList)) [32]).length + 1 := by rw [hj, List.length_append, List.length_singleton]
  obtain ⟨t, et⟩ : ∃ t : List UInt8, t = Lib.join (xs.map (·.data.toList)) [32] := ⟨_, rfl⟩
  have HT := Lib.hid et
  have ht : t.length ≤ 140737488355328 := by rw [et]; omega
  have hlt : l.length + (t.length + 1) ≤ 140737488355328 := by rw [et]; omega
  have HL := Lib.hid hlt
  have HT2 := Lib.hid ht
  clear h hc hj hjl et hlt ht
  go_enter Tryz.func14, Tryz.ntmps14
  go_wp2_with fail
  refine (Tryz.strings_Join bk o c xs ⟨#[32]⟩ _ HC.out hbk (by omega) hcap (by rw [sep_list, ← HT.out]; exact HT2.out)).mono ?_
  rintro e w1 ⟨rfl, hb⟩
  rw [sep_list, ← HT.out]
  obtain ⟨T, eT⟩ : ∃ T : ByteArray, T = ⟨t.toArray⟩ := ⟨_, rfl⟩
  rw [← eT]
  have hz : T.size = t.length := by rw [eT]; show t.toArray.size = _; simp
  have hz1 : T.size ≤ 140737488355328 := by rw [hz]; exact HT2.out
  have HTL := Lib.hid (show T.data.toList = t by rw [eT])
  have HZ := Lib.hid hz
  clear hz eT
  have HB1 := Lib.hid hb
  have HS1 := Lib.hid hb.size
  clear hb
  go_wp2_with fail
  refine (write6_any B b l _ _ (HH.out.on HB1.out) ?hl (Nat.le_trans hBw HS1.out)).mono ?_
  case hl => rw [ByteArray.size_append, HZ.out]; exact HL.out
  rintro e w2 ⟨⟨v, rfl⟩, h1, h2, h3⟩
  have H1 := Lib.hid h1
  have H2 := Lib.hid h2
  have H3 := Lib.hid h3
  clear h1 h2 h3
  go_wp2_with fail
  go_end0
  refine ⟨rfl, ?_, (HB1.out.mono hBw).trans H2.out, (KeptB.on HB1.out).trans H3.out, Nat.le_trans HS1.out H2.out.size⟩
  rw [HJ.out, ← HT.out]
  have h := H1.out
  rw [ByteArray.data_append, Array.toList_append, HTL.out] at h
  exact h
end Go.Proofs.YthjfgfgkbfhdfaaGreatDoor

/-! policy: the project's Print -/
namespace Go.Proofs.YthjfgfgkbfhdfaaGreatDoor
open Go.RowKit
/-- a new builder holds nothing -/
theorem bld_new (w : World) : Bld w.heap.size w.heap.size [] (w.alloc (.cells #[.pointer none, .slice none 0 0] 45)) :=
  .inl ⟨Nat.le_refl _, .slice none 0 0, heap_alloc_new _ _, ⟨by decide, .inl ⟨rfl, rfl⟩⟩, by simp [Value.ownBlock]⟩
theorem wpList_loadPol {ops : Array Oper} {rest : List Oper} {o : Oper} {a : Act} {w : World} {Q : Exit → Act → World → Prop} (hgd : o.guard = none) (x : Operand) (ho : o.op = .load 26 x)
    (blk : Nat) (hx : a.eval x = .pointer (some ⟨blk, 0, none⟩)) (p q r s t : Value) (hc : ∀ c u, [p, q, r, s, t][c]? = some u → w.cell? ⟨blk, c, none⟩ = some u)
    (h : wpList Tryz.prog ops Q rest (a.put o.dst (.agg #[p, q, r, s, t])) w) : wpList Tryz.prog ops Q (o :: rest) a w := by
  have hl : (loadCells ⟨blk, 0, none⟩ 5).run Tryz.prog w = .ok #[p, q, r, s, t] w :=
    run_loadCells_list (P := Tryz.prog) w ⟨blk, 0, none⟩ [p, q, r, s, t] (fun j u hu => by rw [Addr.add_lit, Nat.zero_add]; exact hc j u hu)
  have hagg : (isAgg 26).run Tryz.prog w = .ok true w := by kernel_rfl
  have hs : (sizeOf 26).run Tryz.prog w = .ok 5 w := by kernel_rfl
  refine wpList_plain hgd fun K hK => ?_
  unfold Oper.wp execOp
  simp only [ho, hx, Instr.loadAt, Instr.sureAddr, Sem.run_bind, Sem.run_pure, Result.andThen_ok]
  simp only [loadVar, Sem.run_bind, hagg, hs, hl, Result.andThen_ok, if_true, Sem.run_pure]
  exact hK _ _ h
set_option maxRecDepth 100000 in
set_option maxHeartbeats 1600000 in
theorem print6_no (v0 v1 v2 v3 : Value) (st : PSt) (S : List Int) (w : World) (h : PolIn w v0 v1 v2 v3 st S) (hw : Wide S) (hTz : Tz w) (hsh : Short6 st) (hr : rightP st S = false) :
    Calls Tryz.prog 6 #[.agg #[v0, v1, v2, v3, .int .i64 st.D]] w fun e w' => e = .returned (.tuple #[.string ⟨#[]⟩, .int .i64 1]) ∧ Below w.heap.size w w' := by
  have HB0 := Lib.hid (show Below w.heap.size w (w.alloc (.cells #[v0, v1, v2, v3, .int .i64 st.D] 26)) from (Below.refl _ _).alloc (Nat.le_refl _) _)
  have HP0 := Lib.hid (h.below HB0.out)
  have HT0 := Lib.hid (hTz.on HB0.out)
  have HC0 := Lib.hid (pol_cells w v0 v1 v2 v3 (.int .i64 st.D) 26)
  have HR := Lib.hid hr
  clear h hTz hr
  go_enter Tryz.func6, Tryz.ntmps6
  go_wp2_with (refine wpList_loadPol rfl (.tmp 1) rfl w.heap.size rfl _ _ _ _ _ HC0.out ?_)
  refine (right6_any v0 v1 v2 v3 st S _ HP0.out hw HT0.out hsh).mono ?_
  rintro e w1 ⟨rfl, hb⟩
  rw [HR.out]
  have HB1 := Lib.hid (HB0.out.trans (hb.mono HB0.out.size))
  clear hb
  go_wp2_with fail
  go_ret2
  exact ⟨rfl, HB1.out⟩
end Go.Proofs.YthjfgfgkbfhdfaaGreatDoor

/-! policy: the project's Print, the levels -/
namespace Go.Proofs.YthjfgfgkbfhdfaaGreatDoor
open Go.RowKit
def wordsL (ws : List (List ByteArray)) : List UInt8 := (ws.map fun us => us.map fun u => u.data.toList).flatMap lineL
theorem wordsL_snoc (ws : List (List ByteArray)) (us : List ByteArray) : wordsL (ws ++ [us]) = wordsL ws ++ lineL (us.map (·.data.toList)) := by
  unfold wordsL; rw [List.map_append, List.flatMap_append]; simp
theorem run_zeroBld (w : World) : (zeroValue 45).run Tryz.prog w = .ok (.agg #[.pointer none, .slice none 0 0]) w := by kernel_rfl
def levW (st : PSt) (i : Nat) : List (List ByteArray) := (st.L.take i).map fun x => [wLevel, x]
theorem levW_succ {st : PSt} {i : Nat} (hi : i < st.L.length) : levW st i ++ [[wLevel, wd6 st.L i]] = levW st (i + 1) := by
  unfold levW wd6
  rw [List.take_succ_eq_append_getElem hi, List.map_append, List.getElem?_eq_getElem hi]; rfl
theorem wordsL_app (a b : List (List ByteArray)) : wordsL (a ++ b) = wordsL a ++ wordsL b := by
  unfold wordsL; rw [List.map_append, List.flatMap_append]
theorem printL_words (st : PSt) (S : List Int) : printL st S = wordsL (plinesP st S) := rfl
theorem lev_fit (st : PSt) (S : List Int) (i : Nat) : (wordsL (levW st i)).length ≤ (printL st S).length := by
  rw [printL_words]
  unfold plinesP
  rw [List.append_assoc, List.append_assoc, List.append_assoc, wordsL_app, List.length_append]
  have e : (st.L.map fun x => [wLevel, x]) = levW st i ++ (st.L.drop i).map fun x => [wLevel, x] := by
    unfold levW; rw [← List.map_append, List.take_append_drop]
  rw [e, wordsL_app, List.length_append]
  omega
theorem two_cells (w : World) (x y : ByteArray) (t : TypeId) : ∀ (j : Nat) (u : ByteArray), [x, y][j]? = some u → (w.alloc (.cells #[.string x, .string y] t)).cell? ⟨w.heap.size, 0 + j, none⟩ = some (.string u) := by
  intro j u h
  rw [Nat.zero_add]
  simp only [World.cell?, heap_alloc_new]
  match j, h with
  | 0, h => simp at h; subst h; rfl
  | 1, h => simp at h; subst h; rfl
end Go.Proofs.YthjfgfgkbfhdfaaGreatDoor

/-! policy: the project's Print, what its loops need -/
namespace Go.Proofs.YthjfgfgkbfhdfaaGreatDoor
open Go.RowKit
theorem run_zeroPr (w : World) : (zeroValue 54).run Tryz.prog w = .ok (.agg #[.int .i64 0, .int .i64 0]) w := by
  have h := Tryz.infoPair
  cases hi : Tryz.prog.info? 54 with
  | none => rw [hi] at h; cases h
  | some i =>
    rw [hi] at h
    simp only [Option.map_some, Option.some.injEq, Prod.mk.injEq] at h
    simp [zeroValue, typeInfo, hi, h.1]
theorem wpList_loadPr {ops : Array Oper} {rest : List Oper} {o : Oper} {a : Act} {w : World} {Q : Exit → Act → World → Prop} (hgd : o.guard = none) (x : Operand) (ho : o.op = .load 54 x)
    (blk off : Nat) (hx : a.eval x = .pointer (some ⟨blk, off, none⟩)) (p q : Value) (h1 : w.cell? ⟨blk, off, none⟩ = some p) (h2 : w.cell? ⟨blk, off + 1, none⟩ = some q)
    (h : wpList Tryz.prog ops Q rest (a.put o.dst (.agg #[p, q])) w) : wpList Tryz.prog ops Q (o :: rest) a w := by
  have hl : (loadCells ⟨blk, off, none⟩ 2).run Tryz.prog w = .ok #[p, q] w :=
    run_loadCells_list (P := Tryz.prog) w ⟨blk, off, none⟩ [p, q] (fun j u hu => by
      rw [Addr.add_lit]
      match j, hu with
      | 0, hu => simp at hu; subst hu; exact h1
      | 1, hu => simp at hu; subst hu; exact h2)
  have hagg : (isAgg 54).run Tryz.prog w = .ok true w := by kernel_rfl
  have hs : (sizeOf 54).run Tryz.prog w = .ok 2 w := by kernel_rfl
  refine wpList_plain hgd fun K hK => ?_
  unfold Oper.wp execOp
  simp only [ho, hx, Instr.loadAt, Instr.sureAddr, Sem.run_bind, Sem.run_pure, Result.andThen_ok]
  simp only [loadVar, Sem.run_bind, hagg, hs, hl, Result.andThen_ok, if_true, Sem.run_pure]
  exact hK _ _ h
/-- the blocks that a slice leads to are as they were -/
def KeptP (u : Value) (W wr : World) : Prop := ∀ b off n c, u = .slice (some ⟨b, off, none⟩) n c → wr.heap[b]? = W.heap[b]?
theorem Bld.blk {B b : Nat} {l : List UInt8} {w : World} (h : Bld B b l w) : ∃ cs, w.heap[b]? = some (.cells cs 45 (0, 0)) := by
  rcases h with ⟨_, v, hb, _⟩ | ⟨_, v, hb, _⟩ <;> exact ⟨_, hb⟩
theorem KeptP.line {B b : Nat} {l : List UInt8} {u : Value} {W wr wc w' : World} (h : KeptP u W wr) (hty : Typed5 W u) (hbl : Bld B b l wr) (hb : Below wr.heap.size wr wc) (hk : KeptB b wc w') : KeptP u W w' := by
  intro b' off n c e
  obtain ⟨cs, fz, h1⟩ := hty b' off n c e
  have h2 := (h b' off n c e).trans h1
  have hlt := (Array.getElem?_eq_some_iff.1 h2).1
  have h3 := (hb.block b' hlt).trans h2
  rw [h1]
  refine hk b' _ h3 (fun e' => ?_) (fun c' fz' e' => ?_)
  · cases e'
    obtain ⟨cs', h4⟩ := hbl.blk
    rw [h2] at h4
    simp only [Option.some.injEq, Obj.cells.injEq] at h4
    exact absurd h4.2.1 (by decide)
  · simp only [Obj.cells.injEq] at e'
    exact absurd e'.2.1 (by decide)
def flowW (st : PSt) (cs : List (Nat × Nat)) (i : Nat) : List (List ByteArray) := (cs.take i).map fun p => [wFlow, wd6 st.L p.1, wd6 st.L p.2]
def prAt (cs : List (Nat × Nat)) (i : Nat) : Nat × Nat := cs[i]?.getD (0, 0)
theorem flowW_succ {st : PSt} {cs : List (Nat × Nat)} {i : Nat} (hi : i < cs.length) : flowW st cs i ++ [[wFlow, wd6 st.L (prAt cs i).1, wd6 st.L (prAt cs i).2]] = flowW st cs (i + 1) := by
  unfold flowW prAt
  rw [List.take_succ_eq_append_getElem hi, List.map_append, List.getElem?_eq_getElem hi]; rfl
def chanW (wd : ByteArray) (st : PSt) (cs : List (ByteArray × Int)) (i : Nat) : List (List ByteArray) := (cs.take i).map fun c => [wd, c.1, wd6 st.L c.2.toNat]
theorem chanW_succ {wd : ByteArray} {st : PSt} {cs : List (ByteArray × Int)} {i : Nat} (hi : i < cs.length) : chanW wd st cs i ++ [[wd, (chAt cs i).1, wd6 st.L (chAt cs i).2.toNat]] = chanW wd st cs (i + 1) := by
  unfold chanW chAt
  rw [List.take_succ_eq_append_getElem hi, List.map_append, List.getElem?_eq_getElem hi]; rfl
theorem wordsL_pre {a b : List (List ByteArray)} (h : ∃ c, b = a ++ c) : (wordsL a).length ≤ (wordsL b).length := by
  obtain ⟨c, rfl⟩ := h
  rw [wordsL_app, List.length_append]; omega
/-- what has been written of a policy -/
def upW (st : PSt) (S : List Int) (a b c d : Nat) : List (List ByteArray) := levW st a ++ flowW st (LL.coversL S) b ++ chanW wInput st st.I c ++ chanW wOutput st st.O d
theorem take_pre {α β : Type} (f : α → β) (l : List α) (i : Nat) : l.map f = (l.take i).map f ++ (l.drop i).map f := by rw [← List.map_append, List.take_append_drop]
theorem up_fit2 (st : PSt) (S : List Int) (i : Nat) : (wordsL (levW st st.L.length ++ flowW st (LL.coversL S) i)).length ≤ (printL st S).length := by
  rw [printL_words]
  refine wordsL_pre ⟨((LL.coversL S).drop i).map (fun p => [wFlow, wd6 st.L p.1, wd6 st.L p.2]) ++ ((st.I.map fun c => [wInput, c.1, wd6 st.L c.2.toNat]) ++ ((st.O.map fun c => [wOutput, c.1, wd6 st.L c.2.toNat]) ++ [[wDepth, num st.D]])), ?_⟩
  unfold plinesP levW flowW
  rw [List.take_length, take_pre (fun p => [wFlow, wd6 st.L p.1, wd6 st.L p.2]) (LL.coversL S) i]
  simp only [List.append_assoc]
theorem up_fit3 (st : PSt) (S : List Int) (i : Nat) : (wordsL (levW st st.L.length ++ flowW st (LL.coversL S) (LL.coversL S).length ++ chanW wInput st st.I i)).length ≤ (printL st S).length := by
  rw [printL_words]
  refine wordsL_pre ⟨(st.I.drop i).map (fun c => [wInput, c.1, wd6 st.L c.2.toNat]) ++ ((st.O.map fun c => [wOutput, c.1, wd6 st.L c.2.toNat]) ++ [[wDepth, num st.D]]), ?_⟩
  unfold plinesP levW flowW chanW
  rw [List.take_length, List.take_length, take_pre (fun c => [wInput, c.1, wd6 st.L c.2.toNat]) st.I i]
  simp only [List.append_assoc]
theorem up_fit4 (st : PSt) (S : List Int) (i : Nat) : (wordsL (levW st st.L.length ++ flowW st (LL.coversL S) (LL.coversL S).length ++ chanW wInput st st.I st.I.length ++ chanW wOutput st st.O i)).length ≤ (printL st S).length := by
  rw [printL_words]
  refine wordsL_pre ⟨(st.O.drop i).map (fun c => [wOutput, c.1, wd6 st.L c.2.toNat]) ++ [[wDepth, num st.D]], ?_⟩
  unfold plinesP levW flowW chanW
  rw [List.take_length, List.take_length, List.take_length, take_pre (fun c => [wOutput, c.1, wd6 st.L c.2.toNat]) st.O i]
  simp only [List.append_assoc]
theorem up_all (st : PSt) (S : List Int) : levW st st.L.length ++ flowW st (LL.coversL S) (LL.coversL S).length ++ chanW wInput st st.I st.I.length ++ chanW wOutput st st.O st.O.length ++ [[wDepth, num st.D]] = plinesP st S := by
  unfold plinesP levW flowW chanW
  rw [List.take_length, List.take_length, List.take_length, List.take_length]
theorem three_cells (w : World) (x y z : ByteArray) (t : TypeId) {b : Nat} (hb : w.heap.size = b) : ∀ (j : Nat) (u : ByteArray), [x, y, z][j]? = some u → (w.alloc (.cells #[.string x, .string y, .string z] t)).cell? ⟨b, 0 + j, none⟩ = some (.string u) := by
  subst hb
  intro j u h
  rw [Nat.zero_add]
  simp only [World.cell?, heap_alloc_new]
  match j, h with
  | 0, h => simp at h; subst h; rfl
  | 1, h => simp at h; subst h; rfl
  | 2, h => simp at h; subst h; rfl
theorem pr_one (p q : Int) : (#[.int .i64 p, .int .i64 q] : Array Value).all (·.oneCell') = true := by simp [Value.oneCell']
/-- where a slice of pairs stands -/
theorem prs_at {n : Nat} {w : World} {a : Option Addr} {m cap j : Nat} {ps : List (Nat × Nat)} (h : Prs n w (.slice a m cap) ps) (hj : j < ps.length) :
    ∃ b off, a = some ⟨b, off, none⟩ ∧ w.cell? ⟨b, off + j * 2, none⟩ = some (.int .i64 ((prAt ps j).1 : Int)) ∧ w.cell? ⟨b, off + j * 2 + 1, none⟩ = some (.int .i64 ((prAt ps j).2 : Int)) := by
  rcases h with ⟨_, rfl⟩ | ⟨b, off, c, e, hb, hc, hcell⟩
  · simp at hj
  · cases e
    exact ⟨b, off, rfl, hcell j hj⟩
/-- what stands behind a line that is written of a pair -/
theorem pr_held {T : TypeId} (hT : T ≠ 5) {w1 wr W3 w4 : World} {p q : Value} {o : Obj} {A lb lo n1 n2 : Nat} {vA : Value} {x y : ByteArray} (hB : Below w1.heap.size w1 wr) (hL : w1.heap.size < wr.heap.size) (hW : Below wr.heap.size wr (W3.alloc o).drew) (hN : W3.heap[wr.heap.size]? = some (.cells #[p, q] T)) (hS : W3.heap.size = wr.heap.size + 1)
    (hA : A < w1.heap.size) (h1 : w1.cell? ⟨A, 0, none⟩ = some vA) (d1 : w1.cell? ⟨lb, lo + n1, none⟩ = some (.string x)) (d2 : w1.cell? ⟨lb, lo + n2, none⟩ = some (.string y)) (h2 : Below w1.heap.size (W3.alloc o).drew w4) (h3 : KeptB w1.heap.size (W3.alloc o).drew w4) :
    w4.cell? ⟨A, 0, none⟩ = some vA ∧ w4.cell? ⟨wr.heap.size, 0, none⟩ = some p ∧ w4.cell? ⟨wr.heap.size, 1, none⟩ = some q ∧ w4.cell? ⟨lb, lo + n1, none⟩ = some (.string x) ∧ w4.cell? ⟨lb, lo + n2, none⟩ = some (.string y) := by
  have hb := hB.trans ((hW.mono hB.size).trans h2)
  have hk : w4.heap[wr.heap.size]? = some (.cells #[p, q] T) := by
    refine h3 _ _ ((heap_alloc_old W3 o (by omega)).trans hN) (fun e => ?_) (fun c fz e => ?_)
    · have := Option.some.inj e
      omega
    · simp only [Obj.cells.injEq] at e
      exact absurd e.2.1 hT
  refine ⟨(hb.cell (p := ⟨A, 0, none⟩) hA).trans h1, ?_, ?_, (hb.cell (p := ⟨lb, lo + n1, none⟩) (cell_lt d1)).trans d1, (hb.cell (p := ⟨lb, lo + n2, none⟩) (cell_lt d2)).trans d2⟩
  · simp only [World.cell?, hk]; rfl
  · simp only [World.cell?, hk]; rfl
end Go.Proofs.YthjfgfgkbfhdfaaGreatDoor
