import Derived.Test.YtkoofibhddkpiaaDoorHeaO
import Derived.Maps.OwnSet
set_option linter.unusedSimpArgs false
set_option linter.unusedVariables false
/-! solve: the line's Pop; container/heap's Push and Pop -/
namespace Go.Proofs.YtkoofibhddkpiaaDoor
open Go.RowKit
def PopE (W0 : World) (wb B : Nat) (c0 c1 c2 c3 mv : Value) (g cap m : Nat) (l : List Int) (x : Int) (e : Ending) (V : World) : Prop := e = .returned (.iface 3 (.int .i64 x)) ∧ LineP V wb B c0 c1 c2 c3 (.slice (some ⟨g, 0, none⟩) m cap) mv l ∧ LK wb B W0 V
theorem intsV_take (l : List Int) (m : Nat) : intsV (l.take m) = (intsV l).take m := by
  unfold intsV
  rw [List.map_take]

set_option maxRecDepth 100000 in
set_option maxHeartbeats 1600000 in
theorem hpopL_any {W : World} {wb B g n m cap : Nat} {c0 c1 c2 c3 mv : Value} {l : List Int} (h : LineP W wb B c0 c1 c2 c3 (.slice (some ⟨g, 0, none⟩) n cap) mv l) (hn : l.length = n) (hm : n = m + 1) (hb : n ≤ 8589934592) :
    Calls Tryd.prog 60 #[.pointer (some ⟨wb, 4, none⟩)] W fun e V => PopE W wb B c0 c1 c2 c3 mv g cap m (l.take m) (l[m]?.getD 0) e V := by
  have hc := h.work.cells.2.2.2.2.1
  have hf := h.work.free 4
  have ho := h.own
  rw [hn] at ho
  have hx := SS.own_cell ho (intsV_at (show m < l.length by omega))
  have hcap := own_cap ho
  have hq : (n : Int) - 1 = (m : Int) := by omega
  have i1 : (0 : Int) ≤ m ∧ (m : Int) < n := by omega
  have i2 : (m : Int) ≤ cap := by omega
  obtain ⟨x, ex⟩ : ∃ x, x = l[m]?.getD 0 := ⟨_, rfl⟩
  rw [← ex] at hx
  rw [← ex]
  have hlt := (ho.lt g rfl).1
  have HF := Lib.hid (show PopE W wb B c0 c1 c2 c3 mv g cap m (l.take m) x (.returned (.iface 3 (.int .i64 x))) (W.setCell ⟨wb, 4, none⟩ (.slice (some ⟨g, 0, none⟩) m cap)) from ⟨rfl, ⟨h.work.set _, by
      have e1 : (l.take m).length = m := by rw [List.length_take]; omega
      rw [e1, intsV_take]
      exact SS.own_of_block (own_take ho (by omega)) (fun k e => by cases e; exact Below.heap_setCell _ _ _ _ (by have := h.lt; show g ≠ wb; omega)), h.lt, by have := h.base; simpa using this⟩, (LK.refl wb B W).set 4 _⟩)
  clear ex h ho hm hlt hcap hn
  go_enter Tryd.func60, Tryd.ntmps60
  go_wp2_with fail
  go_ret
  exact HF.out

theorem take_last {l : List Int} {m : Nat} (h : l.length = m + 1) : (l[m]?.getD 0 :: l.take m).Perm l := by
  have e : l.take m ++ [l[m]?.getD 0] = l := by
    have hm : m < l.length := by omega
    rw [List.getElem?_eq_getElem hm, Option.getD_some, ← List.take_succ_eq_append_getElem hm, List.take_of_length_le (by omega)]
  refine .trans ?_ (.of_eq e)
  exact (List.perm_append_singleton _ _).symm
def PushH (W0 : World) (wb B : Nat) (c0 c1 c2 c3 mv : Value) (l : List Int) (e : Ending) (V : World) : Prop := e = .returned (.tuple #[]) ∧ LK wb B W0 V ∧ ∃ lv' l', LineP V wb B c0 c1 c2 c3 lv' mv l' ∧ l'.Perm l

set_option maxRecDepth 100000 in
set_option maxHeartbeats 1600000 in
theorem hpush_any {W : World} {wb B : Nat} {c0 c1 c2 c3 lv mv : Value} {l : List Int} (x : Int) (h : LineP W wb B c0 c1 c2 c3 lv mv l) (hl : l.length ≤ 4294967296) :
    Calls Tryd.prog 29 #[.iface 58 (.pointer (some ⟨wb, 4, none⟩)), .iface 3 (.int .i64 x)] W fun e V => PushH W wb B c0 c1 c2 c3 mv (x :: l) e V := by
  have mP := meth_push wb W
  have H := Lib.hid h
  have HL := Lib.hid hl
  clear h hl
  go_enter Tryd.func29, Tryd.ntmps29
  go_wp2_with (first
  | (go_at_call 61
     refine (hpushL_any x H.out HL.out).mono ?_
     rintro e w1 ⟨rfl, hK, lv1, hP1⟩
     obtain ⟨g, cap, rfl⟩ := SS.own_some hP1.own (by simp)
     obtain ⟨n1, en1⟩ : ∃ n1, n1 = (l ++ [x]).length := ⟨_, rfl⟩
     obtain ⟨k, ek⟩ : ∃ k, k = l.length := ⟨_, rfl⟩
     rw [← en1] at hP1
     have hnk : n1 = k + 1 := by rw [en1, ek]; simp
     have hq : (n1 : Int) - 1 = (k : Int) := by omega
     have i1 : (0 : Int) ≤ k ∧ (k : Int) ≤ 8589934592 := by have := HL.out; omega
     have HK := Lib.hid hK
     have HP1 := Lib.hid hP1
     have HN := Lib.hid en1
     have HKK := Lib.hid (show k < n1 ∧ n1 ≤ 8589934592 by have := HL.out; omega)
     have mN := meth_val infoLen HP1.out.work
     clear hK hP1 en1 ek hnk mP)
  | (go_at_call 57; refine (hlen_any _ _ _ _).mono ?_; rintro e w2 ⟨rfl, e8⟩; rewrite [e8]; clear e8)
  | (go_at_call 37
     refine (hup_any HP1.out HN.out.symm HKK.out.2 k HKK.out.1).mono ?_
     rintro e w3 ⟨rfl, l', hH⟩
     have HH := Lib.hid hH
     clear hH))
  go_end0
  exact ⟨rfl, HK.out.trans HH.out.kept, _, l', HH.out.line, HH.out.perm.trans (List.perm_append_singleton _ _)⟩

def PopH (W0 : World) (wb B : Nat) (c0 c1 c2 c3 mv : Value) (g cap m : Nat) (l : List Int) (e : Ending) (V : World) : Prop := ∃ x l', e = .returned (.iface 3 (.int .i64 x)) ∧ LineP V wb B c0 c1 c2 c3 (.slice (some ⟨g, 0, none⟩) m cap) mv l' ∧ LK wb B W0 V ∧ (x :: l').Perm l

set_option maxRecDepth 100000 in
set_option maxHeartbeats 1600000 in
theorem hpop_any {W : World} {wb B g n m cap : Nat} {c0 c1 c2 c3 mv : Value} {l : List Int} (h : LineP W wb B c0 c1 c2 c3 (.slice (some ⟨g, 0, none⟩) n cap) mv l) (hn : l.length = n) (hm : n = m + 1) (hb : n ≤ 8589934592) :
    Calls Tryd.prog 22 #[.iface 58 (.pointer (some ⟨wb, 4, none⟩))] W fun e V => PopH W wb B c0 c1 c2 c3 mv g cap m l e V := by
  have HB := Lib.hid h.base
  have H0 := Lib.hid (show HP W wb B c0 c1 c2 c3 (.slice (some ⟨g, 0, none⟩) n cap) mv l W l from ⟨h, LK.refl wb B W, .refl _⟩)
  have HN := Lib.hid hn
  have HM := Lib.hid hm
  have HBD := Lib.hid hb
  have hq : (n : Int) - 1 = (m : Int) := by omega
  have i1 : (0 : Int) ≤ m ∧ (m : Int) ≤ 8589934592 := by omega
  have mN := meth_val infoLen h.work
  have mS := meth_val infoSwap h.work
  clear h hn hm hb
  go_enter Tryd.func22, Tryd.ntmps22
  go_wp2_with (first
  | (go_at_call 57; refine (hlen_any _ _ _ _).mono ?_; rintro e w2 ⟨rfl, e8⟩; rewrite [e8]; clear e8)
  | (go_at_call 59
     refine (swapC2 H0.out HN.out (i := 0) (j := m) (by have := HM.out; omega) (by have := HM.out; omega) HB.out (by simp) rfl).mono ?_
     rintro e w3 ⟨rfl, hP3⟩
     have H3 := Lib.hid hP3
     clear hP3 mN mS)
  | (go_at_call 30
     refine (hdown_any H3.out.line (H3.out.len.trans HN.out) HBD.out m (by have := HM.out; omega) 0 (by omega) (by omega)).mono ?_
     rintro e w4 ⟨⟨t, rfl⟩, l4, hP4⟩
     have H4 := Lib.hid hP4
     have HL4 := Lib.hid (show l4.length = n from hP4.len.trans (H3.out.len.trans HN.out))
     have mP := meth_pop wb w4
     clear hP4)
  | (go_at_call 60
     refine (hpopL_any H4.out.line HL4.out HM.out HBD.out).mono ?_
     rintro e w5 ⟨rfl, hP5, hK5⟩
     have H5 := Lib.hid (show PopH W wb B c0 c1 c2 c3 mv g cap m l _ w5 from ⟨_, _, rfl, hP5, (H3.out.kept.trans H4.out.kept).trans hK5, (take_last (HL4.out.trans HM.out)).trans (H4.out.perm.trans H3.out.perm)⟩)
     clear hP5 hK5))
  go_ret
  exact H5.out
end Go.Proofs.YtkoofibhddkpiaaDoor

/-! solve: those that wait, as a set in memory; the work's wait and next -/
namespace Go.Proofs.YtkoofibhddkpiaaDoor
open Go.RowKit
open Go.Maps (Keyed int_keyed keyOf_int_mk)
open Go.ChangeMaps Go.MapKept
theorem lawW : Keyed Tryd.prog 3 := int_keyed Tryd.underlying3
theorem keyW (v : Nat) (h : v < 4294967296) : keyOf Tryd.prog 3 (.int .i64 (v : Int)) = some (.int .i64 (v : Int)) := keyOf_int_mk Tryd.underlying3 (by simp only [Lit.wf, IntKind.min, IntKind.max, IntKind.signed, IntKind.bits, Bool.and_eq_true, decide_eq_true_eq, if_true]; omega)
theorem zeroW (w : World) : (zeroValue 66).run Tryd.prog w = .ok (.agg #[]) w := by kernel_rfl
def SetP (W : World) (mb : Nat) (q : List Nat) : Prop := ∃ D : DataW Unit, W.ownsMap Tryd.prog 3 unitElem mb (Maps.size D) D ∧ (∀ v : Nat, v < 4294967296 → Maps.has D (.int .i64 (v : Int)) = decide (v ∈ q)) ∧ Maps.size D = q.length
theorem own_tight {W : World} {k : TypeId} {R : Value → Option (DataW Unit × List MemPlace)} {b n : Nat} {D : DataW Unit} (h : W.ownsMap Tryd.prog k R b n D) : W.ownsMap Tryd.prog k R b (Maps.size D) D := by
  obtain ⟨es, clock, hb, F, hs, rfl⟩ := h
  exact ⟨es, clock, hb, F, by simp [Maps.size, length_sorted], rfl⟩
theorem own_blk {W V : World} {k : TypeId} {R : Value → Option (DataW Unit × List MemPlace)} {b n : Nat} {D : DataW Unit} (h : W.ownsMap Tryd.prog k R b n D) (e : V.heap[b]? = W.heap[b]?) : V.ownsMap Tryd.prog k R b n D := by
  obtain ⟨es, clock, hb, F, hs, rfl⟩ := h
  exact ⟨es, clock, e.trans hb, F, hs, rfl⟩
theorem SetP.of {W V : World} {mb : Nat} {q : List Nat} (h : SetP W mb q) (e : V.heap[mb]? = W.heap[mb]?) : SetP V mb q := by
  obtain ⟨D, h1, h2, h3⟩ := h
  exact ⟨D, own_blk h1 e, h2, h3⟩
theorem keyI (v : Nat) : WideAt.IsKeyLit (.int .i64 (v : Int)) := by trivial
theorem key_ne {u v : Nat} (h : u ≠ v) : (Lit.int .i64 (u : Int)) ≠ .int .i64 (v : Int) := fun e => h (by injection e; omega)
theorem SetP.put {W V : World} {mb n v : Nat} {q : List Nat} {D : DataW Unit} (h1 : W.ownsMap Tryd.prog 3 unitElem mb (Maps.size D) D) (h2 : ∀ v : Nat, v < 4294967296 → Maps.has D (.int .i64 (v : Int)) = decide (v ∈ q)) (h3 : Maps.size D = q.length) (hv : v < 4294967296) (hn : v ∉ q)
    (g : V.ownsMap Tryd.prog 3 unitElem mb n (D.put (.int .i64 (v : Int)) (.agg []))) : SetP V mb (v :: q) := by
  refine ⟨_, own_tight g, fun u hu => ?_, ?_⟩
  · by_cases e : u = v
    · subst e
      rw [Maps.has_put_same h1.isMap (keyI u)]
      simp
    · rw [Maps.has_put_other (key_ne e), h2 u hu]
      simp [e]
  · rw [Maps.size_put (h1.tidy lawW), h2 v hv]
    simp [hn, h3]
theorem SetP.del {W V : World} {mb n v : Nat} {q q' : List Nat} {D : DataW Unit} (h1 : W.ownsMap Tryd.prog 3 unitElem mb (Maps.size D) D) (h2 : ∀ v : Nat, v < 4294967296 → Maps.has D (.int .i64 (v : Int)) = decide (v ∈ q)) (h3 : Maps.size D = q.length) (hv : v < 4294967296) (hq : q.Perm (v :: q')) (hd : q.Nodup)
    (g : V.ownsMap Tryd.prog 3 unitElem mb n (D.del (.int .i64 (v : Int)))) : SetP V mb q' := by
  have hnd := hq.nodup_iff.1 hd
  rw [List.nodup_cons] at hnd
  refine ⟨_, own_tight g, fun u hu => ?_, ?_⟩
  · by_cases e : u = v
    · subst e
      rw [Maps.has_del_same]
      simp [hnd.1]
    · rw [Maps.has_del_other (key_ne e), h2 u hu]
      simp [hq.mem_iff, e]
  · have h4 := Maps.size_del (k := .int .i64 (v : Int)) (h1.tidy lawW)
    rw [h2 v hv, h3, hq.length_eq] at h4
    simp [hq.mem_iff] at h4
    omega
/-- but for the work's block and the set's, all below B is as it was -/
structure WK (wb mb B : Nat) (W V : World) : Prop where
  os : V.os = W.os
  tape : V.tape = W.tape
  output : V.output = W.output
  size : W.heap.size ≤ V.heap.size
  block : ∀ k, k < B → k ≠ wb → k ≠ mb → V.heap[k]? = W.heap[k]?
theorem WK.refl (wb mb B : Nat) (W : World) : WK wb mb B W W := ⟨rfl, rfl, rfl, Nat.le_refl _, fun _ _ _ _ => rfl⟩
theorem WK.trans {wb mb B : Nat} {W V Z : World} (h : WK wb mb B W V) (g : WK wb mb B V Z) : WK wb mb B W Z := ⟨g.os.trans h.os, g.tape.trans h.tape, g.output.trans h.output, Nat.le_trans h.size g.size, fun k h1 h2 h3 => (g.block k h1 h2 h3).trans (h.block k h1 h2 h3)⟩
theorem LK.wk {wb B : Nat} {W V : World} (h : LK wb B W V) (mb : Nat) : WK wb mb B W V := ⟨h.os, h.tape, h.output, h.size, fun k h1 h2 _ => h.block k h1 h2⟩
theorem WK.turned {wb mb B : Nat} {W V : World} (h : W.grownBy V (some mb)) (hB : B ≤ W.heap.size) : WK wb mb B W V := ⟨h.os, h.tape, h.output, h.size, fun k h1 _ h3 => h.block k (by omega) (fun e => h3 (Option.some.inj e))⟩
/-- the work as wait and next see it -/
structure WaitP (W : World) (wb B mb : Nat) (c0 c1 c2 pv lv : Value) (pl l : List Int) (q : List Nat) : Prop where
  line : LineP W wb B c0 c1 c2 pv lv (.map (some mb)) l
  set : SetP W mb q
  place : W.ownsRow 0 3 1 pv pl.length (intsV pl)
  mlt : mb < B
  mne : mb ≠ wb
  plt : ∀ k, pv.ownBlock = some k → k < B ∧ k ≠ wb ∧ k ≠ mb
theorem WaitP.kept {W V : World} {wb B mb : Nat} {c0 c1 c2 pv lv lv' : Value} {pl l l' : List Int} {q : List Nat} (h : WaitP W wb B mb c0 c1 c2 pv lv pl l q) (hk : LK wb B W V) (hl : LineP V wb B c0 c1 c2 pv lv' (.map (some mb)) l') : WaitP V wb B mb c0 c1 c2 pv lv' pl l' q :=
  ⟨hl, h.set.of (hk.block mb h.mlt h.mne), SS.own_of_block h.place (fun k e => hk.block k (h.plt k e).1 (h.plt k e).2.1), h.mlt, h.mne, h.plt⟩
theorem WaitP.alloc {W : World} {wb B mb : Nat} {c0 c1 c2 pv lv : Value} {pl l : List Int} {q : List Nat} (h : WaitP W wb B mb c0 c1 c2 pv lv pl l q) (o : Obj) : WaitP (W.alloc o) wb B mb c0 c1 c2 pv lv pl l q :=
  h.kept ((LK.refl wb B W).alloc h.line.base o) ⟨h.line.work.of (heap_alloc_old _ _ h.line.work.lt), h.line.own.alloc _, h.line.lt, by have := h.line.base; simp; omega⟩
end Go.Proofs.YtkoofibhddkpiaaDoor

/-! solve: the work's wait and next -/
namespace Go.Proofs.YtkoofibhddkpiaaDoor
open Go.RowKit
theorem WaitP.turned {W V : World} {wb B mb : Nat} {c0 c1 c2 pv lv : Value} {pl l : List Int} {q q' : List Nat} (h : WaitP W wb B mb c0 c1 c2 pv lv pl l q) (hg : W.grownBy V (some mb)) (hs : SetP V mb q') : WaitP V wb B mb c0 c1 c2 pv lv pl l q' := by
  have hlt := h.line.work.lt
  have hbase := h.line.base
  refine ⟨⟨h.line.work.of (hg.block _ hlt (fun e => h.mne (Option.some.inj e).symm)), SS.own_of_block h.line.own (fun k e => hg.block k (h.line.own.lt k e).2 (fun e2 => by have h1 := (h.line.own.lt k e).1; have h2 := h.mlt; have h3 := Option.some.inj e2; omega)), h.line.lt, Nat.le_trans hbase hg.size⟩, hs, SS.own_of_block h.place (fun k e => hg.block k (by have h1 := (h.plt k e).1; omega) (fun e2 => (h.plt k e).2.2 (Option.some.inj e2))), h.mlt, h.mne, h.plt⟩
theorem WaitP.drewN {W : World} {wb B mb : Nat} {c0 c1 c2 pv lv : Value} {pl l : List Int} {q : List Nat} (h : WaitP W wb B mb c0 c1 c2 pv lv pl l q) (d : Nat) : WaitP (W.drewN d) wb B mb c0 c1 c2 pv lv pl l q := h.kept ((LK.refl wb B W).drewN d) (h.line.drewN d)
/-- what wait leaves -/
def WaitE (W : World) (wb B mb : Nat) (c0 c1 c2 pv : Value) (pl l : List Int) (q : List Nat) (v : Nat) (e : Ending) (V : World) : Prop :=
  e = .returned (.tuple #[]) ∧ WK wb mb B W V ∧ ∃ lv' l', (v ∈ q ∧ WaitP V wb B mb c0 c1 c2 pv lv' pl l' q ∧ l' = l) ∨ (v ∉ q ∧ WaitP V wb B mb c0 c1 c2 pv lv' pl l' (v :: q) ∧ l'.Perm (pl[v]?.getD 0 :: l))
set_option maxRecDepth 100000 in
set_option maxHeartbeats 6400000 in
theorem wait_any {W : World} {wb B mb : Nat} {c0 c1 c2 pv lv : Value} {pl l : List Int} {q : List Nat} (h : WaitP W wb B mb c0 c1 c2 pv lv pl l q) (hl : l.length ≤ 4294967296) (hq : q.length ≤ 4294967296) (hpl : pl.length < 4294967296) (v : Nat) (hv : v < pl.length) :
    Calls Tryd.prog 20 #[.pointer (some ⟨wb, 0, none⟩), .int .i64 v] W fun e V => WaitE W wb B mb c0 c1 c2 pv pl l q v e V := by
  have hcm := h.line.work.cells.2.2.2.2.2
  have H := Lib.hid h
  obtain ⟨pb, pc, rfl⟩ := SS.own_some h.place (by omega)
  obtain ⟨D, hD1, hD2, hD3⟩ := h.set
  have HD1 := Lib.hid hD1
  have HD2 := Lib.hid hD2
  have HD3 := Lib.hid hD3
  have hsame := hD2 v (by omega)
  have HKY := Lib.hid (keyW v (by omega))
  have HV4 := Lib.hid (show v < 4294967296 by omega)
  have HLL := Lib.hid hl
  have HQL := Lib.hid (show Maps.size D < maxLen by rw [hD3]; unfold maxLen; omega)
  have HVP := Lib.hid hv
  clear hD1 hD2 hD3 h hl hq hpl
  by_cases hin : v ∈ q
  · have hasV : Maps.has D (.int .i64 (v : Int)) = true := by rw [hsame]; simp [hin]
    have HF := Lib.hid (show WaitE W wb B mb c0 c1 c2 (.slice (some ⟨pb, 0, none⟩) pl.length pc) pl l q v (.returned (.tuple #[])) (W.alloc (.cells #[] 66)) from ⟨rfl, ((LK.refl wb B W).alloc H.out.line.base _).wk mb, lv, l, .inl ⟨hin, H.out.alloc _, rfl⟩⟩)
    clear hsame hin hv
    go_enter Tryd.func20, Tryd.ntmps20
    go_wp2_with (first
    | (at_lookup
       refine wpList_lookup_own_unit _ rfl _ _ 41 rfl 3 66 lawW Tryd.underlying41 (zeroW _) mb _ D rfl HD1.out _ _ rfl HKY.out ?_
       rw [hasV]))
    refine bodyPost_ret (results_none rfl _ _ _) rfl ?_
    exact HF.out
  · have hasV : Maps.has D (.int .i64 (v : Int)) = false := by rw [hsame]; simp [hin]
    have HA := Lib.hid (H.out.alloc (.cells #[] 66))
    have hcn := HA.out.line.work.cells.2.2.2.2.2
    have HDA := Lib.hid (HD1.out.alloc (.cells #[] 66))
    have HIN := Lib.hid hin
    clear hsame hin hv
    go_enter Tryd.func20, Tryd.ntmps20
    go_upto_region 3 with (first
    | (at_lookup
       refine wpList_lookup_own_unit _ rfl _ _ 41 rfl 3 66 lawW Tryd.underlying41 (zeroW _) mb _ D rfl HD1.out _ _ rfl HKY.out ?_
       rw [hasV])
    | (at_mapUpdate
       refine wpList_mapUpdate_own _ rfl _ _ _ 41 rfl 3 66 lawW Tryd.underlying41 unitElem mb _ D rfl HDA.out HQL.out _ _ _ rfl rfl HKY.out (.agg []) [] unitElem_mk ?_
       intro w1 hown1 hgrow1
       have H1 := Lib.hid (HA.out.turned hgrow1 (SetP.put HD1.out HD2.out HD3.out HV4.out HIN.out hown1))
       have HK1 := Lib.hid ((((LK.refl wb B W).alloc H.out.line.base _).wk mb).trans (WK.turned hgrow1 HA.out.line.base))
       clear hown1 hgrow1 hcm hcn))
    have H7 := Lib.hid (show WaitP w1.drew wb B mb c0 c1 c2 _ _ pl l (v :: q) from H1.out.drewN 1)
    have HK7 := Lib.hid (HK1.out.trans (((LK.refl wb B w1).drew).wk mb))
    refine wp_region_held_drew (S := (fun _ => True)) (by kernel_rfl) ?_ (fun hHeld => ?_)
    · trivial
    generalize w1.drew = w7 at H7 HK7 ⊢
    have hcP := H7.out.line.work.cells.2.2.2.1
    have hcX := SS.own_cell H7.out.place (intsV_at HVP.out)
    obtain ⟨x, ex⟩ : ∃ x, x = pl[v]?.getD 0 := ⟨_, rfl⟩
    rw [← ex] at hcX
    have HEX := Lib.hid ex
    clear ex
    have i1 : (0 : Int) ≤ v ∧ (v : Int) < pl.length := by have := HVP.out; omega
    refine wpAnyH_take (i := 0) (v := .pointer (some ⟨wb, 0, none⟩)) rfl (by kernel_rfl) (by kernel_rfl) (by kernel_rfl) (fun _ _ _ h => h) (Or.inl ⟨by rfl, fun W hSW => ?_⟩) hHeld ?_
    · ((try dsimp only at hSW); go_split_ands; go_simp <;> with_reducible rfl)
    try simp only [List.getElem_toArray, List.getElem_cons_succ, List.getElem_cons_zero, Act.put, List.setIfInBounds_toArray, List.set_cons_zero, List.set_cons_succ]
    refine wpAnyH_take (i := 1) (v := .pointer (some ⟨wb, 0, none⟩)) rfl (by kernel_rfl) (by kernel_rfl) (by kernel_rfl) (fun _ _ _ h => h) (Or.inl ⟨by rfl, fun W hSW => ?_⟩) hHeld ?_
    · ((try dsimp only at hSW); go_split_ands; go_simp <;> with_reducible rfl)
    try simp only [List.getElem_toArray, List.getElem_cons_succ, List.getElem_cons_zero, Act.put, List.setIfInBounds_toArray, List.set_cons_zero, List.set_cons_succ]
    refine wpAnyH_take (i := 2) (v := .pointer (some ⟨wb, 4, none⟩)) rfl (by kernel_rfl) (by kernel_rfl) (by kernel_rfl) (fun _ _ _ h => h) (Or.inl ⟨by rfl, fun W hSW => ?_⟩) hHeld ?_
    · ((try dsimp only at hSW); go_split_ands; go_simp <;> with_reducible rfl)
    try simp only [List.getElem_toArray, List.getElem_cons_succ, List.getElem_cons_zero, Act.put, List.setIfInBounds_toArray, List.set_cons_zero, List.set_cons_succ]
    refine wpAnyH_take (i := 3) (v := .iface 58 (.pointer (some ⟨wb, 4, none⟩))) rfl (by kernel_rfl) (by kernel_rfl) (by kernel_rfl) (fun _ _ _ h => h) (Or.inl ⟨by rfl, fun W hSW => ?_⟩) hHeld ?_
    · ((try dsimp only at hSW); go_split_ands; go_simp <;> with_reducible rfl)
    try simp only [List.getElem_toArray, List.getElem_cons_succ, List.getElem_cons_zero, Act.put, List.setIfInBounds_toArray, List.set_cons_zero, List.set_cons_succ]
    refine wpAnyH_take (i := 4) (v := .pointer (some ⟨wb, 0, none⟩)) rfl (by kernel_rfl) (by kernel_rfl) (by kernel_rfl) (fun _ _ _ h => h) (Or.inl ⟨by rfl, fun W hSW => ?_⟩) hHeld ?_
    · ((try dsimp only at hSW); go_split_ands; go_simp <;> with_reducible rfl)
    try simp only [List.getElem_toArray, List.getElem_cons_succ, List.getElem_cons_zero, Act.put, List.setIfInBounds_toArray, List.set_cons_zero, List.set_cons_succ]
    refine wpAnyH_take (i := 5) (v := .pointer (some ⟨wb, 0, none⟩)) rfl (by kernel_rfl) (by kernel_rfl) (by kernel_rfl) (fun _ _ _ h => h) (Or.inl ⟨by rfl, fun W hSW => ?_⟩) hHeld ?_
    · ((try dsimp only at hSW); go_split_ands; go_simp <;> with_reducible rfl)
    try simp only [List.getElem_toArray, List.getElem_cons_succ, List.getElem_cons_zero, Act.put, List.setIfInBounds_toArray, List.set_cons_zero, List.set_cons_succ]
    refine wpAnyH_take (i := 6) (v := .pointer (some ⟨wb, 3, none⟩)) rfl (by kernel_rfl) (by kernel_rfl) (by kernel_rfl) (fun _ _ _ h => h) (Or.inl ⟨by rfl, fun W hSW => ?_⟩) hHeld ?_
    · ((try dsimp only at hSW); go_split_ands; go_simp <;> with_reducible rfl)
    try simp only [List.getElem_toArray, List.getElem_cons_succ, List.getElem_cons_zero, Act.put, List.setIfInBounds_toArray, List.set_cons_zero, List.set_cons_succ]
    refine wpAnyH_take (i := 8) (v := .int .i64 v) rfl (by kernel_rfl) (by kernel_rfl) (by kernel_rfl) (fun _ _ _ h => h) (Or.inl ⟨by rfl, fun W hSW => ?_⟩) hHeld ?_
    · ((try dsimp only at hSW); go_split_ands; go_simp <;> with_reducible rfl)
    try simp only [List.getElem_toArray, List.getElem_cons_succ, List.getElem_cons_zero, Act.put, List.setIfInBounds_toArray, List.set_cons_zero, List.set_cons_succ]
    refine wpAnyH_ready (rs := [7]) (by kernel_rfl) (by simp) ?_
    refine AllReadyH.cons rfl (fun K hK => ?_) AllReadyH.nil
    try simp only [List.getElem_toArray, List.getElem_cons_succ, List.getElem_cons_zero]
    go_simp
    try go_wp2_with fail
    refine hK.out _ _ ?_ (fun hHeld => ?_)
    · trivial
    clear hK K
    try simp only [List.getElem_toArray, List.getElem_cons_succ, List.getElem_cons_zero, Act.put, List.setIfInBounds_toArray, List.set_cons_zero, List.set_cons_succ]
    refine wpAnyH_take (i := 9) (v := .pointer (some ⟨pb, v, none⟩)) rfl (by kernel_rfl) (by kernel_rfl) (by kernel_rfl) (fun _ _ _ h => h) (Or.inl ⟨by rfl, fun W hSW => ?_⟩) hHeld ?_
    · ((try dsimp only at hSW); go_split_ands; go_simp <;> with_reducible rfl)
    try simp only [List.getElem_toArray, List.getElem_cons_succ, List.getElem_cons_zero, Act.put, List.setIfInBounds_toArray, List.set_cons_zero, List.set_cons_succ]
    refine wpAnyH_ready (rs := [10]) (by kernel_rfl) (by simp) ?_
    refine AllReadyH.cons rfl (fun K hK => ?_) AllReadyH.nil
    try simp only [List.getElem_toArray, List.getElem_cons_succ, List.getElem_cons_zero]
    go_simp
    try go_wp2_with fail
    refine hK.out _ _ ?_ (fun hHeld => ?_)
    · trivial
    clear hK K
    try simp only [List.getElem_toArray, List.getElem_cons_succ, List.getElem_cons_zero, Act.put, List.setIfInBounds_toArray, List.set_cons_zero, List.set_cons_succ]
    refine wpAnyH_take (i := 11) (v := .iface 3 (.int .i64 x)) rfl (by kernel_rfl) (by kernel_rfl) (by kernel_rfl) (fun _ _ _ h => h) (Or.inl ⟨by rfl, fun W hSW => ?_⟩) hHeld ?_
    · ((try dsimp only at hSW); go_split_ands; go_simp <;> with_reducible rfl)
    try simp only [List.getElem_toArray, List.getElem_cons_succ, List.getElem_cons_zero, Act.put, List.setIfInBounds_toArray, List.set_cons_zero, List.set_cons_succ]
    refine wpAnyH_ready (rs := [12]) (by kernel_rfl) (by simp) ?_
    refine AllReadyH.cons rfl (fun K hK => ?_) AllReadyH.nil
    try simp only [List.getElem_toArray, List.getElem_cons_succ, List.getElem_cons_zero]
    go_simp
    (go_at_call 29; refine (hpush_any x H7.out.line HLL.out).mono ?_; rintro e w9 ⟨rfl, hK9, lv9, l9, hL9, hp9⟩; have HF := Lib.hid (show WaitE W wb B mb c0 c1 c2 (.slice (some ⟨pb, 0, none⟩) pl.length pc) pl l q v (.returned (.tuple #[])) w9 from ⟨rfl, HK7.out.trans (hK9.wk mb), lv9, l9, .inr ⟨HIN.out, H7.out.kept hK9 hL9, by rw [← HEX.out]; exact hp9⟩⟩); clear hK9 hL9 hp9)
    try go_wp2_with fail
    refine hK.out _ _ ?_ (fun hHeld => ?_)
    · trivial
    clear hK K
    try simp only [List.getElem_toArray, List.getElem_cons_succ, List.getElem_cons_zero, Act.put, List.setIfInBounds_toArray, List.set_cons_zero, List.set_cons_succ]
    refine wpAnyH_done (by kernel_rfl) ?_ _
    clear hHeld
    go_wp2_with fail
    go_end0
    exact HF.out
end Go.Proofs.YtkoofibhddkpiaaDoor

/-! solve: the work's next -/
namespace Go.Proofs.YtkoofibhddkpiaaDoor
open Go.RowKit
def plAt (pl : List Int) (q : List Nat) : List Int := q.map fun v => pl[v]?.getD 0
theorem pick {pl ol l l' : List Int} {q : List Nat} {x : Int} (hp : (x :: l').Perm l) (hq : l.Perm (plAt pl q)) (hi : ∀ v ∈ q, ∃ k : Nat, pl[v]?.getD 0 = (k : Int) ∧ k < ol.length ∧ ol[k]?.getD 0 = (v : Int)) :
    ∃ (v k : Nat) (q' : List Nat), x = (k : Int) ∧ k < ol.length ∧ ol[k]?.getD 0 = (v : Int) ∧ v ∈ q ∧ q.Perm (v :: q') ∧ l'.Perm (plAt pl q') := by
  have h1 : (x :: l').Perm (plAt pl q) := hp.trans hq
  have hx : x ∈ plAt pl q := h1.mem_iff.1 (List.mem_cons_self ..)
  obtain ⟨v, hv, hvx⟩ := List.mem_map.1 hx
  obtain ⟨k, hk, hk2, hk3⟩ := hi v hv
  have h2 := List.perm_cons_erase hv
  refine ⟨v, k, q.erase v, hvx.symm.trans hk, hk2, hk3, hv, h2, ?_⟩
  have h3 : (x :: l').Perm (x :: plAt pl (q.erase v)) := by
    have h4 := h1.trans (h2.map fun v => pl[v]?.getD 0)
    rw [List.map_cons, hvx] at h4
    exact h4
  exact h3.cons_inv
def NextE (W : World) (wb B mb : Nat) (c0 c1 ov pv : Value) (pl : List Int) (q : List Nat) (e : Ending) (V : World) : Prop :=
  ∃ (v : Nat) (q' : List Nat) (lv' : Value) (l' : List Int), e = .returned (.int .i64 (v : Int)) ∧ WK wb mb B W V ∧ WaitP V wb B mb c0 c1 ov pv lv' pl l' q' ∧ q.Perm (v :: q') ∧ l'.Perm (plAt pl q')
set_option maxRecDepth 100000 in
set_option maxHeartbeats 6400000 in
theorem next_any {W : World} {wb B mb : Nat} {c0 c1 ov pv lv : Value} {pl ol l : List Int} {q : List Nat} (h : WaitP W wb B mb c0 c1 ov pv lv pl l q) (hl : l.length ≤ 4294967296) (hl0 : 0 < l.length) (hq : l.Perm (plAt pl q)) (hi : ∀ v ∈ q, ∃ k : Nat, pl[v]?.getD 0 = (k : Int) ∧ k < ol.length ∧ ol[k]?.getD 0 = (v : Int)) (hd : q.Nodup) (hq4 : ∀ v ∈ q, v < 4294967296)
    (ho : W.ownsRow 0 3 1 ov ol.length (intsV ol)) (olt : ∀ k, ov.ownBlock = some k → k < B ∧ k ≠ wb) :
    Calls Tryd.prog 13 #[.pointer (some ⟨wb, 0, none⟩)] W fun e V => NextE W wb B mb c0 c1 ov pv pl q e V := by
  have H := Lib.hid h
  have HQ := Lib.hid hq
  have HI := Lib.hid hi
  have HND := Lib.hid hd
  have HQ4 := Lib.hid hq4
  have hol : 0 < ol.length := by
    have h1 : 0 < (plAt pl q).length := by rw [← hq.length_eq]; exact hl0
    unfold plAt at h1
    rw [List.length_map] at h1
    obtain ⟨v, hv⟩ := List.exists_mem_of_length_pos h1
    obtain ⟨k, _, hk, _⟩ := hi v hv
    omega
  obtain ⟨ob, oc, rfl⟩ := SS.own_some ho hol
  obtain ⟨g, cap, rfl⟩ := SS.own_some h.line.own hl0
  obtain ⟨m, hm⟩ : ∃ m, l.length = m + 1 := ⟨l.length - 1, by omega⟩
  have HM := Lib.hid hm
  have HL4 := Lib.hid hl
  have HO := Lib.hid ho
  have HOL := Lib.hid (olt ob rfl)
  clear h hl hl0 hq hi hd hq4 ho olt hol hm
  go_enter Tryd.func13, Tryd.ntmps13
  go_upto_region 1 with fail
  have H7 := Lib.hid (show WaitP W.drew wb B mb c0 c1 _ pv _ pl l q from H.out.drewN 1)
  have HK7 := Lib.hid (((LK.refl wb B W).drew).wk mb)
  have HO7 := Lib.hid (show W.drew.ownsRow 0 3 1 (.slice (some ⟨ob, 0, none⟩) ol.length oc) ol.length (intsV ol) from SS.own_of_block HO.out (fun k e => rfl))
  refine wp_region_held_drew (S := (fun _ => True)) (by kernel_rfl) ?_ (fun hHeld => ?_)
  · trivial
  generalize W.drew = w7 at H7 HK7 HO7 ⊢
  have hcO := H7.out.line.work.cells.2.2.1
  refine wpAnyH_take (i := 0) (v := .pointer (some ⟨wb, 0, none⟩)) rfl (by kernel_rfl) (by kernel_rfl) (by kernel_rfl) (fun _ _ _ h => h) (Or.inl ⟨by rfl, fun W hSW => ?_⟩) hHeld ?_
  · ((try dsimp only at hSW); go_split_ands; go_simp <;> with_reducible rfl)
  try simp only [List.getElem_toArray, List.getElem_cons_succ, List.getElem_cons_zero, Act.put, List.setIfInBounds_toArray, List.set_cons_zero, List.set_cons_succ]
  refine wpAnyH_take (i := 1) (v := .pointer (some ⟨wb, 0, none⟩)) rfl (by kernel_rfl) (by kernel_rfl) (by kernel_rfl) (fun _ _ _ h => h) (Or.inl ⟨by rfl, fun W hSW => ?_⟩) hHeld ?_
  · ((try dsimp only at hSW); go_split_ands; go_simp <;> with_reducible rfl)
  try simp only [List.getElem_toArray, List.getElem_cons_succ, List.getElem_cons_zero, Act.put, List.setIfInBounds_toArray, List.set_cons_zero, List.set_cons_succ]
  refine wpAnyH_take (i := 2) (v := .pointer (some ⟨wb, 2, none⟩)) rfl (by kernel_rfl) (by kernel_rfl) (by kernel_rfl) (fun _ _ _ h => h) (Or.inl ⟨by rfl, fun W hSW => ?_⟩) hHeld ?_
  · ((try dsimp only at hSW); go_split_ands; go_simp <;> with_reducible rfl)
  try simp only [List.getElem_toArray, List.getElem_cons_succ, List.getElem_cons_zero, Act.put, List.setIfInBounds_toArray, List.set_cons_zero, List.set_cons_succ]
  refine wpAnyH_take (i := 4) (v := .pointer (some ⟨wb, 0, none⟩)) rfl (by kernel_rfl) (by kernel_rfl) (by kernel_rfl) (fun _ _ _ h => h) (Or.inl ⟨by rfl, fun W hSW => ?_⟩) hHeld ?_
  · ((try dsimp only at hSW); go_split_ands; go_simp <;> with_reducible rfl)
  try simp only [List.getElem_toArray, List.getElem_cons_succ, List.getElem_cons_zero, Act.put, List.setIfInBounds_toArray, List.set_cons_zero, List.set_cons_succ]
  refine wpAnyH_take (i := 5) (v := .pointer (some ⟨wb, 0, none⟩)) rfl (by kernel_rfl) (by kernel_rfl) (by kernel_rfl) (fun _ _ _ h => h) (Or.inl ⟨by rfl, fun W hSW => ?_⟩) hHeld ?_
  · ((try dsimp only at hSW); go_split_ands; go_simp <;> with_reducible rfl)
  try simp only [List.getElem_toArray, List.getElem_cons_succ, List.getElem_cons_zero, Act.put, List.setIfInBounds_toArray, List.set_cons_zero, List.set_cons_succ]
  refine wpAnyH_take (i := 6) (v := .pointer (some ⟨wb, 4, none⟩)) rfl (by kernel_rfl) (by kernel_rfl) (by kernel_rfl) (fun _ _ _ h => h) (Or.inl ⟨by rfl, fun W hSW => ?_⟩) hHeld ?_
  · ((try dsimp only at hSW); go_split_ands; go_simp <;> with_reducible rfl)
  try simp only [List.getElem_toArray, List.getElem_cons_succ, List.getElem_cons_zero, Act.put, List.setIfInBounds_toArray, List.set_cons_zero, List.set_cons_succ]
  refine wpAnyH_take (i := 7) (v := .iface 58 (.pointer (some ⟨wb, 4, none⟩))) rfl (by kernel_rfl) (by kernel_rfl) (by kernel_rfl) (fun _ _ _ h => h) (Or.inl ⟨by rfl, fun W hSW => ?_⟩) hHeld ?_
  · ((try dsimp only at hSW); go_split_ands; go_simp <;> with_reducible rfl)
  try simp only [List.getElem_toArray, List.getElem_cons_succ, List.getElem_cons_zero, Act.put, List.setIfInBounds_toArray, List.set_cons_zero, List.set_cons_succ]
  refine wpAnyH_ready (rs := [3, 8]) (by kernel_rfl) (by simp) ?_
  refine AllReadyH.cons rfl (fun K hK => ?_) (AllReadyH.cons rfl (fun K hK => ?_) AllReadyH.nil)
  · skip
    try simp only [List.getElem_toArray, List.getElem_cons_succ, List.getElem_cons_zero]
    go_simp
    try go_wp2_with fail
    refine hK.out _ _ ?_ (fun hHeld => ?_)
    · trivial
    clear hK K
    try simp only [List.getElem_toArray, List.getElem_cons_succ, List.getElem_cons_zero, Act.put, List.setIfInBounds_toArray, List.set_cons_zero, List.set_cons_succ]
    refine wpAnyH_ready (rs := [8]) (by kernel_rfl) (by simp) ?_
    refine AllReadyH.cons rfl (fun K hK => ?_) AllReadyH.nil
    try simp only [List.getElem_toArray, List.getElem_cons_succ, List.getElem_cons_zero]
    go_simp
    (go_at_call 22; refine (hpop_any H7.out.line rfl HM.out (by have := HL4.out; omega)).mono ?_; rintro e w9 ⟨x, l9, rfl, hL9, hK9, hp9⟩; obtain ⟨v, k, q', rfl, hk1, hk2, hvq, hq', hl9⟩ := pick hp9 HQ.out HI.out; have H9 := Lib.hid (H7.out.kept hK9 hL9); have HK9 := Lib.hid (HK7.out.trans (hK9.wk mb)); have hcO9 := hL9.work.cells.2.2.1; have hcm9 := hL9.work.cells.2.2.2.2.2; have hcX := SS.own_cell (SS.own_of_block HO7.out (fun j e => hK9.block j (by cases e; exact HOL.out.1) (by cases e; exact HOL.out.2))) (intsV_at hk1); rewrite [hk2] at hcX; have hta : ∀ w, Sem.run Tryd.prog (Instr.typeAssert (.iface 3 (.int .i64 (k : Int))) 20 3 false) w = .ok (.int .i64 (k : Int)) w := (fun w => by kernel_rfl); have i1 : (0 : Int) ≤ k ∧ (k : Int) < ol.length := (by omega); have HV := Lib.hid hvq; have HQP := Lib.hid hq'; have HLP := Lib.hid hl9; obtain ⟨D, hD1, hD2, hD3⟩ := H9.out.set; have HD1 := Lib.hid hD1; have HD2 := Lib.hid hD2; have HD3 := Lib.hid hD3; have HKY := Lib.hid (keyW v (HQ4.out v hvq)); clear hL9 hK9 hp9 hk1 hk2 hvq hq' hl9 hD1 hD2 hD3)
    try go_wp2_with fail
    refine hK.out _ _ ?_ (fun hHeld => ?_)
    · trivial
    clear hK K
    try simp only [List.getElem_toArray, List.getElem_cons_succ, List.getElem_cons_zero, Act.put, List.setIfInBounds_toArray, List.set_cons_zero, List.set_cons_succ]
    refine wpAnyH_take (i := 9) (v := .int .i64 (k : Int)) rfl (by kernel_rfl) (by kernel_rfl) (by kernel_rfl) (fun _ _ _ h => h) (Or.inl ⟨by rfl, fun W hSW => ?_⟩) hHeld ?_
    · ((try dsimp only at hSW); go_split_ands; go_simp <;> with_reducible rfl)
    try simp only [List.getElem_toArray, List.getElem_cons_succ, List.getElem_cons_zero, Act.put, List.setIfInBounds_toArray, List.set_cons_zero, List.set_cons_succ]
    refine wpAnyH_take (i := 10) (v := .pointer (some ⟨ob, k, none⟩)) rfl (by kernel_rfl) (by kernel_rfl) (by kernel_rfl) (fun _ _ _ h => h) (Or.inl ⟨by rfl, fun W hSW => ?_⟩) hHeld ?_
    · ((try dsimp only at hSW); go_split_ands; go_simp <;> with_reducible rfl)
    try simp only [List.getElem_toArray, List.getElem_cons_succ, List.getElem_cons_zero, Act.put, List.setIfInBounds_toArray, List.set_cons_zero, List.set_cons_succ]
    refine wpAnyH_ready (rs := [11]) (by kernel_rfl) (by simp) ?_
    refine AllReadyH.cons rfl (fun K hK => ?_) AllReadyH.nil
    try simp only [List.getElem_toArray, List.getElem_cons_succ, List.getElem_cons_zero]
    go_simp
    try go_wp2_with fail
    refine hK.out _ _ ?_ (fun hHeld => ?_)
    · trivial
    clear hK K
    try simp only [List.getElem_toArray, List.getElem_cons_succ, List.getElem_cons_zero, Act.put, List.setIfInBounds_toArray, List.set_cons_zero, List.set_cons_succ]
    refine wpAnyH_take (i := 12) (v := .int .i64 (v : Int)) rfl (by kernel_rfl) (by kernel_rfl) (by kernel_rfl) (fun _ _ _ h => h) (Or.inl ⟨by rfl, fun W hSW => ?_⟩) hHeld ?_
    · ((try dsimp only at hSW); go_split_ands; go_simp <;> with_reducible rfl)
    try simp only [List.getElem_toArray, List.getElem_cons_succ, List.getElem_cons_zero, Act.put, List.setIfInBounds_toArray, List.set_cons_zero, List.set_cons_succ]
    refine wpAnyH_done (by kernel_rfl) ?_ _
    clear hHeld hcX
    go_wp2_with (at_delete; refine wpList_delete_own _ rfl _ _ 41 3 rfl 66 lawW Tryd.underlying41 _ mb _ D rfl HD1.out _ _ rfl HKY.out ?_; intro w1 hown1 hturn1; have HF := Lib.hid (show NextE W wb B mb c0 c1 (.slice (some ⟨ob, 0, none⟩) ol.length oc) pv pl q (.returned (.int .i64 (v : Int))) w1 from ⟨v, q', _, l9, rfl, HK9.out.trans (WK.turned hturn1.grown H9.out.line.base), H9.out.turned hturn1.grown (SetP.del HD1.out HD2.out HD3.out (HQ4.out v HV.out) HQP.out HND.out hown1), HQP.out, HLP.out⟩); clear hown1 hturn1 hcm9 hcO9)
    go_ret
    exact HF.out
  · skip
    try simp only [List.getElem_toArray, List.getElem_cons_succ, List.getElem_cons_zero]
    go_simp
    (go_at_call 22; refine (hpop_any H7.out.line rfl HM.out (by have := HL4.out; omega)).mono ?_; rintro e w9 ⟨x, l9, rfl, hL9, hK9, hp9⟩; obtain ⟨v, k, q', rfl, hk1, hk2, hvq, hq', hl9⟩ := pick hp9 HQ.out HI.out; have H9 := Lib.hid (H7.out.kept hK9 hL9); have HK9 := Lib.hid (HK7.out.trans (hK9.wk mb)); have hcO9 := hL9.work.cells.2.2.1; have hcm9 := hL9.work.cells.2.2.2.2.2; have hcX := SS.own_cell (SS.own_of_block HO7.out (fun j e => hK9.block j (by cases e; exact HOL.out.1) (by cases e; exact HOL.out.2))) (intsV_at hk1); rewrite [hk2] at hcX; have hta : ∀ w, Sem.run Tryd.prog (Instr.typeAssert (.iface 3 (.int .i64 (k : Int))) 20 3 false) w = .ok (.int .i64 (k : Int)) w := (fun w => by kernel_rfl); have i1 : (0 : Int) ≤ k ∧ (k : Int) < ol.length := (by omega); have HV := Lib.hid hvq; have HQP := Lib.hid hq'; have HLP := Lib.hid hl9; obtain ⟨D, hD1, hD2, hD3⟩ := H9.out.set; have HD1 := Lib.hid hD1; have HD2 := Lib.hid hD2; have HD3 := Lib.hid hD3; have HKY := Lib.hid (keyW v (HQ4.out v hvq)); clear hL9 hK9 hp9 hk1 hk2 hvq hq' hl9 hD1 hD2 hD3)
    try go_wp2_with fail
    refine hK.out _ _ ?_ (fun hHeld => ?_)
    · trivial
    clear hK K
    try simp only [List.getElem_toArray, List.getElem_cons_succ, List.getElem_cons_zero, Act.put, List.setIfInBounds_toArray, List.set_cons_zero, List.set_cons_succ]
    refine wpAnyH_take (i := 9) (v := .int .i64 (k : Int)) rfl (by kernel_rfl) (by kernel_rfl) (by kernel_rfl) (fun _ _ _ h => h) (Or.inl ⟨by rfl, fun W hSW => ?_⟩) hHeld ?_
    · ((try dsimp only at hSW); go_split_ands; go_simp <;> with_reducible rfl)
    try simp only [List.getElem_toArray, List.getElem_cons_succ, List.getElem_cons_zero, Act.put, List.setIfInBounds_toArray, List.set_cons_zero, List.set_cons_succ]
    refine wpAnyH_ready (rs := [3]) (by kernel_rfl) (by simp) ?_
    refine AllReadyH.cons rfl (fun K hK => ?_) AllReadyH.nil
    try simp only [List.getElem_toArray, List.getElem_cons_succ, List.getElem_cons_zero]
    go_simp
    try go_wp2_with fail
    refine hK.out _ _ ?_ (fun hHeld => ?_)
    · trivial
    clear hK K
    try simp only [List.getElem_toArray, List.getElem_cons_succ, List.getElem_cons_zero, Act.put, List.setIfInBounds_toArray, List.set_cons_zero, List.set_cons_succ]
    refine wpAnyH_take (i := 10) (v := .pointer (some ⟨ob, k, none⟩)) rfl (by kernel_rfl) (by kernel_rfl) (by kernel_rfl) (fun _ _ _ h => h) (Or.inl ⟨by rfl, fun W hSW => ?_⟩) hHeld ?_
    · ((try dsimp only at hSW); go_split_ands; go_simp <;> with_reducible rfl)
    try simp only [List.getElem_toArray, List.getElem_cons_succ, List.getElem_cons_zero, Act.put, List.setIfInBounds_toArray, List.set_cons_zero, List.set_cons_succ]
    refine wpAnyH_ready (rs := [11]) (by kernel_rfl) (by simp) ?_
    refine AllReadyH.cons rfl (fun K hK => ?_) AllReadyH.nil
    try simp only [List.getElem_toArray, List.getElem_cons_succ, List.getElem_cons_zero]
    go_simp
    try go_wp2_with fail
    refine hK.out _ _ ?_ (fun hHeld => ?_)
    · trivial
    clear hK K
    try simp only [List.getElem_toArray, List.getElem_cons_succ, List.getElem_cons_zero, Act.put, List.setIfInBounds_toArray, List.set_cons_zero, List.set_cons_succ]
    refine wpAnyH_take (i := 12) (v := .int .i64 (v : Int)) rfl (by kernel_rfl) (by kernel_rfl) (by kernel_rfl) (fun _ _ _ h => h) (Or.inl ⟨by rfl, fun W hSW => ?_⟩) hHeld ?_
    · ((try dsimp only at hSW); go_split_ands; go_simp <;> with_reducible rfl)
    try simp only [List.getElem_toArray, List.getElem_cons_succ, List.getElem_cons_zero, Act.put, List.setIfInBounds_toArray, List.set_cons_zero, List.set_cons_succ]
    refine wpAnyH_done (by kernel_rfl) ?_ _
    clear hHeld hcX
    go_wp2_with (at_delete; refine wpList_delete_own _ rfl _ _ 41 3 rfl 66 lawW Tryd.underlying41 _ mb _ D rfl HD1.out _ _ rfl HKY.out ?_; intro w1 hown1 hturn1; have HF := Lib.hid (show NextE W wb B mb c0 c1 (.slice (some ⟨ob, 0, none⟩) ol.length oc) pv pl q (.returned (.int .i64 (v : Int))) w1 from ⟨v, q', _, l9, rfl, HK9.out.trans (WK.turned hturn1.grown H9.out.line.base), H9.out.turned hturn1.grown (SetP.del HD1.out HD2.out HD3.out (HQ4.out v HV.out) HQP.out HND.out hown1), HQP.out, HLP.out⟩); clear hown1 hturn1 hcm9 hcO9)
    go_ret
    exact HF.out
end Go.Proofs.YtkoofibhddkpiaaDoor

/-! solve: sums in memory; the join of two -/
namespace Go.Proofs.YtkoofibhddkpiaaDoor
open Go.RowKit
def sumV (p : Int × Int) : Value := .agg #[.int .u64 p.1, .int .u64 p.2]
def sjoin (p r : Int × Int) : Int × Int := (bits .and .u64 p.1 r.1, bits .or .u64 p.2 r.2)
set_option maxRecDepth 100000 in
set_option maxHeartbeats 1600000 in
theorem sjoin_any (a b c d : Int) (W : World) : Calls Tryd.prog 21 #[.agg #[.int .u64 a, .int .u64 b], .agg #[.int .u64 c, .int .u64 d]] W fun e V => e = .returned (.agg #[.int .u64 (bits .and .u64 a c), .int .u64 (bits .or .u64 b d)]) ∧ Below W.heap.size W V := by
  go_enter Tryd.func21, Tryd.ntmps21
  go_wp2_with fail
  refine bodyPost_ret (v := .agg #[.int .u64 (bits .and .u64 a c), .int .u64 (bits .or .u64 b d)]) (results_cell_row rfl _ _ (W.heap.size + 1 + 1) 55 #[.int .u64 (bits .and .u64 a c), .int .u64 (bits .or .u64 b d)] (0, 0) _ rfl (SS.new_at (by simp)) Tryd.underlying55 rfl (by kernel_rfl)) rfl ?_
  exact ⟨rfl, (((Below.refl _ _).alloc (Nat.le_refl _) _).alloc (by simp) _).alloc (by simp; omega) _⟩
/-- the cells of a row of sums -/
def sumC (l : List (Int × Int)) : List Value := l.flatMap fun p => [.int .u64 p.1, .int .u64 p.2]
def s0 : Int × Int := (0, 0)
theorem sumC_len (l : List (Int × Int)) : (sumC l).length = l.length * 2 := by
  induction l with
  | nil => rfl
  | cons e l ih => simp [sumC, List.flatMap_cons] at ih ⊢; omega
theorem sumC_at {l : List (Int × Int)} {i : Nat} (h : i < l.length) : (sumC l)[i * 2]? = some (.int .u64 (l[i]?.getD s0).1) ∧ (sumC l)[i * 2 + 1]? = some (.int .u64 (l[i]?.getD s0).2) := by
  induction l generalizing i with
  | nil => simp at h
  | cons e l ih =>
    cases i with
    | zero => simp [sumC]
    | succ i =>
      have := ih (i := i) (by simpa using h)
      have e1 : (i + 1) * 2 = i * 2 + 2 := by omega
      rw [e1]
      unfold sumC at this ⊢
      rw [List.flatMap_cons]
      simpa using this
theorem sumC_set {l : List (Int × Int)} {i : Nat} (h : i < l.length) (p : Int × Int) : ((sumC l).set (i * 2) (.int .u64 p.1)).set (i * 2 + 1) (.int .u64 p.2) = sumC (l.set i p) := by
  induction l generalizing i with
  | nil => simp at h
  | cons e l ih =>
    cases i with
    | zero => simp [sumC]
    | succ i =>
      have := ih (i := i) (by simpa using h)
      have e1 : (i + 1) * 2 = i * 2 + 2 := by omega
      rw [e1]
      unfold sumC at this ⊢
      rw [List.flatMap_cons, List.set_cons_succ, List.flatMap_cons]
      simpa using this
/-- the cells of a row of one's own, of elements of some cells -/
theorem own_cellZ {W : World} {B e n cap g z : Nat} {xs : List Value} (h : W.ownsRow B e z (.slice (some ⟨g, 0, none⟩) n cap) n xs) {k : Nat} {u : Value} (hk : xs[k]? = some u) : W.cell? ⟨g, k, none⟩ = some u := by
  rcases h.2 with ⟨e1, _⟩ | ⟨g', cap', cur, e1, hb, hg, hn, hmx, hs, htake⟩
  · cases e1
  · cases e1
    have hkl : k < xs.length := (List.getElem?_eq_some_iff.1 hk).1
    rw [← htake] at hk hkl
    rw [List.length_take] at hkl
    rw [List.getElem?_take_of_lt (by omega)] at hk
    simp only [World.cell?, hg]
    simpa using hk
end Go.Proofs.YtkoofibhddkpiaaDoor

/-! solve: tell -/
namespace Go.Proofs.YtkoofibhddkpiaaDoor
open Go.RowKit
theorem eq_sum (a b c d : Int) (w : World) : (Op.equalIn 10000 55 (.agg #[.int .u64 a, .int .u64 b]) (.agg #[.int .u64 c, .int .u64 d])).run Tryd.prog w = .ok (decide (a = c) && decide (b = d)) w := by
  go_simp
  by_cases h1 : a = c <;> by_cases h2 : b = d <;> simp [h1, h2]
def addQ (o : Nat) (q : List Nat) : List Nat := if o ∈ q then q else o :: q
theorem addQ_nodup {o : Nat} {q : List Nat} (h : q.Nodup) : (addQ o q).Nodup := by
  unfold addQ
  by_cases e : o ∈ q
  · rw [if_pos e]; exact h
  · rw [if_neg e]; exact List.nodup_cons.2 ⟨e, h⟩
theorem mem_addQ {o u : Nat} {q : List Nat} : u ∈ addQ o q ↔ u = o ∨ u ∈ q := by
  unfold addQ
  by_cases e : o ∈ q
  · rw [if_pos e]
    exact ⟨.inr, fun h => h.elim (fun e1 => e1 ▸ e) id⟩
  · rw [if_neg e, List.mem_cons]
theorem addQ_len {o : Nat} {q : List Nat} : q.length ≤ (addQ o q).length ∧ (addQ o q).length ≤ q.length + 1 := by
  unfold addQ
  by_cases e : o ∈ q
  · rw [if_pos e]; omega
  · rw [if_neg e]; simp
theorem WaitE.add {W V : World} {wb B mb : Nat} {c0 c1 c2 pv : Value} {pl l : List Int} {q : List Nat} {v : Nat} {e : Ending} (h : WaitE W wb B mb c0 c1 c2 pv pl l q v e V) (hp : l.Perm (plAt pl q)) :
    e = .returned (.tuple #[]) ∧ WK wb mb B W V ∧ ∃ lv' l', WaitP V wb B mb c0 c1 c2 pv lv' pl l' (addQ v q) ∧ l'.Perm (plAt pl (addQ v q)) := by
  obtain ⟨he, hk, lv', l', hc⟩ := h
  refine ⟨he, hk, lv', l', ?_⟩
  unfold addQ
  rcases hc with ⟨h1, h2, h3⟩ | ⟨h1, h2, h3⟩
  · rw [if_pos h1, h3]
    exact ⟨h3 ▸ h2, hp⟩
  · rw [if_neg h1]
    exact ⟨h2, h3.trans (hp.cons _)⟩
/-- one is told -/
def tstep (v o : Nat) (st : List (Int × Int) × List Nat) : List (Int × Int) × List Nat :=
  if sjoin (st.1[o]?.getD s0) (st.1[v]?.getD s0) = st.1[o]?.getD s0 then st else (st.1.set o (sjoin (st.1[o]?.getD s0) (st.1[v]?.getD s0)), addQ o st.2)
def tellT (v : Nat) (r : List Nat) (k : Nat) (st : List (Int × Int) × List Nat) : List (Int × Int) × List Nat := (r.take k).foldl (fun st o => tstep v o st) st
theorem tellT_zero (v : Nat) (r : List Nat) (st : List (Int × Int) × List Nat) : tellT v r 0 st = st := by simp [tellT]
theorem tellT_succ {v k o : Nat} {r : List Nat} {st : List (Int × Int) × List Nat} (h : r[k]? = some o) : tellT v r (k + 1) st = tstep v o (tellT v r k st) := by
  obtain ⟨hk, e⟩ := List.getElem?_eq_some_iff.1 h
  unfold tellT
  rw [List.take_succ_eq_append_getElem hk, List.foldl_append, e]
  rfl
/-- but for the work's block, the set's and the sums', all below B is as it was -/
structure SK (wb mb sb B : Nat) (W V : World) : Prop where
  os : V.os = W.os
  tape : V.tape = W.tape
  output : V.output = W.output
  size : W.heap.size ≤ V.heap.size
  block : ∀ k, k < B → k ≠ wb → k ≠ mb → k ≠ sb → V.heap[k]? = W.heap[k]?
theorem SK.refl (wb mb sb B : Nat) (W : World) : SK wb mb sb B W W := ⟨rfl, rfl, rfl, Nat.le_refl _, fun _ _ _ _ _ => rfl⟩
theorem SK.trans {wb mb sb B : Nat} {W V Z : World} (h : SK wb mb sb B W V) (g : SK wb mb sb B V Z) : SK wb mb sb B W Z := ⟨g.os.trans h.os, g.tape.trans h.tape, g.output.trans h.output, Nat.le_trans h.size g.size, fun k h1 h2 h3 h4 => (g.block k h1 h2 h3 h4).trans (h.block k h1 h2 h3 h4)⟩
theorem WK.sk {wb mb B : Nat} {W V : World} (h : WK wb mb B W V) (sb : Nat) : SK wb mb sb B W V := ⟨h.os, h.tape, h.output, h.size, fun k h1 h2 h3 _ => h.block k h1 h2 h3⟩
theorem SK.below {wb mb sb B N : Nat} {W V : World} (h : Below N W V) (hB : B ≤ N) : SK wb mb sb B W V := ⟨h.os, h.tape, h.output, h.size, fun k h1 _ _ _ => h.block k (by omega)⟩
theorem SK.grown {wb mb sb B : Nat} {W V : World} (h : W.grownBy V (some sb)) (hB : B ≤ W.heap.size) : SK wb mb sb B W V := ⟨h.os, h.tape, h.output, h.size, fun k h1 _ _ h4 => h.block k (by omega) (fun e => h4 (Option.some.inj e))⟩
/-- the work as tell sees it -/
structure TellP (W : World) (wb B mb sb sc n : Nat) (av ov pv lv : Value) (pl l : List Int) (st : List (Int × Int) × List Nat) : Prop where
  wait : WaitP W wb B mb (.slice (some ⟨sb, 0, none⟩) n sc) av ov pv lv pl l st.2
  len : st.1.length = n
  sums : W.ownsRow 0 55 2 (.slice (some ⟨sb, 0, none⟩) n sc) n (sumC st.1)
  slt : sb < B
  sne : sb ≠ wb ∧ sb ≠ mb
  spl : ∀ k, pv.ownBlock = some k → k ≠ sb
  perm : l.Perm (plAt pl st.2)
  nodup : st.2.Nodup
  qlt : ∀ v ∈ st.2, v < n
theorem TellP.below {W V : World} {wb B mb sb sc n N : Nat} {av ov pv lv : Value} {pl l : List Int} {st : List (Int × Int) × List Nat} (h : TellP W wb B mb sb sc n av ov pv lv pl l st) (hb : Below N W V) (hN : W.heap.size ≤ N) : TellP V wb B mb sb sc n av ov pv lv pl l st := by
  have hbase := h.wait.line.base
  have hlk : LK wb B W V := ⟨hb.os, hb.tape, hb.output, hb.size, fun k h1 _ => hb.block k (by omega)⟩
  have hln := h.wait.line
  exact ⟨h.wait.kept hlk ⟨hln.work.of (hb.block _ (by have := hln.work.lt; omega)), SS.own_of_block hln.own (fun k e => hb.block k (by have := (hln.own.lt k e).2; omega)), hln.lt, Nat.le_trans hbase hb.size⟩, h.len, SS.own_of_block h.sums (fun k e => hb.block k (by have h1 := h.slt; have h2 : k = sb := (by cases e; rfl); omega)), h.slt, h.sne, h.spl, h.perm, h.nodup, h.qlt⟩
theorem TellP.put {W V : World} {wb B mb sb sc n : Nat} {av ov pv lv : Value} {pl l : List Int} {st : List (Int × Int) × List Nat} (h : TellP W wb B mb sb sc n av ov pv lv pl l st) {ss : List (Int × Int)} (hl : ss.length = n) (hg : W.grownBy V (some sb))
    (ho : V.ownsRow 0 55 2 (.slice (some ⟨sb, 0, none⟩) n sc) n (sumC ss)) : TellP V wb B mb sb sc n av ov pv lv pl l (ss, st.2) := by
  have hbase := h.wait.line.base
  have hln := h.wait.line
  have hw := hln.work.lt
  refine ⟨⟨⟨hln.work.of (hg.block _ hw (fun e => h.sne.1 (Option.some.inj e).symm)), SS.own_of_block hln.own (fun k e => hg.block k (hln.own.lt k e).2 (fun e2 => by have h1 := (hln.own.lt k e).1; have h2 := h.slt; have h3 := Option.some.inj e2; omega)), hln.lt, Nat.le_trans hbase hg.size⟩, ?_, ?_, h.wait.mlt, h.wait.mne, h.wait.plt⟩, hl, ho, h.slt, h.sne, h.spl, h.perm, h.nodup, h.qlt⟩
  · exact h.wait.set.of (hg.block _ (by have := h.wait.mlt; omega) (fun e => h.sne.2 (Option.some.inj e).symm))
  · exact SS.own_of_block h.wait.place (fun k e => hg.block k (by have := (h.wait.plt k e).1; omega) (fun e2 => h.spl k e (Option.some.inj e2)))
end Go.Proofs.YtkoofibhddkpiaaDoor

/-! solve: tell, walked -/
namespace Go.Proofs.YtkoofibhddkpiaaDoor
open Go.RowKit
def TellE (W : World) (wb B mb sb sc n : Nat) (av ov pv : Value) (pl : List Int) (st : List (Int × Int) × List Nat) (e : Ending) (V : World) : Prop := e = .returned (.tuple #[]) ∧ SK wb mb sb B W V ∧ ∃ lv' l', TellP V wb B mb sb sc n av ov pv lv' pl l' st
theorem SK.drew {wb mb sb B : Nat} (W : World) : SK wb mb sb B W W.drew := ⟨rfl, rfl, rfl, Nat.le_refl _, fun _ _ _ _ _ => rfl⟩
theorem TellP.drew {W : World} {wb B mb sb sc n : Nat} {av ov pv lv : Value} {pl l : List Int} {st : List (Int × Int) × List Nat} (h : TellP W wb B mb sb sc n av ov pv lv pl l st) : TellP W.drew wb B mb sb sc n av ov pv lv pl l st := h.below (N := W.heap.size) ⟨rfl, rfl, rfl, Nat.le_refl _, fun _ _ => rfl⟩ (Nat.le_refl _)
theorem tell_held {W V : World} {wb B mb sb sc n N o v : Nat} {av ov pv lv : Value} {pl l : List Int} {st : List (Int × Int) × List Nat} {pa pm ua um : Int} (h : TellP W wb B mb sb sc n av ov pv lv pl l st) (ho : o < n) (hv : v < n) (hp : (pa, pm) = st.1[o]?.getD s0) (hu : (ua, um) = st.1[v]?.getD s0) (hb : Below N W V) (hN : W.heap.size ≤ N) :
    Below N W V ∧ V.cell? ⟨wb, 0, none⟩ = some (.slice (some ⟨sb, 0, none⟩) n sc) ∧ V.cell? ⟨sb, o * 2, none⟩ = some (.int .u64 pa) ∧ V.cell? ⟨sb, o * 2 + 1, none⟩ = some (.int .u64 pm) ∧ V.cell? ⟨sb, v * 2, none⟩ = some (.int .u64 ua) ∧ V.cell? ⟨sb, v * 2 + 1, none⟩ = some (.int .u64 um) := by
  have g := h.below hb hN
  have h1 := sumC_at (l := st.1) (i := o) (by rw [h.len]; exact ho)
  have h2 := sumC_at (l := st.1) (i := v) (by rw [h.len]; exact hv)
  rw [← hp] at h1
  rw [← hu] at h2
  exact ⟨hb, g.wait.line.work.cells.1, own_cellZ g.sums h1.1, own_cellZ g.sums h1.2, own_cellZ g.sums h2.1, own_cellZ g.sums h2.2⟩
theorem TellP.drewN {W : World} {wb B mb sb sc n : Nat} {av ov pv lv : Value} {pl l : List Int} {st : List (Int × Int) × List Nat} (h : TellP W wb B mb sb sc n av ov pv lv pl l st) (d : Nat) : TellP (W.drewN d) wb B mb sb sc n av ov pv lv pl l st := h.below (N := W.heap.size) ⟨rfl, rfl, rfl, Nat.le_refl _, fun _ _ => rfl⟩ (Nat.le_refl _)
theorem SK.drewN {wb mb sb B : Nat} (W : World) (d : Nat) : SK wb mb sb B W (W.drewN d) := ⟨rfl, rfl, rfl, Nat.le_refl _, fun _ _ _ _ _ => rfl⟩
theorem tstep_same {v o : Nat} {st : List (Int × Int) × List Nat} (h : sjoin (st.1[o]?.getD s0) (st.1[v]?.getD s0) = st.1[o]?.getD s0) : tstep v o st = st := by unfold tstep; rw [if_pos h]
theorem tstep_more {v o : Nat} {st : List (Int × Int) × List Nat} (h : ¬ sjoin (st.1[o]?.getD s0) (st.1[v]?.getD s0) = st.1[o]?.getD s0) : tstep v o st = (st.1.set o (sjoin (st.1[o]?.getD s0) (st.1[v]?.getD s0)), addQ o st.2) := by unfold tstep; rw [if_neg h]
theorem cell_off {w : World} {a : Addr} {b i : Nat} (u : Value) (h : b ≠ a.block) : (w.setCell a u).cell? ⟨b, i, none⟩ = w.cell? ⟨b, i, none⟩ := by
  simp only [World.cell?]
  rw [Below.heap_setCell _ _ _ _ h]
theorem TellP.small {W : World} {wb B mb sb sc n : Nat} {av ov pv lv : Value} {pl l : List Int} {st : List (Int × Int) × List Nat} (h : TellP W wb B mb sb sc n av ov pv lv pl l st) : st.2.length ≤ n ∧ l.length ≤ n := by
  have h1 := GG.pigeon n st.2 h.qlt h.nodup
  refine ⟨h1, ?_⟩
  rw [h.perm.length_eq]
  unfold plAt
  rw [List.length_map]
  exact h1
theorem TellP.woken {W V : World} {wb B mb sb sc n o : Nat} {av ov pv lv lv' : Value} {pl l l' : List Int} {st : List (Int × Int) × List Nat} (h : TellP W wb B mb sb sc n av ov pv lv pl l st) (hk : WK wb mb B W V) (hw : WaitP V wb B mb (.slice (some ⟨sb, 0, none⟩) n sc) av ov pv lv' pl l' (addQ o st.2)) (hp : l'.Perm (plAt pl (addQ o st.2))) (ho : o < n) : TellP V wb B mb sb sc n av ov pv lv' pl l' (st.1, addQ o st.2) :=
  ⟨hw, h.len, SS.own_of_block h.sums (fun k e => by have h2 : k = sb := (by cases e; rfl); subst h2; exact hk.block _ h.slt h.sne.1 h.sne.2), h.slt, h.sne, h.spl, hp, addQ_nodup h.nodup, fun u hu => (mem_addQ.1 hu).elim (fun e => e ▸ ho) (h.qlt u)⟩
theorem TellP.stored {W : World} {wb B mb sb sc n o : Nat} {av ov pv lv : Value} {pl l : List Int} {st : List (Int × Int) × List Nat} (h : TellP W wb B mb sb sc n av ov pv lv pl l st) (ho : o < n) (x y : Int) :
    TellP ((W.setCell ⟨sb, o * 2, none⟩ (.int .u64 x)).setCell ⟨sb, o * 2 + 1, none⟩ (.int .u64 y)) wb B mb sb sc n av ov pv lv pl l (st.1.set o (x, y), st.2) ∧ W.grownBy ((W.setCell ⟨sb, o * 2, none⟩ (.int .u64 x)).setCell ⟨sb, o * 2 + 1, none⟩ (.int .u64 y)) (some sb) := by
  have q1 := World.ownsRow.stored h.sums (o * 2) (.int .u64 x)
  have q2 := World.ownsRow.stored q1.1 (o * 2 + 1) (.int .u64 y)
  have hg : W.grownBy ((W.setCell ⟨sb, o * 2, none⟩ (.int .u64 x)).setCell ⟨sb, o * 2 + 1, none⟩ (.int .u64 y)) (some sb) := by
    have g1 := q1.2
    have g2 := q2.2
    exact ⟨g2.os.trans g1.os, g2.tape.trans g1.tape, g2.output.trans g1.output, Nat.le_trans g1.size g2.size, fun k hk hn => (g2.block k (Nat.lt_of_lt_of_le hk g1.size) hn).trans (g1.block k hk hn)⟩
  refine ⟨h.put (by rw [List.length_set]; exact h.len) hg ?_, hg⟩
  have q3 := q2.1
  rw [sumC_set (by rw [h.len]; exact ho) (x, y)] at q3
  exact q3
set_option maxRecDepth 100000 in
set_option maxHeartbeats 12800000 in
theorem tell_any {W : World} {wb B mb sb sc n ab ac v : Nat} {ov pv lv rv : Value} {pl l : List Int} {st : List (Int × Int) × List Nat} {r : List Nat} (h : TellP W wb B mb sb sc n (.slice (some ⟨ab, 0, none⟩) n ac) ov pv lv pl l st) (hn : n ≤ 1000000) (hpl : pl.length = n) (hv : v < n) (hr : ∀ o ∈ r, o < n) (hrl : r.length ≤ 17592186044416)
    (hra : W.cell? ⟨ab, v, none⟩ = some rv) (hro : W.ownsRow 0 3 1 rv r.length (intsV (r.map Int.ofNat))) (hrt : ∀ k, rv.ownBlock = some k → k < B ∧ k ≠ wb ∧ k ≠ mb ∧ k ≠ sb) :
    Calls Tryd.prog 12 #[.pointer (some ⟨wb, 0, none⟩), .int .i64 v] W fun e V => TellE W wb B mb sb sc n (.slice (some ⟨ab, 0, none⟩) n ac) ov pv pl (tellT v r r.length st) e V := by
  have H := Lib.hid h
  have HN := Lib.hid hn
  have HPL := Lib.hid hpl
  have HR := Lib.hid hr
  have HRO := Lib.hid hro
  have HRT := Lib.hid hrt
  have HV := Lib.hid hv
  have hcA := h.wait.line.work.cells.2.1
  obtain ⟨ra, rc, rfl⟩ := SS.ownOf hro
  have i1 : (0 : Int) ≤ v ∧ (v : Int) < n := by omega
  have i2 : (r.length : Int) ≤ 17592186044416 := by omega
  clear h hn hpl hv hr hro hrt hrl
  go_enter Tryd.func12, Tryd.ntmps12
  go_wp2_with fail
  go_loopw [15] (fun k wr => ∃ (j : Nat) (lv1 : Value) (l1 : List Int), k = .int .i64 (j : Int) ∧ j ≤ r.length ∧ SK wb mb sb B W wr ∧ TellP wr wb B mb sb sc n (.slice (some ⟨ab, 0, none⟩) n ac) ov pv lv1 pl l1 (tellT v r j st)) (fun k _ => r.length - (intOf k).toNat)
  case atStart => exact ⟨0, lv, l, rfl, Nat.zero_le _, SK.refl _ _ _ _ _, by rw [tellT_zero]; exact H.out⟩
  case round =>
    obtain ⟨j, lv1, l1, rfl, hj, hK, hT⟩ := hrel
    have HK := Lib.hid hK
    have HT := Lib.hid hT
    clear hK hT hcA hra
    by_cases hjt : j < r.length
    · obtain ⟨rb, rc2, e1⟩ := SS.own_some HRO.out (by omega)
      cases e1
      have hcR := SS.own_cell (SS.own_of_block HRO.out (fun k e => HK.out.block k (HRT.out k e).1 (HRT.out k e).2.1 (HRT.out k e).2.2.1 (HRT.out k e).2.2.2)) (intsV_at (show j < (r.map Int.ofNat).length by simpa using hjt))
      obtain ⟨o, ho⟩ : ∃ o, r[j]? = some o := ⟨_, List.getElem?_eq_getElem hjt⟩
      have e2 : (r.map Int.ofNat)[j]?.getD 0 = (o : Int) := by simp [ho]
      rw [e2] at hcR
      have HO := Lib.hid (HR.out o (List.mem_of_getElem? ho))
      have HST := Lib.hid (tellT_succ (v := v) (st := st) ho)
      have i3 : (0 : Int) ≤ j ∧ (j : Int) < r.length := by omega
      have i4 : (0 : Int) ≤ o ∧ (o : Int) < n := by have := HO.out; omega
      clear ho e2
      obtain ⟨sj, esj⟩ : ∃ sj, sj = tellT v r j st := ⟨_, rfl⟩
      rw [← esj] at HT HST
      clear esj
      obtain ⟨⟨pa, pm⟩, hp⟩ : ∃ p, p = sj.1[o]?.getD s0 := ⟨_, rfl⟩
      obtain ⟨⟨ua, um⟩, hu⟩ : ∃ u, u = sj.1[v]?.getD s0 := ⟨_, rfl⟩
      have HP := Lib.hid hp
      have HU := Lib.hid hu
      clear hp hu
      go_upto_region 3 with fail
      refine wp_region_held_drew (S := (fun V => Below wr.heap.size wr V ∧ V.cell? ⟨wb, 0, none⟩ = some (.slice (some ⟨sb, 0, none⟩) n sc) ∧ V.cell? ⟨sb, o * 2, none⟩ = some (.int .u64 pa) ∧ V.cell? ⟨sb, o * 2 + 1, none⟩ = some (.int .u64 pm) ∧ V.cell? ⟨sb, v * 2, none⟩ = some (.int .u64 ua) ∧ V.cell? ⟨sb, v * 2 + 1, none⟩ = some (.int .u64 um))) (by kernel_rfl) ?_ (fun hHeld => ?_)
      · first | exact tell_held HT.out HO.out HV.out HP.out HU.out (Below.refl _ _) (Nat.le_refl _) | exact tell_held HT.out HO.out HV.out HP.out HU.out ((Below.refl _ _).drew) (Nat.le_refl _)
      refine wpAnyH_take (i := 0) (v := .pointer (some ⟨wb, 0, none⟩)) rfl (by kernel_rfl) (by kernel_rfl) (by kernel_rfl) (fun _ _ _ h => h) (Or.inl ⟨by rfl, fun W hSW => ?_⟩) hHeld ?_
      · ((try dsimp only at hSW); go_split_ands; go_simp <;> with_reducible rfl)
      try simp only [List.getElem_toArray, List.getElem_cons_succ, List.getElem_cons_zero, Act.put, List.setIfInBounds_toArray, List.set_cons_zero, List.set_cons_succ]
      refine wpAnyH_take (i := 1) (v := .pointer (some ⟨wb, 0, none⟩)) rfl (by kernel_rfl) (by kernel_rfl) (by kernel_rfl) (fun _ _ _ h => h) (Or.inl ⟨by rfl, fun W hSW => ?_⟩) hHeld ?_
      · ((try dsimp only at hSW); go_split_ands; go_simp <;> with_reducible rfl)
      try simp only [List.getElem_toArray, List.getElem_cons_succ, List.getElem_cons_zero, Act.put, List.setIfInBounds_toArray, List.set_cons_zero, List.set_cons_succ]
      refine wpAnyH_take (i := 2) (v := .pointer (some ⟨wb, 0, none⟩)) rfl (by kernel_rfl) (by kernel_rfl) (by kernel_rfl) (fun _ _ _ h => h) (Or.inl ⟨by rfl, fun W hSW => ?_⟩) hHeld ?_
      · ((try dsimp only at hSW); go_split_ands; go_simp <;> with_reducible rfl)
      try simp only [List.getElem_toArray, List.getElem_cons_succ, List.getElem_cons_zero, Act.put, List.setIfInBounds_toArray, List.set_cons_zero, List.set_cons_succ]
      refine wpAnyH_take (i := 3) (v := .slice (some ⟨sb, 0, none⟩) n sc) rfl (by kernel_rfl) (by kernel_rfl) (by kernel_rfl) (fun _ _ _ h => h) (Or.inl ⟨by rfl, fun W hSW => ?_⟩) hHeld ?_
      · ((try dsimp only at hSW); go_split_ands; go_simp <;> with_reducible rfl)
      try simp only [List.getElem_toArray, List.getElem_cons_succ, List.getElem_cons_zero, Act.put, List.setIfInBounds_toArray, List.set_cons_zero, List.set_cons_succ]
      refine wpAnyH_take (i := 4) (v := .int .i64 o) rfl (by kernel_rfl) (by kernel_rfl) (by kernel_rfl) (fun _ _ _ h => h) (Or.inl ⟨by rfl, fun W hSW => ?_⟩) hHeld ?_
      · ((try dsimp only at hSW); go_split_ands; go_simp <;> with_reducible rfl)
      try simp only [List.getElem_toArray, List.getElem_cons_succ, List.getElem_cons_zero, Act.put, List.setIfInBounds_toArray, List.set_cons_zero, List.set_cons_succ]
      refine wpAnyH_take (i := 5) (v := .pointer (some ⟨sb, o * 2, none⟩)) rfl (by kernel_rfl) (by kernel_rfl) (by kernel_rfl) (fun _ _ _ h => h) (Or.inl ⟨by rfl, fun W hSW => ?_⟩) hHeld ?_
      · ((try dsimp only at hSW); go_split_ands; go_simp <;> with_reducible rfl)
      try simp only [List.getElem_toArray, List.getElem_cons_succ, List.getElem_cons_zero, Act.put, List.setIfInBounds_toArray, List.set_cons_zero, List.set_cons_succ]
      refine wpAnyH_take (i := 6) (v := .agg #[.int .u64 pa, .int .u64 pm]) rfl (by kernel_rfl) (by kernel_rfl) (by kernel_rfl) (fun _ _ _ h => h) (Or.inl ⟨by rfl, fun W hSW => ?_⟩) hHeld ?_
      · ((try dsimp only at hSW); go_split_ands; go_simp <;> with_reducible rfl)
      try simp only [List.getElem_toArray, List.getElem_cons_succ, List.getElem_cons_zero, Act.put, List.setIfInBounds_toArray, List.set_cons_zero, List.set_cons_succ]
      refine wpAnyH_take (i := 7) (v := .pointer (some ⟨wb, 0, none⟩)) rfl (by kernel_rfl) (by kernel_rfl) (by kernel_rfl) (fun _ _ _ h => h) (Or.inl ⟨by rfl, fun W hSW => ?_⟩) hHeld ?_
      · ((try dsimp only at hSW); go_split_ands; go_simp <;> with_reducible rfl)
      try simp only [List.getElem_toArray, List.getElem_cons_succ, List.getElem_cons_zero, Act.put, List.setIfInBounds_toArray, List.set_cons_zero, List.set_cons_succ]
      refine wpAnyH_take (i := 8) (v := .pointer (some ⟨wb, 0, none⟩)) rfl (by kernel_rfl) (by kernel_rfl) (by kernel_rfl) (fun _ _ _ h => h) (Or.inl ⟨by rfl, fun W hSW => ?_⟩) hHeld ?_
      · ((try dsimp only at hSW); go_split_ands; go_simp <;> with_reducible rfl)
      try simp only [List.getElem_toArray, List.getElem_cons_succ, List.getElem_cons_zero, Act.put, List.setIfInBounds_toArray, List.set_cons_zero, List.set_cons_succ]
      refine wpAnyH_take (i := 9) (v := .pointer (some ⟨wb, 0, none⟩)) rfl (by kernel_rfl) (by kernel_rfl) (by kernel_rfl) (fun _ _ _ h => h) (Or.inl ⟨by rfl, fun W hSW => ?_⟩) hHeld ?_
      · ((try dsimp only at hSW); go_split_ands; go_simp <;> with_reducible rfl)
      try simp only [List.getElem_toArray, List.getElem_cons_succ, List.getElem_cons_zero, Act.put, List.setIfInBounds_toArray, List.set_cons_zero, List.set_cons_succ]
      refine wpAnyH_take (i := 10) (v := .slice (some ⟨sb, 0, none⟩) n sc) rfl (by kernel_rfl) (by kernel_rfl) (by kernel_rfl) (fun _ _ _ h => h) (Or.inl ⟨by rfl, fun W hSW => ?_⟩) hHeld ?_
      · ((try dsimp only at hSW); go_split_ands; go_simp <;> with_reducible rfl)
      try simp only [List.getElem_toArray, List.getElem_cons_succ, List.getElem_cons_zero, Act.put, List.setIfInBounds_toArray, List.set_cons_zero, List.set_cons_succ]
      refine wpAnyH_take (i := 11) (v := .int .i64 v) rfl (by kernel_rfl) (by kernel_rfl) (by kernel_rfl) (fun _ _ _ h => h) (Or.inl ⟨by rfl, fun W hSW => ?_⟩) hHeld ?_
      · ((try dsimp only at hSW); go_split_ands; go_simp <;> with_reducible rfl)
      try simp only [List.getElem_toArray, List.getElem_cons_succ, List.getElem_cons_zero, Act.put, List.setIfInBounds_toArray, List.set_cons_zero, List.set_cons_succ]
      refine wpAnyH_take (i := 12) (v := .pointer (some ⟨sb, v * 2, none⟩)) rfl (by kernel_rfl) (by kernel_rfl) (by kernel_rfl) (fun _ _ _ h => h) (Or.inl ⟨by rfl, fun W hSW => ?_⟩) hHeld ?_
      · ((try dsimp only at hSW); go_split_ands; go_simp <;> with_reducible rfl)
      try simp only [List.getElem_toArray, List.getElem_cons_succ, List.getElem_cons_zero, Act.put, List.setIfInBounds_toArray, List.set_cons_zero, List.set_cons_succ]
      refine wpAnyH_take (i := 13) (v := .agg #[.int .u64 ua, .int .u64 um]) rfl (by kernel_rfl) (by kernel_rfl) (by kernel_rfl) (fun _ _ _ h => h) (Or.inl ⟨by rfl, fun W hSW => ?_⟩) hHeld ?_
      · ((try dsimp only at hSW); go_split_ands; go_simp <;> with_reducible rfl)
      try simp only [List.getElem_toArray, List.getElem_cons_succ, List.getElem_cons_zero, Act.put, List.setIfInBounds_toArray, List.set_cons_zero, List.set_cons_succ]
      refine wpAnyH_ready (rs := [14, 15]) (by kernel_rfl) (by simp) ?_
      refine AllReadyH.cons rfl (fun K hK => ?_) (AllReadyH.cons rfl (fun K hK => ?_) AllReadyH.nil)
      · skip
        try simp only [List.getElem_toArray, List.getElem_cons_succ, List.getElem_cons_zero]
        go_simp
        (go_at_call 21; refine (sjoin_any pa pm ua um _).mono ?_; rintro e w8 ⟨rfl, hb8⟩; have HB8 := Lib.hid (hHeld.1.trans (hb8.mono hHeld.1.size)))
        try go_wp2_with fail
        refine hK.out _ _ ?_ (fun hHeld => ?_)
        · exact tell_held HT.out HO.out HV.out HP.out HU.out (HB8.out) (Nat.le_refl _)
        clear hK K
        try simp only [List.getElem_toArray, List.getElem_cons_succ, List.getElem_cons_zero, Act.put, List.setIfInBounds_toArray, List.set_cons_zero, List.set_cons_succ]
        refine wpAnyH_ready (rs := [15]) (by kernel_rfl) (by simp) ?_
        refine AllReadyH.cons rfl (fun K hK => ?_) AllReadyH.nil
        try simp only [List.getElem_toArray, List.getElem_cons_succ, List.getElem_cons_zero]
        go_simp
        try go_wp2_with fail
        refine hK.out _ _ ?_ (fun hHeld => ?_)
        · exact tell_held HT.out HO.out HV.out HP.out HU.out (HB8.out.alloc HB8.out.size _) (Nat.le_refl _)
        clear hK K
        try simp only [List.getElem_toArray, List.getElem_cons_succ, List.getElem_cons_zero, Act.put, List.setIfInBounds_toArray, List.set_cons_zero, List.set_cons_succ]
        refine wpAnyH_ready (rs := [16]) (by kernel_rfl) (by simp) ?_
        refine AllReadyH.cons rfl (fun K hK => ?_) AllReadyH.nil
        try simp only [List.getElem_toArray, List.getElem_cons_succ, List.getElem_cons_zero]
        go_simp
        try go_wp2_with fail
        refine hK.out _ _ ?_ (fun hHeld => ?_)
        · exact tell_held HT.out HO.out HV.out HP.out HU.out (HB8.out.alloc HB8.out.size _) (Nat.le_refl _)
        clear hK K
        try simp only [List.getElem_toArray, List.getElem_cons_succ, List.getElem_cons_zero, Act.put, List.setIfInBounds_toArray, List.set_cons_zero, List.set_cons_succ]
        refine wpAnyH_done (by kernel_rfl) ?_ _
        have HBZ := Lib.hid (show Below wr.heap.size wr (w8.alloc (.cells #[.int .u64 (bits .and .u64 pa ua), .int .u64 (bits .or .u64 pm um)] 55)) from HB8.out.alloc HB8.out.size _)
        have HGB := Lib.hid (show wr.heap.size ≤ w8.heap.size from HB8.out.size)
        have hg0 : (w8.alloc (.cells #[.int .u64 (bits .and .u64 pa ua), .int .u64 (bits .or .u64 pm um)] 55)).cell? ⟨w8.heap.size, 0, none⟩ = some (.int .u64 (bits .and .u64 pa ua)) := by have hnw := heap_alloc_new w8 (.cells #[.int .u64 (bits .and .u64 pa ua), .int .u64 (bits .or .u64 pm um)] 55); simp only [World.cell?, hnw]; rfl
        have hg1 : (w8.alloc (.cells #[.int .u64 (bits .and .u64 pa ua), .int .u64 (bits .or .u64 pm um)] 55)).cell? ⟨w8.heap.size, 1, none⟩ = some (.int .u64 (bits .or .u64 pm um)) := by have hnw := heap_alloc_new w8 (.cells #[.int .u64 (bits .and .u64 pa ua), .int .u64 (bits .or .u64 pm um)] 55); simp only [World.cell?, hnw]; rfl
        clear hHeld
        have HKZ := Lib.hid (HK.out.trans (SK.below HBZ.out HT.out.wait.line.base))
        have HTZ := Lib.hid (HT.out.below HBZ.out (Nat.le_refl _))
        have hd := (tell_held HT.out HO.out HV.out HP.out HU.out HBZ.out (Nat.le_refl _)).2
        have hd1 := hd.1
        have hd2 := hd.2.1
        have hd3 := hd.2.2.1
        clear hd
        go_upto_region 4 with fail
        by_cases hg : sjoin (pa, pm) (ua, um) = (pa, pm)
        · have hE : ∀ w, (Op.equalIn 10000 55 (.agg #[.int .u64 (bits .and .u64 pa ua), .int .u64 (bits .or .u64 pm um)]) (.agg #[.int .u64 pa, .int .u64 pm])).run Tryd.prog w = .ok true w := fun w => by
            rw [eq_sum]; simp only [sjoin, Prod.mk.injEq] at hg; simp [hg.1, hg.2]
          go_quiet (fail)
          go_wp2_with fail
          go_roundw
          case rel => exact ⟨j + 1, lv1, l1, by go_num, by omega, HKZ.out.trans (SK.drewN _ _), by rw [HST.out, tstep_same (by rw [← HP.out, ← HU.out]; exact hg)]; exact HTZ.out.drewN _⟩
          case measure => simp [intOf]; omega
        · have hE0 : (decide ((bits .and .u64 pa ua) = pa) && decide ((bits .or .u64 pm um) = pm)) = false := by
            rw [Bool.eq_false_iff]
            intro hc
            simp only [Bool.and_eq_true, decide_eq_true_eq] at hc
            exact hg (by unfold sjoin; simp only; rw [hc.1, hc.2])
          have hE : ∀ w, (Op.equalIn 10000 55 (.agg #[.int .u64 (bits .and .u64 pa ua), .int .u64 (bits .or .u64 pm um)]) (.agg #[.int .u64 pa, .int .u64 pm])).run Tryd.prog w = .ok false w := fun w => by
            rw [eq_sum, hE0]
          go_quiet (fail)
          go_upto_region 5 with fail
          have HTQ := Lib.hid (HTZ.out.drewN nq).drew
          have HKQ := Lib.hid ((HKZ.out.trans (SK.drewN (w8.alloc (.cells #[.int .u64 (bits .and .u64 pa ua), .int .u64 (bits .or .u64 pm um)] 55)) nq)).trans (SK.drew _))
          have hgs : w8.heap.size ≠ sb := by have h1 := HT.out.slt; have h2 := HT.out.wait.line.base; have h3 := HGB.out; omega
          have hq0 : ((w8.alloc (.cells #[.int .u64 (bits .and .u64 pa ua), .int .u64 (bits .or .u64 pm um)] 55)).drewN nq).drew.cell? ⟨w8.heap.size, 0, none⟩ = some (.int .u64 (bits .and .u64 pa ua)) := hg0
          have hq1 : ((w8.alloc (.cells #[.int .u64 (bits .and .u64 pa ua), .int .u64 (bits .or .u64 pm um)] 55)).drewN nq).drew.cell? ⟨w8.heap.size, 1, none⟩ = some (.int .u64 (bits .or .u64 pm um)) := hg1
          refine wp_region_held_drew (S := (fun V => V.cell? ⟨wb, 0, none⟩ = some (.slice (some ⟨sb, 0, none⟩) n sc) ∧ V.cell? ⟨w8.heap.size, 0, none⟩ = some (.int .u64 (bits .and .u64 pa ua)) ∧ V.cell? ⟨w8.heap.size, 1, none⟩ = some (.int .u64 (bits .or .u64 pm um)))) (by kernel_rfl) ?_ (fun hHeld => ?_)
          · exact ⟨hd1, hg0, hg1⟩
          generalize ((w8.alloc (.cells #[.int .u64 (bits .and .u64 pa ua), .int .u64 (bits .or .u64 pm um)] 55)).drewN nq).drew = w5 at HTQ HKQ hq0 hq1 hHeld ⊢
          clear hg0 hg1 hd1 hd2 hd3 HTZ HKZ HBZ
          have HSW := Lib.hid (HTQ.out.stored HO.out (bits .and .u64 pa ua) (bits .or .u64 pm um))
          have hd5 := (tell_held HTQ.out HO.out HV.out HP.out HU.out (Below.refl w5.heap.size w5) (Nat.le_refl _)).2
          have hcs0 := hd5.2.1
          have hcs1 := hd5.2.2.1
          clear hd5
          have hfs0 := HTQ.out.sums.frozenAt (o * 2)
          have hfs1 := HTQ.out.sums.frozenAt (o * 2 + 1)
          refine wpAnyH_take (i := 0) (v := .pointer (some ⟨wb, 0, none⟩)) rfl (by kernel_rfl) (by kernel_rfl) (by kernel_rfl) (fun _ _ _ h => h) (Or.inl ⟨by rfl, fun W hSW => ?_⟩) hHeld ?_
          · ((try dsimp only at hSW); go_split_ands; go_simp <;> with_reducible rfl)
          try simp only [List.getElem_toArray, List.getElem_cons_succ, List.getElem_cons_zero, Act.put, List.setIfInBounds_toArray, List.set_cons_zero, List.set_cons_succ]
          refine wpAnyH_take (i := 1) (v := .pointer (some ⟨wb, 0, none⟩)) rfl (by kernel_rfl) (by kernel_rfl) (by kernel_rfl) (fun _ _ _ h => h) (Or.inl ⟨by rfl, fun W hSW => ?_⟩) hHeld ?_
          · ((try dsimp only at hSW); go_split_ands; go_simp <;> with_reducible rfl)
          try simp only [List.getElem_toArray, List.getElem_cons_succ, List.getElem_cons_zero, Act.put, List.setIfInBounds_toArray, List.set_cons_zero, List.set_cons_succ]
          refine wpAnyH_take (i := 2) (v := .pointer (some ⟨wb, 0, none⟩)) rfl (by kernel_rfl) (by kernel_rfl) (by kernel_rfl) (fun _ _ _ h => h) (Or.inl ⟨by rfl, fun W hSW => ?_⟩) hHeld ?_
          · ((try dsimp only at hSW); go_split_ands; go_simp <;> with_reducible rfl)
          try simp only [List.getElem_toArray, List.getElem_cons_succ, List.getElem_cons_zero, Act.put, List.setIfInBounds_toArray, List.set_cons_zero, List.set_cons_succ]
          refine wpAnyH_take (i := 3) (v := .slice (some ⟨sb, 0, none⟩) n sc) rfl (by kernel_rfl) (by kernel_rfl) (by kernel_rfl) (fun _ _ _ h => h) (Or.inl ⟨by rfl, fun W hSW => ?_⟩) hHeld ?_
          · ((try dsimp only at hSW); go_split_ands; go_simp <;> with_reducible rfl)
          try simp only [List.getElem_toArray, List.getElem_cons_succ, List.getElem_cons_zero, Act.put, List.setIfInBounds_toArray, List.set_cons_zero, List.set_cons_succ]
          refine wpAnyH_take (i := 4) (v := .int .i64 o) rfl (by kernel_rfl) (by kernel_rfl) (by kernel_rfl) (fun _ _ _ h => h) (Or.inl ⟨by rfl, fun W hSW => ?_⟩) hHeld ?_
          · ((try dsimp only at hSW); go_split_ands; go_simp <;> with_reducible rfl)
          try simp only [List.getElem_toArray, List.getElem_cons_succ, List.getElem_cons_zero, Act.put, List.setIfInBounds_toArray, List.set_cons_zero, List.set_cons_succ]
          refine wpAnyH_take (i := 5) (v := .agg #[.int .u64 (bits .and .u64 pa ua), .int .u64 (bits .or .u64 pm um)]) rfl (by kernel_rfl) (by kernel_rfl) (by kernel_rfl) (fun _ _ _ h => h) (Or.inl ⟨by rfl, fun W hSW => ?_⟩) hHeld ?_
          · ((try dsimp only at hSW); go_split_ands; go_simp <;> with_reducible rfl)
          try simp only [List.getElem_toArray, List.getElem_cons_succ, List.getElem_cons_zero, Act.put, List.setIfInBounds_toArray, List.set_cons_zero, List.set_cons_succ]
          refine wpAnyH_take (i := 6) (v := .pointer (some ⟨sb, o * 2, none⟩)) rfl (by kernel_rfl) (by kernel_rfl) (by kernel_rfl) (fun _ _ _ h => h) (Or.inl ⟨by rfl, fun W hSW => ?_⟩) hHeld ?_
          · ((try dsimp only at hSW); go_split_ands; go_simp <;> with_reducible rfl)
          try simp only [List.getElem_toArray, List.getElem_cons_succ, List.getElem_cons_zero, Act.put, List.setIfInBounds_toArray, List.set_cons_zero, List.set_cons_succ]
          refine wpAnyH_ready (rs := [7]) (by kernel_rfl) (by simp) ?_
          refine AllReadyH.cons rfl (fun K hK => ?_) AllReadyH.nil
          try simp only [List.getElem_toArray, List.getElem_cons_succ, List.getElem_cons_zero]
          go_simp
          try go_wp2_with fail
          refine hK.out _ _ ?_ (fun hHeld => ?_)
          · exact ⟨HSW.out.1.wait.line.work.cells.1, (cell_off _ hgs).trans ((cell_off _ hgs).trans hHeld.2.1), (cell_off _ hgs).trans ((cell_off _ hgs).trans hHeld.2.2)⟩
          clear hK K
          try simp only [List.getElem_toArray, List.getElem_cons_succ, List.getElem_cons_zero, Act.put, List.setIfInBounds_toArray, List.set_cons_zero, List.set_cons_succ]
          refine wpAnyH_done (by kernel_rfl) ?_ _
          clear hHeld hq0 hq1 hcs0 hcs1 hfs0 hfs1
          have HWS := Lib.hid HSW.out.1
          have HKS := Lib.hid (HKQ.out.trans (SK.grown HSW.out.2 HTQ.out.wait.line.base))
          clear HSW HTQ HKQ
          generalize (w5.setCell ⟨sb, o * 2, none⟩ (.int .u64 (bits .and .u64 pa ua))).setCell ⟨sb, o * 2 + 1, none⟩ (.int .u64 (bits .or .u64 pm um)) = w55 at HWS HKS ⊢
          go_wp2_with (go_at_call 20; refine (wait_any HWS.out.wait (by have h1 := HWS.out.small.2; have h2 := HN.out; omega) (by have h1 := HWS.out.small.1; have h2 := HN.out; omega) (by have h1 := HPL.out; have h2 := HN.out; omega) o (by have h1 := HPL.out; have h2 := HO.out; omega)).mono ?_; rintro e w6 hw6; obtain ⟨rfl, hk6, lv6, l6, hw7, hp6⟩ := hw6.add HWS.out.perm; have HE6 := Lib.hid (HWS.out.woken hk6 hw7 hp6 HO.out); have HK6 := Lib.hid (HKS.out.trans (hk6.sk sb)); clear hw6 hk6 hw7 hp6)
          go_roundw
          case rel => exact ⟨j + 1, lv6, l6, by go_num, by omega, HK6.out, by rw [HST.out, tstep_more (by rw [← HP.out, ← HU.out]; exact hg), ← HP.out, ← HU.out]; exact HE6.out⟩
          case measure => simp [intOf]; omega
      · skip
        try simp only [List.getElem_toArray, List.getElem_cons_succ, List.getElem_cons_zero]
        go_simp
        try go_wp2_with fail
        refine hK.out _ _ ?_ (fun hHeld => ?_)
        · exact tell_held HT.out HO.out HV.out HP.out HU.out (hHeld.1.alloc hHeld.1.size _) (Nat.le_refl _)
        clear hK K
        try simp only [List.getElem_toArray, List.getElem_cons_succ, List.getElem_cons_zero, Act.put, List.setIfInBounds_toArray, List.set_cons_zero, List.set_cons_succ]
        refine wpAnyH_ready (rs := [14]) (by kernel_rfl) (by simp) ?_
        refine AllReadyH.cons rfl (fun K hK => ?_) AllReadyH.nil
        try simp only [List.getElem_toArray, List.getElem_cons_succ, List.getElem_cons_zero]
        go_simp
        (go_at_call 21; refine (sjoin_any pa pm ua um _).mono ?_; rintro e w8 ⟨rfl, hb8⟩; have HB8 := Lib.hid (hHeld.1.trans (hb8.mono hHeld.1.size)); have hblk : w8.heap[wr.heap.size]? = some (.cells #[.int .u64 0, .int .u64 0] 55) := (hb8.block _ (by simp)).trans (SS.new_at rfl); have hz0 : w8.cell? ⟨wr.heap.size, 0, none⟩ = some (.int .u64 0) := (by simp [World.cell?, hblk]); have hz1 : w8.cell? ⟨wr.heap.size, 1, none⟩ = some (.int .u64 0) := (by simp [World.cell?, hblk]); have hy0 : w8.frozen? ⟨wr.heap.size, 0, none⟩ = false := (by simp [World.frozen?, hblk]); have hy1 : w8.frozen? ⟨wr.heap.size, 1, none⟩ = false := (by simp [World.frozen?, hblk]); have HBLK := Lib.hid hblk; clear hblk)
        try go_wp2_with fail
        refine hK.out _ _ ?_ (fun hHeld => ?_)
        · exact tell_held HT.out HO.out HV.out HP.out HU.out (HB8.out) (Nat.le_refl _)
        clear hK K
        try simp only [List.getElem_toArray, List.getElem_cons_succ, List.getElem_cons_zero, Act.put, List.setIfInBounds_toArray, List.set_cons_zero, List.set_cons_succ]
        refine wpAnyH_ready (rs := [16]) (by kernel_rfl) (by simp) ?_
        refine AllReadyH.cons rfl (fun K hK => ?_) AllReadyH.nil
        try simp only [List.getElem_toArray, List.getElem_cons_succ, List.getElem_cons_zero]
        go_simp
        try go_wp2_with fail
        refine hK.out _ _ ?_ (fun hHeld => ?_)
        · exact tell_held HT.out HO.out HV.out HP.out HU.out ((HB8.out.setCell (by simp) _).setCell (by simp) _) (Nat.le_refl _)
        clear hK K
        try simp only [List.getElem_toArray, List.getElem_cons_succ, List.getElem_cons_zero, Act.put, List.setIfInBounds_toArray, List.set_cons_zero, List.set_cons_succ]
        refine wpAnyH_done (by kernel_rfl) ?_ _
        have HBZ := Lib.hid (show Below wr.heap.size wr ((w8.setCell ⟨wr.heap.size, 0, none⟩ (.int .u64 (bits .and .u64 pa ua))).setCell ⟨wr.heap.size, 1, none⟩ (.int .u64 (bits .or .u64 pm um))) from (HB8.out.setCell (by simp) _).setCell (by simp) _)
        have HGB := Lib.hid (Nat.le_refl wr.heap.size)
        have hblk2 : ((w8.setCell ⟨wr.heap.size, 0, none⟩ (.int .u64 (bits .and .u64 pa ua))).setCell ⟨wr.heap.size, 1, none⟩ (.int .u64 (bits .or .u64 pm um))).heap[wr.heap.size]? = some (.cells #[.int .u64 (bits .and .u64 pa ua), .int .u64 (bits .or .u64 pm um)] 55) := SS.set_obj (c := 1) _ (SS.set_obj (c := 0) _ HBLK.out)
        have hg0 : ((w8.setCell ⟨wr.heap.size, 0, none⟩ (.int .u64 (bits .and .u64 pa ua))).setCell ⟨wr.heap.size, 1, none⟩ (.int .u64 (bits .or .u64 pm um))).cell? ⟨wr.heap.size, 0, none⟩ = some (.int .u64 (bits .and .u64 pa ua)) := by simp only [World.cell?, hblk2]; rfl
        have hg1 : ((w8.setCell ⟨wr.heap.size, 0, none⟩ (.int .u64 (bits .and .u64 pa ua))).setCell ⟨wr.heap.size, 1, none⟩ (.int .u64 (bits .or .u64 pm um))).cell? ⟨wr.heap.size, 1, none⟩ = some (.int .u64 (bits .or .u64 pm um)) := by simp only [World.cell?, hblk2]; rfl
        clear hblk2 hz0 hz1 hy0 hy1
        clear hHeld
        have HKZ := Lib.hid (HK.out.trans (SK.below HBZ.out HT.out.wait.line.base))
        have HTZ := Lib.hid (HT.out.below HBZ.out (Nat.le_refl _))
        have hd := (tell_held HT.out HO.out HV.out HP.out HU.out HBZ.out (Nat.le_refl _)).2
        have hd1 := hd.1
        have hd2 := hd.2.1
        have hd3 := hd.2.2.1
        clear hd
        go_upto_region 4 with fail
        by_cases hg : sjoin (pa, pm) (ua, um) = (pa, pm)
        · have hE : ∀ w, (Op.equalIn 10000 55 (.agg #[.int .u64 (bits .and .u64 pa ua), .int .u64 (bits .or .u64 pm um)]) (.agg #[.int .u64 pa, .int .u64 pm])).run Tryd.prog w = .ok true w := fun w => by
            rw [eq_sum]; simp only [sjoin, Prod.mk.injEq] at hg; simp [hg.1, hg.2]
          go_quiet (fail)
          go_wp2_with fail
          go_roundw
          case rel => exact ⟨j + 1, lv1, l1, by go_num, by omega, HKZ.out.trans (SK.drewN _ _), by rw [HST.out, tstep_same (by rw [← HP.out, ← HU.out]; exact hg)]; exact HTZ.out.drewN _⟩
          case measure => simp [intOf]; omega
        · have hE0 : (decide ((bits .and .u64 pa ua) = pa) && decide ((bits .or .u64 pm um) = pm)) = false := by
            rw [Bool.eq_false_iff]
            intro hc
            simp only [Bool.and_eq_true, decide_eq_true_eq] at hc
            exact hg (by unfold sjoin; simp only; rw [hc.1, hc.2])
          have hE : ∀ w, (Op.equalIn 10000 55 (.agg #[.int .u64 (bits .and .u64 pa ua), .int .u64 (bits .or .u64 pm um)]) (.agg #[.int .u64 pa, .int .u64 pm])).run Tryd.prog w = .ok false w := fun w => by
            rw [eq_sum, hE0]
          go_quiet (fail)
          go_upto_region 5 with fail
          have HTQ := Lib.hid (HTZ.out.drewN nq).drew
          have HKQ := Lib.hid ((HKZ.out.trans (SK.drewN ((w8.setCell ⟨wr.heap.size, 0, none⟩ (.int .u64 (bits .and .u64 pa ua))).setCell ⟨wr.heap.size, 1, none⟩ (.int .u64 (bits .or .u64 pm um))) nq)).trans (SK.drew _))
          have hgs : wr.heap.size ≠ sb := by have h1 := HT.out.slt; have h2 := HT.out.wait.line.base; have h3 := HGB.out; omega
          have hq0 : (((w8.setCell ⟨wr.heap.size, 0, none⟩ (.int .u64 (bits .and .u64 pa ua))).setCell ⟨wr.heap.size, 1, none⟩ (.int .u64 (bits .or .u64 pm um))).drewN nq).drew.cell? ⟨wr.heap.size, 0, none⟩ = some (.int .u64 (bits .and .u64 pa ua)) := hg0
          have hq1 : (((w8.setCell ⟨wr.heap.size, 0, none⟩ (.int .u64 (bits .and .u64 pa ua))).setCell ⟨wr.heap.size, 1, none⟩ (.int .u64 (bits .or .u64 pm um))).drewN nq).drew.cell? ⟨wr.heap.size, 1, none⟩ = some (.int .u64 (bits .or .u64 pm um)) := hg1
          refine wp_region_held_drew (S := (fun V => V.cell? ⟨wb, 0, none⟩ = some (.slice (some ⟨sb, 0, none⟩) n sc) ∧ V.cell? ⟨wr.heap.size, 0, none⟩ = some (.int .u64 (bits .and .u64 pa ua)) ∧ V.cell? ⟨wr.heap.size, 1, none⟩ = some (.int .u64 (bits .or .u64 pm um)))) (by kernel_rfl) ?_ (fun hHeld => ?_)
          · exact ⟨hd1, hg0, hg1⟩
          generalize (((w8.setCell ⟨wr.heap.size, 0, none⟩ (.int .u64 (bits .and .u64 pa ua))).setCell ⟨wr.heap.size, 1, none⟩ (.int .u64 (bits .or .u64 pm um))).drewN nq).drew = w5 at HTQ HKQ hq0 hq1 hHeld ⊢
          clear hg0 hg1 hd1 hd2 hd3 HTZ HKZ HBZ
          have HSW := Lib.hid (HTQ.out.stored HO.out (bits .and .u64 pa ua) (bits .or .u64 pm um))
          have hd5 := (tell_held HTQ.out HO.out HV.out HP.out HU.out (Below.refl w5.heap.size w5) (Nat.le_refl _)).2
          have hcs0 := hd5.2.1
          have hcs1 := hd5.2.2.1
          clear hd5
          have hfs0 := HTQ.out.sums.frozenAt (o * 2)
          have hfs1 := HTQ.out.sums.frozenAt (o * 2 + 1)
          refine wpAnyH_take (i := 0) (v := .pointer (some ⟨wb, 0, none⟩)) rfl (by kernel_rfl) (by kernel_rfl) (by kernel_rfl) (fun _ _ _ h => h) (Or.inl ⟨by rfl, fun W hSW => ?_⟩) hHeld ?_
          · ((try dsimp only at hSW); go_split_ands; go_simp <;> with_reducible rfl)
          try simp only [List.getElem_toArray, List.getElem_cons_succ, List.getElem_cons_zero, Act.put, List.setIfInBounds_toArray, List.set_cons_zero, List.set_cons_succ]
          refine wpAnyH_take (i := 1) (v := .pointer (some ⟨wb, 0, none⟩)) rfl (by kernel_rfl) (by kernel_rfl) (by kernel_rfl) (fun _ _ _ h => h) (Or.inl ⟨by rfl, fun W hSW => ?_⟩) hHeld ?_
          · ((try dsimp only at hSW); go_split_ands; go_simp <;> with_reducible rfl)
          try simp only [List.getElem_toArray, List.getElem_cons_succ, List.getElem_cons_zero, Act.put, List.setIfInBounds_toArray, List.set_cons_zero, List.set_cons_succ]
          refine wpAnyH_take (i := 2) (v := .pointer (some ⟨wb, 0, none⟩)) rfl (by kernel_rfl) (by kernel_rfl) (by kernel_rfl) (fun _ _ _ h => h) (Or.inl ⟨by rfl, fun W hSW => ?_⟩) hHeld ?_
          · ((try dsimp only at hSW); go_split_ands; go_simp <;> with_reducible rfl)
          try simp only [List.getElem_toArray, List.getElem_cons_succ, List.getElem_cons_zero, Act.put, List.setIfInBounds_toArray, List.set_cons_zero, List.set_cons_succ]
          refine wpAnyH_take (i := 3) (v := .slice (some ⟨sb, 0, none⟩) n sc) rfl (by kernel_rfl) (by kernel_rfl) (by kernel_rfl) (fun _ _ _ h => h) (Or.inl ⟨by rfl, fun W hSW => ?_⟩) hHeld ?_
          · ((try dsimp only at hSW); go_split_ands; go_simp <;> with_reducible rfl)
          try simp only [List.getElem_toArray, List.getElem_cons_succ, List.getElem_cons_zero, Act.put, List.setIfInBounds_toArray, List.set_cons_zero, List.set_cons_succ]
          refine wpAnyH_take (i := 4) (v := .int .i64 o) rfl (by kernel_rfl) (by kernel_rfl) (by kernel_rfl) (fun _ _ _ h => h) (Or.inl ⟨by rfl, fun W hSW => ?_⟩) hHeld ?_
          · ((try dsimp only at hSW); go_split_ands; go_simp <;> with_reducible rfl)
          try simp only [List.getElem_toArray, List.getElem_cons_succ, List.getElem_cons_zero, Act.put, List.setIfInBounds_toArray, List.set_cons_zero, List.set_cons_succ]
          refine wpAnyH_take (i := 5) (v := .agg #[.int .u64 (bits .and .u64 pa ua), .int .u64 (bits .or .u64 pm um)]) rfl (by kernel_rfl) (by kernel_rfl) (by kernel_rfl) (fun _ _ _ h => h) (Or.inl ⟨by rfl, fun W hSW => ?_⟩) hHeld ?_
          · ((try dsimp only at hSW); go_split_ands; go_simp <;> with_reducible rfl)
          try simp only [List.getElem_toArray, List.getElem_cons_succ, List.getElem_cons_zero, Act.put, List.setIfInBounds_toArray, List.set_cons_zero, List.set_cons_succ]
          refine wpAnyH_take (i := 6) (v := .pointer (some ⟨sb, o * 2, none⟩)) rfl (by kernel_rfl) (by kernel_rfl) (by kernel_rfl) (fun _ _ _ h => h) (Or.inl ⟨by rfl, fun W hSW => ?_⟩) hHeld ?_
          · ((try dsimp only at hSW); go_split_ands; go_simp <;> with_reducible rfl)
          try simp only [List.getElem_toArray, List.getElem_cons_succ, List.getElem_cons_zero, Act.put, List.setIfInBounds_toArray, List.set_cons_zero, List.set_cons_succ]
          refine wpAnyH_ready (rs := [7]) (by kernel_rfl) (by simp) ?_
          refine AllReadyH.cons rfl (fun K hK => ?_) AllReadyH.nil
          try simp only [List.getElem_toArray, List.getElem_cons_succ, List.getElem_cons_zero]
          go_simp
          try go_wp2_with fail
          refine hK.out _ _ ?_ (fun hHeld => ?_)
          · exact ⟨HSW.out.1.wait.line.work.cells.1, (cell_off _ hgs).trans ((cell_off _ hgs).trans hHeld.2.1), (cell_off _ hgs).trans ((cell_off _ hgs).trans hHeld.2.2)⟩
          clear hK K
          try simp only [List.getElem_toArray, List.getElem_cons_succ, List.getElem_cons_zero, Act.put, List.setIfInBounds_toArray, List.set_cons_zero, List.set_cons_succ]
          refine wpAnyH_done (by kernel_rfl) ?_ _
          clear hHeld hq0 hq1 hcs0 hcs1 hfs0 hfs1
          have HWS := Lib.hid HSW.out.1
          have HKS := Lib.hid (HKQ.out.trans (SK.grown HSW.out.2 HTQ.out.wait.line.base))
          clear HSW HTQ HKQ
          generalize (w5.setCell ⟨sb, o * 2, none⟩ (.int .u64 (bits .and .u64 pa ua))).setCell ⟨sb, o * 2 + 1, none⟩ (.int .u64 (bits .or .u64 pm um)) = w55 at HWS HKS ⊢
          go_wp2_with (go_at_call 20; refine (wait_any HWS.out.wait (by have h1 := HWS.out.small.2; have h2 := HN.out; omega) (by have h1 := HWS.out.small.1; have h2 := HN.out; omega) (by have h1 := HPL.out; have h2 := HN.out; omega) o (by have h1 := HPL.out; have h2 := HO.out; omega)).mono ?_; rintro e w6 hw6; obtain ⟨rfl, hk6, lv6, l6, hw7, hp6⟩ := hw6.add HWS.out.perm; have HE6 := Lib.hid (HWS.out.woken hk6 hw7 hp6 HO.out); have HK6 := Lib.hid (HKS.out.trans (hk6.sk sb)); clear hw6 hk6 hw7 hp6)
          go_roundw
          case rel => exact ⟨j + 1, lv6, l6, by go_num, by omega, HK6.out, by rw [HST.out, tstep_more (by rw [← HP.out, ← HU.out]; exact hg), ← HP.out, ← HU.out]; exact HE6.out⟩
          case measure => simp [intOf]; omega
    · go_wp2_with fail
      go_end0
      have e3 : j = r.length := by omega
      subst e3
      exact ⟨rfl, HK.out, lv1, l1, HT.out⟩
end Go.Proofs.YtkoofibhddkpiaaDoor
