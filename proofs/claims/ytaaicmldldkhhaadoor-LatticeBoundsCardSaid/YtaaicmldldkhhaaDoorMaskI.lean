import Derived.RangeFuncNested
import Derived.RangeFuncBound
import Derived.RangeFuncCalls
import Derived.RangeFuncLeaves
import Derived.RangeFuncBox
import Derived.Shelf.Abstract
import Derived.Shelf.RegionOpen
import Derived.WalkKit
import Derived.OwnWalkIn
import Derived.TacticsInMore
import Derived.LoopNIn
import Derived.LoopIn
import Derived.Test.YtaaicmldldkhhaaDoorMaskW
import Derived.Test.YtaaicmldldkhhaaDoorMaskT
import Derived.Test.YtaaicmldldkhhaaDoorTz
/-! the iterator of layer 2's All -/
namespace Go.Proofs.YtaaicmldldkhhaaDoor
set_option linter.unusedVariables false
open Go.RowKit Go.Shelf

attribute [local go_sem] Oper.semAt_some

theorem cell_box_l {W : World} {b : Nat} {v : Value} {t : TypeId} (h : W.heap[b]? = some (.cells #[v] t)) : W.cell? ⟨b, 0, none⟩ = some v ∧ W.frozen? ⟨b, 0, none⟩ = false := by
  constructor
  · simp [World.cell?, h]
  · simp [World.frozen?, h]
theorem cell_new_l (W : World) (v : Value) (t : TypeId) : (W.alloc (.cells #[v] t)).cell? ⟨W.heap.size, 0, none⟩ = some v ∧ (W.alloc (.cells #[v] t)).frozen? ⟨W.heap.size, 0, none⟩ = false :=
  cell_box_l (World.alloc_heap_new W _)
theorem cell_alloc_l {W : World} {a : Addr} {v : Value} (o : Obj) (h : W.cell? a = some v) : (W.alloc o).cell? a = some v := cell_kept h (World.grownBy_alloc W o none) (fun r e => (by cases e))
theorem frozen_alloc_l {W : World} {a : Addr} {v : Value} (o : Obj) (h : W.cell? a = some v) (hf : W.frozen? a = false) : (W.alloc o).frozen? a = false := (frozen_kept h (World.grownBy_alloc W o none) (fun r e => (by cases e))).trans hf

set_option maxHeartbeats 400000 in
theorem all_any (m : Int) (w : World) :
    Calls Tryd.prog 49 #[.int .u64 m] w fun e w' => e = .returned (.func (.func 54) #[] #[.pointer (some ⟨w.heap.size, 0, none⟩)]) ∧ w' = w.alloc (.cells #[.int .u64 m] 45) := by
  go_enter Tryd.func49, Tryd.ntmps49
  go_wp2
  go_ret
  exact ⟨rfl, rfl⟩

set_option maxRecDepth 100000 in
set_option maxHeartbeats 2000000 in
theorem all1_in (l Bs : Nat) (m : Int) (m0 : 0 ≤ m) (m1 : m ≤ 18446744073709551615) (n : Nat) (hn : 1 ≤ n) (J Jx : List Nat → World → Prop)
    (hY : ∀ pre x W, J pre W → pre.length < 64 → YieldAt Fence.wide (n - 1) Tryd.prog l #[.int .i64 ((x : Nat) : Int)] W fun e W' =>
      (e = .returned (.bool true) ∧ J (pre ++ [x]) W' ∧ KeptAt tzG W W') ∨ (e = .returned (.bool false) ∧ Jx (pre ++ [x]) W'))
    (W : World) (hBs : W.cell? ⟨Bs, 0, none⟩ = some (.int .u64 m)) (hT : Tz W) (h0 : J [] W) :
    CallsIn Fence.wide n Tryd.prog 54 #[.func (.yield l) #[] #[], .pointer (some ⟨Bs, 0, none⟩)] W fun e W' => (∃ v, e = .returned v) ∧
      ((∃ ys, ys = MM.bitsOf m ∧ J ys W') ∨ (∃ pre, (pre <+: MM.bitsOf m) ∧ Jx pre W')) := by
  have h0' : J (MM.upto m 0) W := h0
  have HST := Lib.hid (MM.low_start m m0)
  refine callsIn_of_wp Tryd.func54 rfl trivial ?_ rfl
  simp only [Tryd.ntmps54, List.size_toArray, List.length_cons, List.length_nil, Nat.reduceAdd, Nat.reduceSub, Array.replicate_succ, Array.replicate_zero, List.push_toArray, List.append_toArray, List.nil_append, List.cons_append]
  gi_wp2
  gi_loopw [3] (fun i wr => ∃ k X : Nat, k ≤ 64 ∧ i = .int .u64 (X : Int) ∧ m.toNat / 2 ^ k * 2 ^ k = X ∧ J (MM.upto m k) wr ∧ Tz wr)
    (fun i _ => (intOf i).toNat)
  case atStart => exact ⟨0, _, Nat.zero_le _, HST.out, rfl, h0', hT⟩
  case round =>
    obtain ⟨k, X, hk, rfl, hX, hJs, hTr⟩ := hrel
    clear hBs HST h0 h0' hT
    have hlen : (MM.upto m k).length ≤ k := MM.upto_len m k
    by_cases hz : X = 0
    · subst hz
      have hE := Lib.hid (MM.low_end m k hk hX)
      gi_wp2
      go_end0
      exact ⟨⟨_, rfl⟩, .inl ⟨_, rfl, by rw [hE.out]; exact hJs⟩⟩
    · obtain ⟨hXl, t, Y, ht, hkt, ht64, _, hup, hand, hYX, hY2⟩ := MM.low_next m k X m0 m1 hX hz
      have hpre : (MM.upto m k).length < 64 := by
        have h1 := MM.upto_len m (t + 1)
        rw [hup, List.length_append] at h1
        simp at h1; omega
      have HU := Lib.hid hup
      have HT := Lib.hid ht
      have HA := Lib.hid hand
      have HY := Lib.hid hY2
      have hb : ((X : Int) != 0) = true := by rw [bne_iff_ne]; omega
      have hw1 : IntKind.u64.wrap ((X : Int) - 1) = (X : Int) - 1 := by rw [IntKind.wrap_u64]; omega
      obtain ⟨fn, tmps, assign, body, hy, hR⟩ := hY (MM.upto m k) t wr hJs hpre
      clear hup ht hX hand hY2
      gi_wp2_with (refine ⟨trivial, ?_⟩; gi_at_call 55; refine (callsIn_wide.2 (tz_any X wr hXl hz hTr)).mono ?_; rintro e w' ⟨rfl, rfl⟩; rw [HT.out])
      refine hR.mono ?_
      rintro e W3 (⟨rfl, hJ3, hk3⟩ | ⟨rfl, hJx3⟩)
      · have hT3 := hTr.kept hk3
        gi_wp2
        go_roundw
        case rel => exact ⟨t + 1, Y, by omega, by rw [HA.out], HY.out, by rw [HU.out]; exact hJ3, hT3⟩
        case measure => have hA := HA.out; simp [intOf]; omega
      · gi_wp2
        refine bodyPost_ret (results_none rfl _ _ _) rfl ?_
        exact ⟨⟨_, rfl⟩, .inr ⟨_, by rw [← HU.out]; exact MM.upto_prefix m (t + 1) 64 (by omega), hJx3⟩⟩
/-- the iterator that All hands back: its box lies at Bs -/
theorem all_stops (n : Nat) (hn : 1 ≤ n) (Bs : Nat) (m : Int) (m0 : 0 ≤ m) (m1 : m ≤ 18446744073709551615) (w : World) (hBs : Bs < w.heap.size) (hc : w.cell? ⟨Bs, 0, none⟩ = some (.int .u64 m)) (hT : Tz w) :
    SeqStopsK Fence.wide n Tryd.prog 54 #[.pointer (some ⟨Bs, 0, none⟩)] (fun x : Nat => #[Value.int .i64 (x : Int)]) (KeptAt tzG) (fun ys => ys = MM.bitsOf m) (fun pre => pre <+: MM.bitsOf m) 64 w :=
  fun l J Jx W hW _ _ hY h0 => all1_in l Bs m m0 m1 n hn J Jx hY W ((hW.cell (p := ⟨Bs, 0, none⟩) hBs).trans hc) (hT.on hW) h0

/-- the numbers of a set, each with its proof -/
abbrev InS (m : Int) := { x : Nat // MM.hasB m (x : Int) = true }
set_option maxRecDepth 100000 in
set_option maxHeartbeats 2000000 in
theorem all1S_in (l Bs : Nat) (m : Int) (m0 : 0 ≤ m) (m1 : m ≤ 18446744073709551615) (n : Nat) (hn : 1 ≤ n) (J Jx : List (InS m) → World → Prop)
    (hY : ∀ pre x W, J pre W → pre.length < 64 → YieldAt Fence.wide (n - 1) Tryd.prog l #[.int .i64 ((x.1 : Nat) : Int)] W fun e W' =>
      (e = .returned (.bool true) ∧ J (pre ++ [x]) W' ∧ KeptAt tzG W W') ∨ (e = .returned (.bool false) ∧ Jx (pre ++ [x]) W'))
    (W : World) (hBs : W.cell? ⟨Bs, 0, none⟩ = some (.int .u64 m)) (hT : Tz W) (h0 : J [] W) :
    CallsIn Fence.wide n Tryd.prog 54 #[.func (.yield l) #[] #[], .pointer (some ⟨Bs, 0, none⟩)] W fun e W' => (∃ v, e = .returned v) ∧
      ((∃ ys : List (InS m), ys.map (·.1) = MM.bitsOf m ∧ J ys W') ∨ (∃ pre : List (InS m), (pre.map (·.1) <+: MM.bitsOf m) ∧ Jx pre W')) := by
  have HST := Lib.hid (MM.low_start m m0)
  refine callsIn_of_wp Tryd.func54 rfl trivial ?_ rfl
  simp only [Tryd.ntmps54, List.size_toArray, List.length_cons, List.length_nil, Nat.reduceAdd, Nat.reduceSub, Array.replicate_succ, Array.replicate_zero, List.push_toArray, List.append_toArray, List.nil_append, List.cons_append]
  gi_wp2
  gi_loopw [3] (fun i wr => ∃ (k X : Nat) (ls : List (InS m)), k ≤ 64 ∧ i = .int .u64 (X : Int) ∧ m.toNat / 2 ^ k * 2 ^ k = X ∧ RowKit.Hid (ls.map (·.1) = MM.upto m k) ∧ J ls wr ∧ Tz wr)
    (fun i _ => (intOf i).toNat)
  case atStart => exact ⟨0, _, [], Nat.zero_le _, HST.out, rfl, Lib.hid rfl, h0, hT⟩
  case round =>
    obtain ⟨k, X, ls, hk, rfl, hX, HLs, hJs, hTr⟩ := hrel
    clear hBs HST h0 hT
    by_cases hz : X = 0
    · subst hz
      have hE := Lib.hid (MM.low_end m k hk hX)
      gi_wp2
      go_end0
      exact ⟨⟨_, rfl⟩, .inl ⟨ls, by rw [hE.out]; exact HLs.out, hJs⟩⟩
    · obtain ⟨hXl, t, Y, ht, hkt, ht64, hmem, hup, hand, hYX, hY2⟩ := MM.low_next m k X m0 m1 hX hz
      have hpre : ls.length < 64 := by
        have h1 := MM.upto_len m (t + 1)
        have h2 : ls.length = (MM.upto m k).length := by rw [← HLs.out, List.length_map]
        rw [hup, List.length_append] at h1
        simp at h1; omega
      have HL2 := Lib.hid (show (ls ++ [(⟨t, hmem⟩ : InS m)]).map (·.1) = MM.upto m (t + 1) by rw [List.map_append, HLs.out, hup]; rfl)
      have HU := Lib.hid hup
      have HT := Lib.hid ht
      have HA := Lib.hid hand
      have HY := Lib.hid hY2
      have hb : ((X : Int) != 0) = true := by rw [bne_iff_ne]; omega
      have hw1 : IntKind.u64.wrap ((X : Int) - 1) = (X : Int) - 1 := by rw [IntKind.wrap_u64]; omega
      obtain ⟨fn, tmps, assign, body, hy, hR⟩ := hY ls ⟨t, hmem⟩ wr hJs hpre
      clear hup ht hX hand hY2 HLs
      gi_wp2_with (refine ⟨trivial, ?_⟩; gi_at_call 55; refine (callsIn_wide.2 (tz_any X wr hXl hz hTr)).mono ?_; rintro e w' ⟨rfl, rfl⟩; rw [HT.out])
      refine hR.mono ?_
      rintro e W3 (⟨rfl, hJ3, hk3⟩ | ⟨rfl, hJx3⟩)
      · have hT3 := hTr.kept hk3
        gi_wp2
        go_roundw
        case rel => exact ⟨t + 1, Y, _, by omega, by rw [HA.out], HY.out, HL2, hJ3, hT3⟩
        case measure => have hA := HA.out; simp [intOf]; omega
      · gi_wp2
        refine bodyPost_ret (results_none rfl _ _ _) rfl ?_
        exact ⟨⟨_, rfl⟩, .inr ⟨_, by rw [HL2.out]; exact MM.upto_prefix m (t + 1) 64 (by omega), hJx3⟩⟩
/-- the iterator that All hands back: its box lies at Bs -/
theorem all_stopsS (n : Nat) (hn : 1 ≤ n) (Bs : Nat) (m : Int) (m0 : 0 ≤ m) (m1 : m ≤ 18446744073709551615) (w : World) (hBs : Bs < w.heap.size) (hc : w.cell? ⟨Bs, 0, none⟩ = some (.int .u64 m)) (hT : Tz w) :
    SeqStopsK Fence.wide n Tryd.prog 54 #[.pointer (some ⟨Bs, 0, none⟩)] (fun x : InS m => #[Value.int .i64 ((x.1 : Nat) : Int)]) (KeptAt tzG) (fun ys => ys.map (·.1) = MM.bitsOf m) (fun pre => pre.map (·.1) <+: MM.bitsOf m) 64 w :=
  fun l J Jx W hW _ _ hY h0 => all1S_in l Bs m m0 m1 n hn J Jx hY W ((hW.cell (p := ⟨Bs, 0, none⟩) hBs).trans hc) (hT.on hW) h0

theorem keptAt_b {Bs N : Nat} (h : Bs < N) (W : World) (l : Nat) (o o' : Obj) (hl : N ≤ l) (_ : W.heap[l]? = some o) (_ : o.isCells = false) (_ : o.isWalk = false) : KeptAt Bs W (W.putObj l o') :=
  World.putObj_heap_other (by omega)

end Go.Proofs.YtaaicmldldkhhaaDoor