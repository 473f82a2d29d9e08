import Derived.Test.YtbelhoeailjkkaaGraK
set_option linter.unusedSimpArgs false
set_option linter.unusedVariables false
/-! graphs: Reached, least, Lost -/
namespace Go.Proofs.Ytbelhoeailjkkaa
open Go.RowKit
theorem Try.infoGBool : (Try.prog.info? 4).map (fun i => (i.zero, i.size, i.bytes)) = some (some (.bool false), 1, 1) := by kernel_rfl
theorem setRow_new (w : World) (old cs : Array Value) (t : TypeId) : (w.alloc (.cells old t)).setRow w.heap.size cs = w.alloc (.cells cs t) := by
  have e : ((w.alloc (.cells old t)).setRow w.heap.size cs).heap = (w.alloc (.cells cs t)).heap := by
    apply Array.ext_getElem?
    intro k
    by_cases h : k = w.heap.size
    · subst h
      rw [setRow_heap _ _ old cs t (0, 0) (heap_alloc_new _ _), heap_alloc_new]
    · simp only [World.setRow, Array.getElem?_modify]
      rw [if_neg (fun e => h e.symm)]
      by_cases h2 : k < w.heap.size
      · rw [heap_alloc_old _ _ h2, heap_alloc_old _ _ h2]
      · rw [Array.getElem?_eq_none (by simp; omega), Array.getElem?_eq_none (by simp; omega)]
  exact world_heap (w' := (w.alloc (.cells old t)).setRow w.heap.size cs) (w.alloc (.cells cs t)) rfl e
theorem flags_of (W : World) (cs : Array Value) (B : Nat → Bool) (hn : cs.size = 256) (hc : ∀ i, i < 256 → cs[i]? = some (.bool (B i))) : Flags (W.alloc (.cells cs 48)) W.heap.size B :=
  ⟨cs, heap_alloc_new W _, hn, hc⟩
theorem one_of {cs : Array Value} {B : Nat → Bool} (hn : cs.size = 256) (hc : ∀ i, i < 256 → cs[i]? = some (.bool (B i))) : cs.all (·.oneCell') = true := by
  rw [Array.all_eq_true]
  intro i hi
  have := hc i (by omega)
  rw [Array.getElem?_eq_getElem hi] at this
  rw [Option.some.inj this]; rfl
theorem slice46 (n : Nat) (hn : n ≤ 256) (g : Nat) (w : World) : (Instr.sliceAt 48 (.pointer (some ⟨g, 0, none⟩)) none (some (.int .i64 n)) none).run Try.prog w = .ok (.slice (some ⟨g, 0, none⟩) n 256) w := by
  have el : Try.prog.arrayLen 48 = 256 := by kernel_rfl
  have ee : Try.prog.elem 48 = 4 := by kernel_rfl
  have hs : (sizeOf 4).run Try.prog w = .ok 1 w := by kernel_rfl
  have h := run_sliceAt_array_h (P := Try.prog) w 48 ⟨g, 0, none⟩ (by kernel_rfl) .i64 (n : Int) (by omega) (by rw [el]; omega)
  rw [h, ee, hs, el]
  simp [slicedAt, Addr.add]
theorem GraphM.on {n : Nat} {W W' : World} {v : Value} {to : List (List Int)} (h : GraphM n W v to) (hb : Below n W W') (hn : n ≤ W'.heap.size) : GraphM W'.heap.size W' v to := (h.below hb).mono hn
theorem row_lit (W : World) (x : Int) (t : TypeId) : Row (W.alloc (.cells #[.int .i64 x] t)).heap.size (W.alloc (.cells #[.int .i64 x] t)) (.slice (some ⟨W.heap.size, 0, none⟩) 1 1) [x] :=
  .inr ⟨W.heap.size, 0, 1, rfl, by simp, by simp [intsV], fun j u hj => by
    have := GG.cell_one W (.int .i64 x) t j u hj
    rwa [Addr.add_lit] at this⟩
/-- the first n flags, as a list -/
def flagsL (n : Nat) (B : Nat → Bool) : List Bool := (List.range n).map B
theorem flagsL_len (n : Nat) (B : Nat → Bool) : (flagsL n B).length = n := by simp [flagsL]
theorem flagsL_at {n : Nat} {B : Nat → Bool} {i : Nat} (h : i < n) : (flagsL n B)[i]? = some (B i) := by simp [flagsL, List.getElem?_map, List.getElem?_range h]
theorem flagsL_cells {n : Nat} {B : Nat → Bool} {j : Nat} {u : Value} (h : (boolsV (flagsL n B))[j]? = some u) : j < n ∧ u = .bool (B j) := by
  have hj : j < n := by
    have := (List.getElem?_eq_some_iff.1 h).1
    rw [boolsV_len, flagsL_len] at this; exact this
  unfold boolsV at h
  rw [List.getElem?_map, flagsL_at hj] at h
  exact ⟨hj, (Option.some.inj h).symm⟩
theorem oneCell_bools (xs : List Bool) : ∀ u ∈ boolsV xs, u.oneCell' = true := by
  intro u hu
  obtain ⟨q, _, rfl⟩ := List.mem_map.1 hu
  rfl
/-- what is reached, as a list; none where there is no such node, or no such graph -/
def reachedL (to : List (List Int)) (i : Int) : List Bool := if GG.rightG to = true ∧ GG.inB to.length i = true then flagsL to.length (GG.reachB to (-1) i.toNat) else []
def NewBools (B : Nat) (l : List Bool) (e : Ending) (W W' : World) : Prop := ∃ v, e = .returned v ∧ BRow W'.heap.size W' v l ∧ Below B W W'

/-- .. in a block of its own -/
def OwnBools (B : Nat) (l : List Bool) (e : Ending) (W W' : World) : Prop := ∃ v, e = .returned v ∧ W'.ownsRow B 4 1 v l.length (boolsV l) ∧ Below B W W'

set_option maxRecDepth 100000 in
set_option maxHeartbeats 3200000 in
theorem reached_own {v : Value} {to : List (List Int)} (i : Int) (W : World) (hv : GraphM W.heap.size W v to) (hx : Small to) :
    Calls Try.prog 16 #[v, .int .i64 i] W fun e W' => OwnBools W.heap.size (reachedL to i) e W W' := by
  have hx0 := hx.1
  have HV := Lib.hid hv
  have HX := Lib.hid hx
  obtain ⟨va, vc, rfl⟩ := hv.form
  clear hv hx
  cases hr : GG.rightG to
  · have HR := Lib.hid hr
    have HE := Lib.hid (show reachedL to i = [] by unfold reachedL; rw [if_neg (by rw [hr]; simp)])
    clear hr
    go_enter Try.func16, Try.ntmps16
    go_wp2_with (go_at_call 15; refine (rightG_any _ to _ HV.out HX.out).mono ?_; rintro e w' ⟨rfl, hB⟩; have HB := Lib.hid hB; clear hB; rw [HR.out])
    go_ret
    exact ⟨_, rfl, by rw [HE.out]; exact World.ownsRow_nil _ _ _ _, HB.out⟩
  · cases hi : GG.inB to.length i
    · have HR := Lib.hid hr
      have HI := Lib.hid hi
      have HE := Lib.hid (show reachedL to i = [] by unfold reachedL; rw [if_neg (by rw [hi]; simp)])
      clear hr hi
      go_enter Try.func16, Try.ntmps16
      go_wp2_with (first
        | (go_at_call 15; refine (rightG_any _ to _ HV.out HX.out).mono ?_; rintro e w' ⟨rfl, hB⟩; have HB := Lib.hid hB; clear hB; rw [HR.out])
        | (go_at_call 33; refine (node_any _ to.length _ _ ⟨_, _, rfl⟩ hx0).mono ?_; rintro e w' ⟨rfl, rfl⟩; rw [HI.out]))
      go_ret
      exact ⟨_, rfl, by rw [HE.out]; exact World.ownsRow_nil _ _ _ _, HB.out⟩
    · have hin := of_decide_eq_true hi
      have HR := Lib.hid hr
      have HI := Lib.hid hi
      have hlen := GG.right_len hr
      obtain ⟨k, rfl⟩ : ∃ k : Nat, i = (k : Int) := ⟨i.toNat, by omega⟩
      have HE := Lib.hid (show reachedL to k = flagsL to.length (GG.runG (GG.adjOf to) [k]).1 by
        unfold reachedL
        rw [if_pos ⟨hr, hi⟩, Int.toNat_natCast]
        have e : ∀ x, GG.reachB to (-1) k x = (GG.runG (GG.adjOf to) [k]).1 x := fun x => by unfold GG.reachB; rw [GG.adjN_none _ _ (by decide)]
        unfold flagsL
        exact List.map_congr_left fun x _ => e x)
      have hz := fun (w : World) => run_zero46 w
      have HIN := Lib.hid hin
      have hs46 := slice46 to.length hlen.2
      obtain ⟨b0, hb0, hy0, hy1, hy2⟩ := info_parts Try.infoGBool
      clear hr hi hin
      go_enter Try.func16, Try.ntmps16
      go_wp2_with (first
        | (go_at_call 15; refine (rightG_any _ to _ HV.out HX.out).mono ?_; rintro e w' ⟨rfl, hB⟩; have HB := Lib.hid hB; clear hB; rw [HR.out])
        | (go_at_call 33; refine (node_any _ to.length _ _ ⟨_, _, rfl⟩ hx0).mono ?_; rintro e w' ⟨rfl, rfl⟩; rw [HI.out])
        | (go_at_call 34
           refine (walk_any (to := to) _ [(k : Int)] _ HR.out (HV.out.on (HB.out.alloc HB.out.size _) (by have := HB.out.size; simp; omega)) (row_lit _ _ _) (by simp) (by intro x hx; rw [List.mem_singleton.1 hx]; exact HIN.out)).mono ?_
           rintro e w' ⟨cs, bv, rfl, hn, hc, ho, hs, hB2⟩
           have HCN := Lib.hid hn
           have HCI := Lib.hid hc
           have HB2 := Lib.hid (bstep (HB.out.alloc HB.out.size _) hB2)
           have HF := Lib.hid (flags_of w' cs _ hn hc)
           have HONE := Lib.hid (one_of hn hc)
           clear hn hc ho hs hB2)
        | (refine wpList_store_row rfl 48 (.tmp 5) (.tmp 21) rfl _ cs rfl rfl 48 falses (heap_alloc_new _ _) (by rw [HCN.out]; kernel_rfl) (by rw [HCN.out]; simp [falses]) HONE.out ?_
           rw [setRow_new])
        | (at_builtin
           refine GG.wpList_append_any rfl _ _ 31 rfl W.heap.size 4 b0 (.bool false) 1 1 Try.underlying31 hb0 hy0 hy1 hy2 rfl (by decide) (.slice none 0 0) 0 [] rfl (World.ownsRow_nil _ _ _ _) _ to.length (boolsV (flagsL to.length (GG.runG (GG.adjOf to) [k]).1)) rfl (by rw [boolsV_len, flagsL_len, Nat.mul_one]) (.inr ⟨_, _, rfl, fun j u hj => by obtain ⟨hj1, rfl⟩ := flagsL_cells hj; rw [Addr.add_lit, Nat.zero_add]; exact HF.out.cell (by omega)⟩) (oneCell_bools _) (by unfold maxLen; omega) (by omega) (by have := HB2.out.size; simp; omega) ?_
           intro v1 w1 ho hg
           rw [Nat.zero_add, List.nil_append] at ho
           have HO := Lib.hid ho
           have HG := Lib.hid ((HB2.out.alloc HB2.out.size _).grown hg (by have := HB2.out.size; simp; omega) (fun j e => by simp [Value.ownBlock] at e))
           clear ho hg))
      go_ret
      exact ⟨_, rfl, by rw [HE.out, flagsL_len]; exact HO.out, HG.out⟩
theorem reached_any {v : Value} {to : List (List Int)} (i : Int) (W : World) (hv : GraphM W.heap.size W v to) (hx : Small to) :
    Calls Try.prog 16 #[v, .int .i64 i] W fun e W' => NewBools W.heap.size (reachedL to i) e W W' := by
  refine (reached_own i W hv hx).mono ?_
  rintro e W' ⟨u, h1, h2, h3⟩
  exact ⟨u, h1, cells_of_row h2, h3⟩
end Go.Proofs.Ytbelhoeailjkkaa
