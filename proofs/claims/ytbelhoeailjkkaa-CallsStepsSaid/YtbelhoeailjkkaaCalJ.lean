import Derived.Test.YtbelhoeailjkkaaCalI
import Derived.Test.YtbelhoeailjkkaaLaysG
import Derived.StillTailTactics
import Derived.Laws.OwnMore
set_option linter.unusedSimpArgs false
set_option linter.unusedVariables false
/-! calls: what Entries uses -/
namespace Go.Proofs.Ytbelhoeailjkkaa
open Go.RowKit CC
/-- n integers in a block -/
def IntsC (W : World) (g n : Nat) (f : Nat → Int) : Prop := W.rowIs g 3 n (fun i => .int .i64 (f i))
theorem IntsC.set {W : World} {g n : Nat} {f f' : Nat → Int} (h : IntsC W g n f) (i : Nat) (c : Int) (e : ∀ j, f' j = if j = i then c else f j) : IntsC (W.setCell ⟨g, i, none⟩ (.int .i64 c)) g n f' := by
  refine World.rowIs.congr (World.rowIs.set h i (.int .i64 c)) (fun j _ => ?_)
  rw [e]
  by_cases q : j = i <;> simp [q]
theorem IntsC.of {W W' : World} {g n : Nat} {f : Nat → Int} (h : IntsC W g n f) (e : W'.heap[g]? = W.heap[g]?) : IntsC W' g n f := World.rowIs.of_block h e

theorem ccontains_any {n₀ : Nat} {W : World} {u : Value} {xs : List Int} (x : Int) (h : Row n₀ W u xs) (hl : xs.length ≤ 9223372036854775807) :
    Calls Try.prog 37 #[u, .int .i64 x] W fun e w' => e = .returned (.bool (xs.contains x)) ∧ w' = W := by
  by_cases h0 : 0 < xs.length
  · obtain ⟨b, off, cap, rfl, _, hc⟩ := h.at h0
    have := Try.slices_Contains_int b off xs.length cap xs x W (Nat.le_refl _) hl (fun j hj => by rw [hc j hj, List.getD_eq_getElem?_getD])
    rwa [List.take_length] at this
  · have e : xs = [] := List.eq_nil_of_length_eq_zero (by omega)
    subst e
    obtain ⟨a, cap, rfl⟩ := h.form
    exact Try.slices_Contains_int_empty a cap x W

theorem ccontains_q0 {n₀ : Nat} {W : World} {u : Value} {xs : List Int} {x : Int} {t : Bool} (h : RowKit.Hid (Row n₀ W u xs)) (hl : xs.length ≤ 9223372036854775807) (ht : RowKit.Hid (xs.contains x = t)) (d : Nat) :
    Calls Try.prog 37 #[u, .int .i64 x] (W.drewN d) fun e w' => e = .returned (.bool t) ∧ ∃ k, w' = W.drewN k := by
  refine (ccontains_any x (h.out.drewN d) hl).mono ?_
  rintro e w' ⟨rfl, rfl⟩
  exact ⟨by rw [ht.out], d, rfl⟩

set_option maxRecDepth 100000 in
set_option maxHeartbeats 3200000 in
theorem ccircle_any {v gv : Value} {to : List (List Int)} {g : List Nat} (W : World) (hv : GraphM W.heap.size W v to) (hr : GG.rightG to = true) (hg : Row W.heap.size W gv (g.map Int.ofNat)) (h0 : 0 < g.length) (h2 : g.length ≤ 256) (h1 : ∀ x ∈ g, x < to.length) :
    Calls Try.prog 28 #[v, gv] W fun e w' => e = .returned (.bool (CC.circB (GG.adjOf to) g)) ∧ ∃ d, w' = W.drewN d := by
  have hlen := GG.right_len hr
  obtain ⟨gb, gf, gc, rfl, _, hgc⟩ := hg.at (by rw [List.length_map]; exact h0)
  obtain ⟨va, vc, rfl⟩ := hv.form
  have hg0 := hgc 0 (by rw [List.length_map]; exact h0)
  rw [List.length_map]
  clear hgc hg
  by_cases hl : 1 < g.length
  · have HE := Lib.hid (show CC.circB (GG.adjOf to) g = true by unfold CC.circB; rw [decide_eq_true hl]; rfl)
    have hd : decide ((1 : Int) < (g.length : Int)) = true := decide_eq_true (by omega)
    have hd2 : decide (1 < g.length) = true := decide_eq_true hl
    clear hg0
    go_enter Try.func28, Try.ntmps28
    go_wp2_with fail
    go_quiet (fail)
    go_wp2_with fail
    go_ret
    exact ⟨ret_bool HE.out.symm, _, rfl⟩
  · obtain ⟨x, rfl⟩ : ∃ x, g = [x] := by
      match g, h0, hl with
      | [x], _, _ => exact ⟨x, rfl⟩
      | _ :: _ :: _, _, hl => exact absurd (by simp) hl
    have hx := h1 x List.mem_cons_self
    have hc0 : W.cell? ⟨gb, gf, none⟩ = some (.int .i64 (x : Int)) := hg0
    have hd : decide ((1 : Int) < (([x] : List Nat).length : Int)) = false := rfl
    obtain ⟨vb, vf, vc', e1⟩ := hv.addr (by omega)
    cases e1
    obtain ⟨ra, rac, hx1, hrx⟩ := hv.at hx
    have hrl := GG.row_len (GG.right_at hr hx)
    have HE := Lib.hid (show CC.circB (GG.adjOf to) [x] = (to[x]?.getD []).contains (x : Int) by
      unfold CC.circB
      show (false || decide (x ∈ GG.adjOf to x)) = _
      rw [Bool.false_or, Bool.eq_iff_iff, decide_eq_true_iff, List.contains_iff_mem]
      exact GG.adj_mem hr hx x)
    have i1 : (0 : Int) ≤ x ∧ (x : Int) < to.length := by omega
    clear hg0
    obtain ⟨r, er⟩ : ∃ r, r = to[x]?.getD [] := ⟨_, rfl⟩
    rw [← er] at hx1 hrx hrl HE
    clear er
    have HRX := Lib.hid hrx
    obtain ⟨t, ht⟩ : ∃ t, t = r.contains (x : Int) := ⟨_, rfl⟩
    have HT := Lib.hid ht.symm
    rw [← ht] at HE
    clear hrx ht
    go_enter Try.func28, Try.ntmps28
    go_wp2_with fail
    go_quiet ((go_at_call 37; exact ccontains_q0 HRX (by omega) HT _))
    go_wp2_with fail
    go_ret
    exact ⟨ret_bool HE.out.symm, _, rfl⟩
theorem Kept.drew {tb : Nat} {A V : World} (h : Kept tb A V) : Kept tb A V.drew := ⟨h.os, h.tape, h.output, h.size, h.block⟩
theorem Kept.drewN {tb : Nat} {A V : World} (h : Kept tb A V) (d : Nat) : Kept tb A (V.drewN d) := ⟨h.os, h.tape, h.output, h.size, h.block⟩

/-- what 'reached' asks of a node -/
def nzB (e : Nat → Int) (i : Nat) : Bool := decide (e i ≠ 0)
set_option maxRecDepth 100000 in
set_option maxHeartbeats 1600000 in
theorem cnz_any {W : World} {bx eb n : Nat} {e : Nat → Int} (i : Nat) (hi : i < n) (hx : W.cell? ⟨bx, 0, none⟩ = some (.slice (some ⟨eb, 0, none⟩) n n)) (h : IntsC W eb n e) :
    Calls Try.prog 39 #[.int .i64 i, .pointer (some ⟨bx, 0, none⟩)] W fun e' w' => e' = .returned (.bool (nzB e i)) ∧ w' = W := by
  have hc := World.rowIs.cell h hi
  have i1 : (0 : Int) ≤ i ∧ (i : Int) < n := by omega
  obtain ⟨x, ex⟩ : ∃ x, x = e i := ⟨_, rfl⟩
  rw [← ex] at hc
  by_cases h0 : x = 0
  · have HE := Lib.hid (show nzB e i = false by unfold nzB; rw [← ex, h0]; decide)
    subst h0
    clear ex h
    go_enter Try.func39, Try.ntmps39
    go_wp2_with fail
    go_ret
    exact ⟨by rw [HE.out]; rfl, rfl⟩
  · have HE := Lib.hid (show nzB e i = true by unfold nzB; rw [← ex]; exact decide_eq_true h0)
    have hb : (x != (0 : Int)) = true := bne_iff_ne.2 h0
    clear ex h h0
    go_enter Try.func39, Try.ntmps39
    go_wp2_with fail
    go_ret
    exact ⟨by rw [HE.out]; first | rfl | simp [hb], rfl⟩

set_option maxRecDepth 100000 in
set_option maxHeartbeats 1600000 in
theorem cindex_any {n₀ : Nat} {W : World} {bx eb n : Nat} {e : Nat → Int} {gv : Value} {g : List Nat} (hg : Row n₀ W gv (g.map Int.ofNat)) (h2 : g.length ≤ 256) (h1 : ∀ x ∈ g, x < n) (hx : W.cell? ⟨bx, 0, none⟩ = some (.slice (some ⟨eb, 0, none⟩) n n)) (h : IntsC W eb n e) :
    Calls Try.prog 42 #[gv, .func (.func 39) #[] #[.pointer (some ⟨bx, 0, none⟩)]] W fun e' w' => (∃ z : Int, e' = .returned (.int .i64 z) ∧ decide (0 ≤ z) = CC.hasB e g) ∧ w' = W := by
  obtain ⟨ga, gc, rfl⟩ := hg.form
  rw [List.length_map]
  have HG := Lib.hid hg
  have H := Lib.hid h
  have H1 := Lib.hid h1
  clear hg h h1
  go_enter Try.func42, Try.ntmps42
  go_wp2_with fail
  go_loopw [8] (fun k wr => ∃ i : Nat, i ≤ g.length ∧ k = .int .i64 (i : Int) ∧ W = wr ∧ RowKit.Hid (∀ j, j < i → nzB e (g[j]?.getD 0) = false)) (fun k _ => g.length - (intOf k).toNat)
  case atStart => exact ⟨0, by omega, rfl, rfl, Lib.hid (fun j hj => absurd hj (Nat.not_lt_zero _))⟩
  case round =>
    obtain ⟨i, hi, rfl, rfl, HI⟩ := hrel
    by_cases hlt : i < g.length
    · have hgl : i < (g.map Int.ofNat).length := by rw [List.length_map]; exact hlt
      obtain ⟨gb, gf, e1, hgc⟩ := Row.cellAt (show Row n₀ W (.slice ga g.length gc) (g.map Int.ofNat) by have := HG.out; rwa [List.length_map] at this) hgl
      cases e1
      obtain ⟨x, ex⟩ : ∃ x, x = g[i]?.getD 0 := ⟨_, rfl⟩
      have hxv : (g.map Int.ofNat)[i]?.getD 0 = (x : Int) := by rw [ex, List.getElem?_map, List.getElem?_eq_getElem hlt]; rfl
      rw [hxv] at hgc
      have hxn : x < n := H1.out x (by rw [ex, List.getElem?_eq_getElem hlt]; exact List.getElem_mem hlt)
      have i1 : (0 : Int) ≤ i ∧ (i : Int) < g.length := by omega
      cases hz : nzB e x
      · have HZ := Lib.hid hz
        have HN := Lib.hid (show nzB e (g[i]?.getD 0) = false by rw [← ex]; exact hz)
        clear hz hxv ex
        go_wp2_with (go_at_call 39; refine (cnz_any x hxn hx H.out).mono ?_; rintro e' w' ⟨rfl, e8⟩; rw [e8, HZ.out]; clear e8)
        go_roundw
        case rel => exact ⟨i + 1, by omega, by go_num, by first | rfl | trivial, Lib.hid (fun j hj => by by_cases e2 : j = i; rw [e2]; exact HN.out; exact HI.out j (by omega))⟩
        case measure => simp [intOf]; omega
      · have HZ := Lib.hid hz
        have HE := Lib.hid (show CC.hasB e g = true by
          unfold CC.hasB
          rw [List.any_eq_true]
          exact ⟨x, by rw [ex, List.getElem?_eq_getElem hlt]; exact List.getElem_mem hlt, hz⟩)
        clear hz hxv ex
        go_wp2_with (go_at_call 39; refine (cnz_any x hxn hx H.out).mono ?_; rintro e' w' ⟨rfl, e8⟩; rw [e8, HZ.out]; clear e8)
        go_ret
        exact ⟨⟨(i : Int), rfl, by rw [HE.out]; exact decide_eq_true (by omega)⟩, rfl⟩
    · have HE := Lib.hid (show CC.hasB e g = false by
        unfold CC.hasB
        rw [List.any_eq_false]
        intro x hx
        obtain ⟨j, hj, e2⟩ := List.mem_iff_getElem.1 hx
        have := HI.out j (by omega)
        rw [List.getElem?_eq_getElem hj, Option.getD_some, e2] at this
        unfold nzB at this
        rw [this]
        decide)
      clear HI
      go_wp2_with fail
      go_ret
      exact ⟨⟨-1, rfl, by rw [HE.out]; rfl⟩, rfl⟩

set_option maxRecDepth 100000 in
set_option maxHeartbeats 1600000 in
theorem creached_any {W : World} {eb n : Nat} {e : Nat → Int} {gv : Value} {g : List Nat} (hg : Row W.heap.size W gv (g.map Int.ofNat)) (h2 : g.length ≤ 256) (h1 : ∀ x ∈ g, x < n) (h : IntsC W eb n e) :
    Calls Try.prog 29 #[.slice (some ⟨eb, 0, none⟩) n n, gv] W fun e' w' => e' = .returned (.bool (CC.hasB e g)) ∧ Below W.heap.size W w' := by
  obtain ⟨W0, eW0⟩ : ∃ W0, W0 = W.alloc (.cells #[.slice (some ⟨eb, 0, none⟩) n n] 28) := ⟨_, rfl⟩
  have HB0 := Lib.hid (show Below W.heap.size W W0 by rw [eW0]; exact (Below.refl _ _).alloc (Nat.le_refl _) _)
  have HC0 := Lib.hid (show W0.heap[W.heap.size]? = some (.cells #[.slice (some ⟨eb, 0, none⟩) n n] 28) by rw [eW0]; exact new_at rfl)
  have HI0 := Lib.hid (h.of (HB0.out.block _ (World.rowIs.lt h)))
  have HG0 := Lib.hid (hg.below HB0.out)
  have EW0 := Lib.hid eW0
  have H1 := Lib.hid h1
  clear eW0 hg h h1
  obtain ⟨ga, gc, e1⟩ := HG0.out.form
  rw [List.length_map] at e1
  subst e1
  go_enter Try.func29, Try.ntmps29
  go_wp2_with fail
  rw [← EW0.out]
  have HCF := Lib.hid (show Calls Try.prog 38 #[.slice ga g.length gc, .func (.func 39) #[] #[.pointer (some ⟨W.heap.size, 0, none⟩)]] W0 fun e' w' => e' = .returned (.bool (CC.hasB e g)) ∧ w' = W0 by
    clear EW0 HB0
    go_enter Try.func38, Try.ntmps38
    go_wp2_with fail
    refine (cindex_any HG0.out h2 H1.out (cell_of_one HC0.out) HI0.out).mono ?_
    rintro e' w' ⟨⟨z, rfl, hz⟩, e8⟩
    rw [e8]
    have HZ := Lib.hid hz
    obtain ⟨t, ht⟩ : ∃ t, t = decide (0 ≤ z) := ⟨_, rfl⟩
    have HT := Lib.hid (show CC.hasB e g = t by rw [ht]; exact hz.symm)
    have ht' := ht.symm
    clear hz e8 ht
    cases t
    · have hz0 : decide (0 ≤ z) = false := ht'
      clear ht'
      go_wp2_with fail
      go_ret
      exact ⟨by rw [HT.out]; rfl, rfl⟩
    · have hz0 : decide (0 ≤ z) = true := ht'
      clear ht'
      go_wp2_with fail
      go_ret
      exact ⟨by rw [HT.out]; rfl, rfl⟩)
  refine HCF.out.mono ?_
  rintro e' w' ⟨rfl, e8⟩
  rw [e8]
  clear e8
  go_wp2_with fail
  go_ret
  exact ⟨rfl, HB0.out⟩
end Go.Proofs.Ytbelhoeailjkkaa
