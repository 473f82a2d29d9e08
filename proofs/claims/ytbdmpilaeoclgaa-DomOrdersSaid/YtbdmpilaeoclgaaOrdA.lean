import Derived.Test.YtbdmpilaeoclgaaLawDomChains
import Derived.Lib.SmallJoins
import Derived.Deep.QuietTactic
import Derived.BigQuiet
import Derived.Deep.RegionHeld3
set_option linter.unusedSimpArgs false
set_option linter.unusedVariables false
/-! DomOrders: the walk -/
namespace Go.Proofs.Ytbdmpilaeoclgaa.DD
/-- of two that both are in a third one's chain one is in the other's -/
theorem up_line {T : Nat → Int} {c a b : Nat} (h : Up T c a) : Up T c b → Up T a b ∨ Up T b a := by
  induction h with
  | refl => exact .inl
  | @step k j a hj h ih =>
    intro g
    rcases g.head with e | ⟨j', hj', g'⟩
    · subst e; exact .inr (.step hj h)
    · have : j' = j := by rw [hj] at hj'; omega
      subst this; exact ih g'
theorem up_anti {xs : List Int} (ht : TreeP xs) {a b : Nat} (ha : a < xs.length) (h : Up (fnOf xs) a b) (g : Up (fnOf xs) b a) : a = b := by
  obtain ⟨l, hl⟩ := ht.chain ha
  have hb := (hl.mem_up rfl b).2 h
  obtain ⟨l', h1, h2⟩ := hl.tail hb
  have ha' := (h1.mem_up rfl a).2 g
  obtain ⟨l2, h3, h4⟩ := h1.tail ha'
  have e := h3.det hl
  subst e
  rcases hl.inv with ⟨e, _⟩ | ⟨k, r, e1, e2, _, h5⟩
  · omega
  · have : k = a := by omega
    subst this
    rcases h1.inv with ⟨e, _⟩ | ⟨k', r', e3, e4, _, h6⟩
    · omega
    · have : k' = b := by omega
      subst this
      by_cases e : k = k'
      · exact e
      · exfalso
        rw [e2] at hb
        rcases List.mem_cons.1 hb with e5 | e5
        · exact e e5.symm
        · obtain ⟨l3, h7, h8⟩ := h5.tail e5
          have e6 := h7.det h1
          subst e6
          have : l2.length = r.length + 1 := by rw [e2]; rfl
          omega
theorem dom_zero {xs : List Int} (h : treeB xs = true) {a : Nat} (ha : a < xs.length) : domB xs (a : Int) 0 = ((a : Int) == 0) := by
  have h2 := domB_iff (a := a) (b := 0) h (show 0 < xs.length by omega)
  by_cases e : a = 0
  · subst e
    have h3 : domB xs ((0 : Nat) : Int) ((0 : Nat) : Int) = true := h2.2 (.refl _)
    exact h3.trans rfl
  · have h3 : domB xs (a : Int) ((0 : Nat) : Int) = false := by
      cases h4 : domB xs (a : Int) ((0 : Nat) : Int)
      · rfl
      · exact absurd ((h2.1 h4).end_ (treeB_iff.1 h).2.1) e
    exact h3.trans (beq_eq_false_iff_ne.2 (by omega)).symm
theorem dom_both {xs : List Int} (h : treeB xs = true) {a b : Nat} (ha : a < xs.length) (hb : b < xs.length) (hl : Up (fnOf xs) a b ∨ Up (fnOf xs) b a) :
    (domB xs a b || domB xs b a) = true ∧ (domB xs a b && domB xs b a) = ((a : Int) == (b : Int)) := by
  have h1 := domB_iff (a := a) (b := b) h hb
  have h2 := domB_iff (a := b) (b := a) h ha
  refine ⟨?_, ?_⟩
  · rcases hl with e | e
    · rw [h2.2 e, Bool.or_true]
    · rw [h1.2 e, Bool.true_or]
  · by_cases e : a = b
    · subst e
      rw [h1.2 (.refl _)]; simp
    · rw [show ((a : Int) == (b : Int)) = false from beq_eq_false_iff_ne.2 (by omega)]
      cases c1 : domB xs a b
      · rfl
      · cases c2 : domB xs b a
        · rfl
        · exact absurd (up_anti (treeB_iff.1 h) ha (h2.1 c2) (h1.1 c1)) e
end Go.Proofs.Ytbdmpilaeoclgaa.DD
namespace Go.Proofs.Ytbdmpilaeoclgaa
open Go.RowKit

/-- the argument's block: masks, and three levels -/
def X5 (g : Nat) (v : Value) (A B C : Int) (W : World) : Prop := g < W.heap.size ∧ W.cell? ⟨g, 0, none⟩ = some v ∧ W.cell? ⟨g, 1, none⟩ = some (.int .i64 A) ∧ W.cell? ⟨g, 2, none⟩ = some (.int .i64 B) ∧ W.cell? ⟨g, 3, none⟩ = some (.int .i64 C)
theorem X5.below {g : Nat} {v : Value} {A B C : Int} {W W' : World} (h : X5 g v A B C W) (hb : Below W.heap.size W W') : X5 g v A B C W' :=
  ⟨Nat.lt_of_lt_of_le h.1 hb.size, (hb.cell (p := ⟨g, 0, none⟩) h.1).trans h.2.1, (hb.cell (p := ⟨g, 1, none⟩) h.1).trans h.2.2.1, (hb.cell (p := ⟨g, 2, none⟩) h.1).trans h.2.2.2.1, (hb.cell (p := ⟨g, 3, none⟩) h.1).trans h.2.2.2.2⟩
theorem X5.new (w : World) (v : Value) (A B C : Int) (t : TypeId) : X5 w.heap.size v A B C (w.alloc (.cells #[v, .int .i64 A, .int .i64 B, .int .i64 C] t)) := by
  have e : (w.alloc (.cells #[v, .int .i64 A, .int .i64 B, .int .i64 C] t)).heap[w.heap.size]? = some (.cells #[v, .int .i64 A, .int .i64 B, .int .i64 C] t) := by show (w.heap.push _)[w.heap.size]? = _; simp
  refine ⟨by simp, ?_, ?_, ?_, ?_⟩ <;> (simp only [World.cell?, e]; rfl)

theorem keep5 {g : Nat} {v : Value} {A B C : Int} {w W W1 : World} (h1 : Below w.heap.size w W) (h2 : g < W.heap.size) (h3 : W.cell? ⟨g, 0, none⟩ = some v) (h4 : W.cell? ⟨g, 1, none⟩ = some (.int .i64 A)) (h5 : W.cell? ⟨g, 2, none⟩ = some (.int .i64 B)) (h6 : W.cell? ⟨g, 3, none⟩ = some (.int .i64 C)) (hb : Below W.heap.size W W1) :
    Below w.heap.size w W1 ∧ g < W1.heap.size ∧ W1.cell? ⟨g, 0, none⟩ = some v ∧ W1.cell? ⟨g, 1, none⟩ = some (.int .i64 A) ∧ W1.cell? ⟨g, 2, none⟩ = some (.int .i64 B) ∧ W1.cell? ⟨g, 3, none⟩ = some (.int .i64 C) :=
  let h := X5.below ⟨h2, h3, h4, h5, h6⟩ hb
  ⟨bstep h1 hb, h.1, h.2.1, h.2.2.1, h.2.2.2.1, h.2.2.2.2⟩
theorem keep5d {g : Nat} {v : Value} {A B C : Int} {w W W1 : World} (h1 : Below w.heap.size w W) (h2 : g < W.heap.size) (h3 : W.cell? ⟨g, 0, none⟩ = some v) (h4 : W.cell? ⟨g, 1, none⟩ = some (.int .i64 A)) (h5 : W.cell? ⟨g, 2, none⟩ = some (.int .i64 B)) (h6 : W.cell? ⟨g, 3, none⟩ = some (.int .i64 C)) (hb : Below W.drew.heap.size W.drew W1) :
    Below w.heap.size w W1 ∧ g < W1.heap.size ∧ W1.cell? ⟨g, 0, none⟩ = some v ∧ W1.cell? ⟨g, 1, none⟩ = some (.int .i64 A) ∧ W1.cell? ⟨g, 2, none⟩ = some (.int .i64 B) ∧ W1.cell? ⟨g, 3, none⟩ = some (.int .i64 C) :=
  keep5 (W := W.drew) (below_dN h1 1) h2 h3 h4 h5 h6 hb
theorem keepd {g : Nat} {v : Value} {A B C : Int} {w W : World} (h1 : Below w.heap.size w W) (h2 : g < W.heap.size) (h3 : W.cell? ⟨g, 0, none⟩ = some v) (h4 : W.cell? ⟨g, 1, none⟩ = some (.int .i64 A)) (h5 : W.cell? ⟨g, 2, none⟩ = some (.int .i64 B)) (h6 : W.cell? ⟨g, 3, none⟩ = some (.int .i64 C)) :
    Below w.heap.size w W.drew ∧ g < W.drew.heap.size ∧ W.drew.cell? ⟨g, 0, none⟩ = some v ∧ W.drew.cell? ⟨g, 1, none⟩ = some (.int .i64 A) ∧ W.drew.cell? ⟨g, 2, none⟩ = some (.int .i64 B) ∧ W.drew.cell? ⟨g, 3, none⟩ = some (.int .i64 C) :=
  ⟨below_dN h1 1, h2, h3, h4, h5, h6⟩

set_option maxRecDepth 100000 in
set_option maxHeartbeats 1600000 in
theorem orders_long {va : Option Addr} {vc : Nat} {xs : List Int} (A B C : Int) (w : World) (HV : RowKit.Hid (Row w.heap.size w (.slice va xs.length vc) xs)) (HL : RowKit.Hid (xs.length ≤ 17592186044416))
    (h64 : ¬ xs.length ≤ 64) :
    Calls Try.prog 7 #[.agg #[.slice va xs.length vc, .int .i64 A, .int .i64 B, .int .i64 C]] w fun e w' => e = .returned (.bool true) ∧ Below w.heap.size w w' := by
  have HBB := Lib.hid (show Below w.heap.size w (w.alloc (.cells #[.slice va xs.length vc, .int .i64 A, .int .i64 B, .int .i64 C] 38)) from (Below.refl _ _).alloc (Nat.le_refl _) _)
  have HX := Lib.hid (X5.new w (.slice va xs.length vc) A B C 38)
  obtain ⟨xg, x0, x1, x2, x3⟩ := HX.out
  go_enter Try.func7, Try.ntmps7
  go_wp2_with (first
    | (go_at_call 18
       refine (awakeD_any _).mono ?_
       rintro e w' ⟨rfl, hbn⟩
       have HB2 := Lib.hid (bstep HBB.out hbn)
       clear HBB hbn
       have HBB := HB2
       clear HB2))
  go_ret
  exact ⟨rfl, HBB.out⟩

set_option maxRecDepth 100000 in
set_option maxHeartbeats 1600000 in
theorem orders_no {va : Option Addr} {vc : Nat} {xs : List Int} (A B C : Int) (w : World) (HV : RowKit.Hid (Row w.heap.size w (.slice va xs.length vc) xs)) (HL : RowKit.Hid (xs.length ≤ 17592186044416))
    (h64 : xs.length ≤ 64) (HR : RowKit.Hid (DD.treeB xs = false)) :
    Calls Try.prog 7 #[.agg #[.slice va xs.length vc, .int .i64 A, .int .i64 B, .int .i64 C]] w fun e w' => e = .returned (.bool true) ∧ Below w.heap.size w w' := by
  have HBB := Lib.hid (show Below w.heap.size w (w.alloc (.cells #[.slice va xs.length vc, .int .i64 A, .int .i64 B, .int .i64 C] 38)) from (Below.refl _ _).alloc (Nat.le_refl _) _)
  have HX := Lib.hid (X5.new w (.slice va xs.length vc) A B C 38)
  obtain ⟨xg, x0, x1, x2, x3⟩ := HX.out
  go_enter Try.func7, Try.ntmps7
  go_wp2_with (first
    | (go_at_call 28
       refine (rright11_any _ xs _ (HV.out.on HBB.out HBB.out.size) (by have := HL.out; omega)).mono ?_
       rintro e w' ⟨rfl, hw⟩
       rw [hw, HR.out]
       clear hw w')
    | (go_at_call 18
       refine (awakeD_any _).mono ?_
       rintro e w' ⟨rfl, hbn⟩
       have HB2 := Lib.hid (bstep HBB.out hbn)
       clear HBB hbn
       have HBB := HB2
       clear HB2))
  go_ret
  exact ⟨rfl, HBB.out⟩

set_option maxRecDepth 100000 in
set_option maxHeartbeats 1600000 in
theorem orders_out0 {va : Option Addr} {vc : Nat} {xs : List Int} (A B C : Int) (w : World) (HV : RowKit.Hid (Row w.heap.size w (.slice va xs.length vc) xs)) (HL : RowKit.Hid (xs.length ≤ 17592186044416))
    (h64 : xs.length ≤ 64) (HR : RowKit.Hid (DD.treeB xs = true)) (n0 : decide (A < 0) = true) :
    Calls Try.prog 7 #[.agg #[.slice va xs.length vc, .int .i64 A, .int .i64 B, .int .i64 C]] w fun e w' => e = .returned (.bool true) ∧ Below w.heap.size w w' := by
  have HBB := Lib.hid (show Below w.heap.size w (w.alloc (.cells #[.slice va xs.length vc, .int .i64 A, .int .i64 B, .int .i64 C] 38)) from (Below.refl _ _).alloc (Nat.le_refl _) _)
  have HX := Lib.hid (X5.new w (.slice va xs.length vc) A B C 38)
  obtain ⟨xg, x0, x1, x2, x3⟩ := HX.out
  go_enter Try.func7, Try.ntmps7
  go_wp2_with (first
    | (go_at_call 28
       refine (rright11_any _ xs _ (HV.out.on HBB.out HBB.out.size) (by have := HL.out; omega)).mono ?_
       rintro e w' ⟨rfl, hw⟩
       rw [hw, HR.out]
       clear hw w')
    | (go_at_call 18
       refine (awakeD_any _).mono ?_
       rintro e w' ⟨rfl, hbn⟩
       have HB2 := Lib.hid (bstep HBB.out hbn)
       clear HBB hbn
       have HBB := HB2
       clear HB2))
  go_ret
  exact ⟨rfl, HBB.out⟩

set_option maxRecDepth 100000 in
set_option maxHeartbeats 1600000 in
theorem orders_out1 {va : Option Addr} {vc : Nat} {xs : List Int} (A B C : Int) (w : World) (HV : RowKit.Hid (Row w.heap.size w (.slice va xs.length vc) xs)) (HL : RowKit.Hid (xs.length ≤ 17592186044416))
    (h64 : xs.length ≤ 64) (HR : RowKit.Hid (DD.treeB xs = true)) (n0 : decide (A < 0) = false) (n1 : decide (B < 0) = true) :
    Calls Try.prog 7 #[.agg #[.slice va xs.length vc, .int .i64 A, .int .i64 B, .int .i64 C]] w fun e w' => e = .returned (.bool true) ∧ Below w.heap.size w w' := by
  have HBB := Lib.hid (show Below w.heap.size w (w.alloc (.cells #[.slice va xs.length vc, .int .i64 A, .int .i64 B, .int .i64 C] 38)) from (Below.refl _ _).alloc (Nat.le_refl _) _)
  have HX := Lib.hid (X5.new w (.slice va xs.length vc) A B C 38)
  obtain ⟨xg, x0, x1, x2, x3⟩ := HX.out
  go_enter Try.func7, Try.ntmps7
  go_wp2_with (first
    | (go_at_call 28
       refine (rright11_any _ xs _ (HV.out.on HBB.out HBB.out.size) (by have := HL.out; omega)).mono ?_
       rintro e w' ⟨rfl, hw⟩
       rw [hw, HR.out]
       clear hw w')
    | (go_at_call 18
       refine (awakeD_any _).mono ?_
       rintro e w' ⟨rfl, hbn⟩
       have HB2 := Lib.hid (bstep HBB.out hbn)
       clear HBB hbn
       have HBB := HB2
       clear HB2))
  go_ret
  exact ⟨rfl, HBB.out⟩

set_option maxRecDepth 100000 in
set_option maxHeartbeats 1600000 in
theorem orders_out2 {va : Option Addr} {vc : Nat} {xs : List Int} (A B C : Int) (w : World) (HV : RowKit.Hid (Row w.heap.size w (.slice va xs.length vc) xs)) (HL : RowKit.Hid (xs.length ≤ 17592186044416))
    (h64 : xs.length ≤ 64) (HR : RowKit.Hid (DD.treeB xs = true)) (n0 : decide (A < 0) = false) (n1 : decide (B < 0) = false) (n2 : decide (C < 0) = true) :
    Calls Try.prog 7 #[.agg #[.slice va xs.length vc, .int .i64 A, .int .i64 B, .int .i64 C]] w fun e w' => e = .returned (.bool true) ∧ Below w.heap.size w w' := by
  have HBB := Lib.hid (show Below w.heap.size w (w.alloc (.cells #[.slice va xs.length vc, .int .i64 A, .int .i64 B, .int .i64 C] 38)) from (Below.refl _ _).alloc (Nat.le_refl _) _)
  have HX := Lib.hid (X5.new w (.slice va xs.length vc) A B C 38)
  obtain ⟨xg, x0, x1, x2, x3⟩ := HX.out
  go_enter Try.func7, Try.ntmps7
  go_wp2_with (first
    | (go_at_call 28
       refine (rright11_any _ xs _ (HV.out.on HBB.out HBB.out.size) (by have := HL.out; omega)).mono ?_
       rintro e w' ⟨rfl, hw⟩
       rw [hw, HR.out]
       clear hw w')
    | (go_at_call 18
       refine (awakeD_any _).mono ?_
       rintro e w' ⟨rfl, hbn⟩
       have HB2 := Lib.hid (bstep HBB.out hbn)
       clear HBB hbn
       have HBB := HB2
       clear HB2))
  go_ret
  exact ⟨rfl, HBB.out⟩

set_option maxRecDepth 100000 in
set_option maxHeartbeats 1600000 in
theorem orders_out3 {va : Option Addr} {vc : Nat} {xs : List Int} (A B C : Int) (w : World) (HV : RowKit.Hid (Row w.heap.size w (.slice va xs.length vc) xs)) (HL : RowKit.Hid (xs.length ≤ 17592186044416))
    (h64 : xs.length ≤ 64) (HR : RowKit.Hid (DD.treeB xs = true)) (n0 : decide (A < 0) = false) (n1 : decide (B < 0) = false) (n2 : decide (C < 0) = false) (n3 : decide ((xs.length : Int) ≤ A) = true) :
    Calls Try.prog 7 #[.agg #[.slice va xs.length vc, .int .i64 A, .int .i64 B, .int .i64 C]] w fun e w' => e = .returned (.bool true) ∧ Below w.heap.size w w' := by
  have HBB := Lib.hid (show Below w.heap.size w (w.alloc (.cells #[.slice va xs.length vc, .int .i64 A, .int .i64 B, .int .i64 C] 38)) from (Below.refl _ _).alloc (Nat.le_refl _) _)
  have HX := Lib.hid (X5.new w (.slice va xs.length vc) A B C 38)
  obtain ⟨xg, x0, x1, x2, x3⟩ := HX.out
  go_enter Try.func7, Try.ntmps7
  go_wp2_with (first
    | (go_at_call 28
       refine (rright11_any _ xs _ (HV.out.on HBB.out HBB.out.size) (by have := HL.out; omega)).mono ?_
       rintro e w' ⟨rfl, hw⟩
       rw [hw, HR.out]
       clear hw w')
    | (go_at_call 18
       refine (awakeD_any _).mono ?_
       rintro e w' ⟨rfl, hbn⟩
       have HB2 := Lib.hid (bstep HBB.out hbn)
       clear HBB hbn
       have HBB := HB2
       clear HB2))
  go_ret
  exact ⟨rfl, HBB.out⟩

set_option maxRecDepth 100000 in
set_option maxHeartbeats 1600000 in
theorem orders_out4 {va : Option Addr} {vc : Nat} {xs : List Int} (A B C : Int) (w : World) (HV : RowKit.Hid (Row w.heap.size w (.slice va xs.length vc) xs)) (HL : RowKit.Hid (xs.length ≤ 17592186044416))
    (h64 : xs.length ≤ 64) (HR : RowKit.Hid (DD.treeB xs = true)) (n0 : decide (A < 0) = false) (n1 : decide (B < 0) = false) (n2 : decide (C < 0) = false) (n3 : decide ((xs.length : Int) ≤ A) = false) (n4 : decide ((xs.length : Int) ≤ B) = true) :
    Calls Try.prog 7 #[.agg #[.slice va xs.length vc, .int .i64 A, .int .i64 B, .int .i64 C]] w fun e w' => e = .returned (.bool true) ∧ Below w.heap.size w w' := by
  have HBB := Lib.hid (show Below w.heap.size w (w.alloc (.cells #[.slice va xs.length vc, .int .i64 A, .int .i64 B, .int .i64 C] 38)) from (Below.refl _ _).alloc (Nat.le_refl _) _)
  have HX := Lib.hid (X5.new w (.slice va xs.length vc) A B C 38)
  obtain ⟨xg, x0, x1, x2, x3⟩ := HX.out
  go_enter Try.func7, Try.ntmps7
  go_wp2_with (first
    | (go_at_call 28
       refine (rright11_any _ xs _ (HV.out.on HBB.out HBB.out.size) (by have := HL.out; omega)).mono ?_
       rintro e w' ⟨rfl, hw⟩
       rw [hw, HR.out]
       clear hw w')
    | (go_at_call 18
       refine (awakeD_any _).mono ?_
       rintro e w' ⟨rfl, hbn⟩
       have HB2 := Lib.hid (bstep HBB.out hbn)
       clear HBB hbn
       have HBB := HB2
       clear HB2))
  go_ret
  exact ⟨rfl, HBB.out⟩

set_option maxRecDepth 100000 in
set_option maxHeartbeats 1600000 in
theorem orders_out5 {va : Option Addr} {vc : Nat} {xs : List Int} (A B C : Int) (w : World) (HV : RowKit.Hid (Row w.heap.size w (.slice va xs.length vc) xs)) (HL : RowKit.Hid (xs.length ≤ 17592186044416))
    (h64 : xs.length ≤ 64) (HR : RowKit.Hid (DD.treeB xs = true)) (n0 : decide (A < 0) = false) (n1 : decide (B < 0) = false) (n2 : decide (C < 0) = false) (n3 : decide ((xs.length : Int) ≤ A) = false) (n4 : decide ((xs.length : Int) ≤ B) = false) (n5 : decide ((xs.length : Int) ≤ C) = true) :
    Calls Try.prog 7 #[.agg #[.slice va xs.length vc, .int .i64 A, .int .i64 B, .int .i64 C]] w fun e w' => e = .returned (.bool true) ∧ Below w.heap.size w w' := by
  have HBB := Lib.hid (show Below w.heap.size w (w.alloc (.cells #[.slice va xs.length vc, .int .i64 A, .int .i64 B, .int .i64 C] 38)) from (Below.refl _ _).alloc (Nat.le_refl _) _)
  have HX := Lib.hid (X5.new w (.slice va xs.length vc) A B C 38)
  obtain ⟨xg, x0, x1, x2, x3⟩ := HX.out
  go_enter Try.func7, Try.ntmps7
  go_wp2_with (first
    | (go_at_call 28
       refine (rright11_any _ xs _ (HV.out.on HBB.out HBB.out.size) (by have := HL.out; omega)).mono ?_
       rintro e w' ⟨rfl, hw⟩
       rw [hw, HR.out]
       clear hw w')
    | (go_at_call 18
       refine (awakeD_any _).mono ?_
       rintro e w' ⟨rfl, hbn⟩
       have HB2 := Lib.hid (bstep HBB.out hbn)
       clear HBB hbn
       have HBB := HB2
       clear HB2))
  go_ret
  exact ⟨rfl, HBB.out⟩

end Go.Proofs.Ytbdmpilaeoclgaa
