import Derived.Test.YtaaicmldldkhhaaDoorLatB
import Derived.Test.YtaaicmldldkhhaaDoorLatH
import Derived.Test.YtaaicmldldkhhaaDoorLatG
import Derived.Test.YtaaicmldldkhhaaDoorTz
set_option linter.unusedSimpArgs false
set_option linter.unusedVariables false
/-! what the statements of layer 5 ask of the project's functions, as hypotheses; awake -/
namespace Go.Proofs.YtaaicmldldkhhaaDoor
open Go.RowKit

/-- are a and b levels of a lattice? -/
def inB (xs : List Int) (a b : Int) : Bool := (decide (0 ≤ a) && decide (a < xs.length)) && ((decide (0 ≤ b) && decide (b < xs.length)) && LL.rightB xs)
abbrev big5 : Nat := 17592186044416
def RightC : Prop := ∀ (v : Value) (xs : List Int) (n₀ : Nat) (w : World), Nums .u64 n₀ w v xs → n₀ ≤ w.heap.size → Wide xs → xs.length ≤ big5 → Tz w →
  Calls Tryd.prog 16 #[v] w fun e w' => e = .returned (.bool (LL.rightB xs)) ∧ Below w.heap.size w w'
def JoinC : Prop := ∀ (v : Value) (xs : List Int) (n₀ : Nat) (a b : Int) (w : World), Nums .u64 n₀ w v xs → n₀ ≤ w.heap.size → Wide xs → xs.length ≤ big5 → (Lit.int .i64 a).wf = true → (Lit.int .i64 b).wf = true → Tz w →
  Calls Tryd.prog 18 #[v, .int .i64 a, .int .i64 b] w fun e w' => e = .returned (.tuple #[.int .i64 (if inB xs a b = true then LL.joinI xs a.toNat b.toNat else 0), .bool (inB xs a b)]) ∧ Below w.heap.size w w'
def MeetC : Prop := ∀ (v : Value) (xs : List Int) (n₀ : Nat) (a b : Int) (w : World), Nums .u64 n₀ w v xs → n₀ ≤ w.heap.size → Wide xs → xs.length ≤ big5 → (Lit.int .i64 a).wf = true → (Lit.int .i64 b).wf = true → Tz w →
  Calls Tryd.prog 19 #[v, .int .i64 a, .int .i64 b] w fun e w' => e = .returned (.tuple #[.int .i64 (if inB xs a b = true then LL.meetI xs a.toNat b.toNat else 0), .bool (inB xs a b)]) ∧ Below w.heap.size w w'
def LeqC : Prop := ∀ (v : Value) (xs : List Int) (n₀ : Nat) (a b : Int) (w : World), Nums .u64 n₀ w v xs → n₀ ≤ w.heap.size → Wide xs → xs.length ≤ big5 → (Lit.int .i64 a).wf = true → (Lit.int .i64 b).wf = true → Tz w →
  Calls Tryd.prog 20 #[v, .int .i64 a, .int .i64 b] w fun e w' => e = .returned (.bool (inB xs a b && LL.ab xs a.toNat b.toNat)) ∧ Below w.heap.size w w'
def HeightC : Prop := ∀ (v : Value) (xs : List Int) (n₀ : Nat) (w : World), Nums .u64 n₀ w v xs → n₀ ≤ w.heap.size → Wide xs → xs.length ≤ big5 → Tz w →
  Calls Tryd.prog 26 #[v] w fun e w' => e = .returned (.int .i64 (if LL.rightB xs = true then (LL.heightN xs : Int) else 0)) ∧ Below w.heap.size w w'
def CoversC : Prop := ∀ (v : Value) (xs : List Int) (n₀ : Nat) (w : World), Nums .u64 n₀ w v xs → n₀ ≤ w.heap.size → Wide xs → xs.length ≤ big5 → Tz w →
  Calls Tryd.prog 30 #[v] w fun e w' => ∃ u, e = .returned u ∧ Prs w'.heap.size w' u (if LL.rightB xs = true then LL.coversL xs else []) ∧ Below w.heap.size w w'
def BottomC : Prop := ∀ (v : Value) (xs : List Int) (n₀ : Nat) (w : World), Nums .u64 n₀ w v xs → n₀ ≤ w.heap.size → Wide xs → xs.length ≤ big5 → Tz w →
  Calls Tryd.prog 24 #[v] w fun e w' => e = .returned (.tuple #[.int .i64 (if LL.rightB xs = true then LL.endI xs else 0), .bool (LL.rightB xs)]) ∧ Below w.heap.size w w'
def TopC : Prop := ∀ (v : Value) (xs : List Int) (n₀ : Nat) (w : World), Nums .u64 n₀ w v xs → n₀ ≤ w.heap.size → Wide xs → xs.length ≤ big5 → Tz w →
  Calls Tryd.prog 25 #[v] w fun e w' => e = .returned (.tuple #[.int .i64 (if LL.rightB xs = true then LL.farI xs else 0), .bool (LL.rightB xs)]) ∧ Below w.heap.size w w'
/-- what the project's Build answers -/
def BuildP (n : Int) (ps : List (Int × Int)) (e : Ending) (W : World) : Prop :=
  ∃ (v : Value) (S : List Int) (k : Int), e = .returned (.tuple #[v, .int .i64 k]) ∧ Nums .u64 W.heap.size W v S ∧ Wide S ∧
    ((¬ (1 ≤ n ∧ n ≤ 64 ∧ ∀ p ∈ ps, pairOk n.toNat p = true) ∧ S = [] ∧ k = 1) ∨
     (1 ≤ n ∧ n ≤ 64 ∧ (∀ p ∈ ps, pairOk n.toNat p = true) ∧ ∃ T, LL.IsClose n.toNat (toPrs ps) T ∧ ((LL.rightB T = true ∧ S = T ∧ k = 0) ∨ (LL.rightB T = false ∧ S = [] ∧ k = 11))))
def BuildC : Prop := ∀ (v : Value) (ps : List (Int × Int)) (n₀ : Nat) (n : Int) (w : World), PrsI n₀ w v ps → n₀ ≤ w.heap.size → ps.length ≤ big5 → (Lit.int .i64 n).wf = true → Tz w →
  Calls Tryd.prog 12 #[.int .i64 n, v] w fun e w' => BuildP n ps e w' ∧ Below w.heap.size w w'

/-! the chapter's first example -/
def ex5 : List (Int × Int) := [(0, 1), (0, 2), (1, 3), (2, 3)]
def up5 : List Int := [15, 10, 12, 8]
theorem up5_wide : Wide up5 := by
  intro x hx
  simp [up5] at hx
  omega
theorem up5_close : LL.IsClose 4 (toPrs ex5) up5 := by
  have h3 : LL.Reach (toPrs ex5) 0 3 := (LL.Reach.one (k := 0) (m := 1) (by decide)).trans (.one (by decide))
  refine LL.close_of ⟨rfl, up5_wide, fun i k hi e => ?_⟩ ⟨by decide +kernel, by decide +kernel⟩ (by unfold LL.Closed; decide +kernel)
  have hk : k < 64 := by
    apply Classical.byContradiction; intro h
    unfold LL.ab at e
    rw [hasB_out _ _ h] at e
    cases e
  have key : (List.range 4).all (fun i => (List.range 64).all fun k => !LL.ab up5 i k || decide ((i, k) ∈ [(0, 0), (0, 1), (0, 2), (0, 3), (1, 1), (1, 3), (2, 2), (2, 3), (3, 3)])) = true := by decide +kernel
  have hm := List.all_eq_true.1 (List.all_eq_true.1 key i (List.mem_range.2 hi)) k (List.mem_range.2 hk)
  rw [e, Bool.not_true, Bool.false_or, decide_eq_true_eq] at hm
  simp only [List.mem_cons, List.mem_nil_iff, or_false, Prod.mk.injEq] at hm
  rcases hm with ⟨rfl, rfl⟩ | ⟨rfl, rfl⟩ | ⟨rfl, rfl⟩ | ⟨rfl, rfl⟩ | ⟨rfl, rfl⟩ | ⟨rfl, rfl⟩ | ⟨rfl, rfl⟩ | ⟨rfl, rfl⟩ | ⟨rfl, rfl⟩
  · exact ⟨by omega, .refl⟩
  · exact ⟨by omega, .one (by decide)⟩
  · exact ⟨by omega, .one (by decide)⟩
  · exact ⟨by omega, h3⟩
  · exact ⟨by omega, .refl⟩
  · exact ⟨by omega, .one (by decide)⟩
  · exact ⟨by omega, .refl⟩
  · exact ⟨by omega, .one (by decide)⟩
  · exact ⟨by omega, .refl⟩
theorem up5_right : LL.rightB up5 = true := by decide +kernel
theorem up5_height : LL.heightN up5 = 2 := by decide +kernel
/-- a literal of pairs -/
theorem ex5_prs (W : World) : PrsI (W.heap.size + 1) (W.alloc (.cells #[.int .i64 0, .int .i64 1, .int .i64 0, .int .i64 2, .int .i64 1, .int .i64 3, .int .i64 2, .int .i64 3] 40)) (.slice (some ⟨W.heap.size, 0, none⟩) 4 4) ex5 := by
  refine .inr ⟨W.heap.size, 0, 4, rfl, by omega, Nat.le_refl _, fun j hj => ?_⟩
  have e : (W.alloc (.cells #[.int .i64 0, .int .i64 1, .int .i64 0, .int .i64 2, .int .i64 1, .int .i64 3, .int .i64 2, .int .i64 3] 40)).heap[W.heap.size]? = some (.cells #[.int .i64 0, .int .i64 1, .int .i64 0, .int .i64 2, .int .i64 1, .int .i64 3, .int .i64 2, .int .i64 3] 40) := by show (W.heap.push _)[W.heap.size]? = _; simp
  have hj4 : j < 4 := hj
  simp only [World.cell?, e]
  rcases (show j = 0 ∨ j = 1 ∨ j = 2 ∨ j = 3 by omega) with rfl | rfl | rfl | rfl <;> exact ⟨rfl, rfl⟩
theorem up5_nums (W : World) : Nums .u64 (W.heap.size + 1) (W.alloc (.cells #[.int .u64 15, .int .u64 10, .int .u64 12, .int .u64 8] 45)) (.slice (some ⟨W.heap.size, 0, none⟩) 4 4) up5 := by
  refine .inr ⟨W.heap.size, 0, 4, rfl, by omega, Nat.le_refl _, fun j hj => ?_⟩
  have e : (W.alloc (.cells #[.int .u64 15, .int .u64 10, .int .u64 12, .int .u64 8] 45)).heap[W.heap.size]? = some (.cells #[.int .u64 15, .int .u64 10, .int .u64 12, .int .u64 8] 45) := by show (W.heap.push _)[W.heap.size]? = _; simp
  have hj4 : j < 4 := hj
  simp only [World.cell?, e]
  rcases (show j = 0 ∨ j = 1 ∨ j = 2 ∨ j = 3 by omega) with rfl | rfl | rfl | rfl <;> rfl

set_option maxRecDepth 100000 in
set_option maxHeartbeats 1600000 in
theorem awake5_any (hB : BuildC) (hH : HeightC) (w : World) (hTz : Tz w) :
    Calls Tryd.prog 15 #[] w fun e w' => e = .returned (.bool true) ∧ Below w.heap.size w w' := by
  have HBd := Lib.hid hB
  have HHt := Lib.hid hH
  clear hB hH
  go_enter Tryd.func15, Tryd.ntmps15
  go_wp2_with fail
  refine (HBd.out _ ex5 _ 4 _ (ex5_prs w) (by simp) (by decide) (by decide) (by first | exact hTz | exact hTz.on (by assumption) | exact hTz.on HBB.out | exact hTz.alloc _ | exact (hTz.on (by assumption)).alloc _ | exact (hTz.on HBB.out).alloc _ | exact (hTz.alloc _).alloc _ | exact ((hTz.on (by assumption)).alloc _).alloc _)).mono ?_
  rintro e w1 ⟨⟨v, S, k, rfl, hn, hw, hcase⟩, hb1⟩
  have hSk : S = up5 ∧ k = 0 := by
    rcases hcase with ⟨h, _⟩ | ⟨_, _, _, T, hT, h⟩
    · exact absurd ⟨by omega, by omega, by decide⟩ h
    · have e := LL.close_one hT up5_close
      subst e
      rcases h with ⟨_, h1, h2⟩ | ⟨h1, _⟩
      · exact ⟨h1, h2⟩
      · rw [up5_right] at h1; cases h1
  obtain ⟨rfl, rfl⟩ := hSk
  have HN := Lib.hid hn
  obtain ⟨a, cap, rfl⟩ := hn.form
  have hB1 : Below w.heap.size w w1 := ((Below.refl _ _).alloc (Nat.le_refl _) _).trans (hb1.mono (by simp))
  clear hn hw hcase hb1
  go_wp2_with fail
  refine (rsame5_any _ _ up5 up5 _ _ ((HN.out.below ((Below.refl _ _).alloc (Nat.le_refl _) _)).mono (Nat.le_succ _)) (up5_nums w1) (by decide) (by decide)).mono ?_
  rintro e w2 ⟨rfl, hb2⟩
  have hN2 := Lib.hid ((HN.out.below ((Below.refl _ _).alloc (Nat.le_refl _) _)).below (hb2.mono (by simp)))
  have hsz := Lib.hid (show w1.heap.size ≤ w2.heap.size by have := hb2.size; simp at this; omega)
  have hB2 : Below w.heap.size w w2 := (hB1.alloc hB1.size _).trans (hb2.mono (by have := hB1.size; simp; omega))
  clear hb2 hB1
  rw [show (up5 == up5) = true by simp]
  go_wp2_with fail
  refine (HHt.out _ up5 _ w2 hN2.out hsz.out up5_wide (by decide) (by first | exact hTz | exact hTz.on (by assumption) | exact hTz.on HBB.out | exact hTz.alloc _ | exact (hTz.on (by assumption)).alloc _ | exact (hTz.on HBB.out).alloc _ | exact (hTz.alloc _).alloc _ | exact ((hTz.on (by assumption)).alloc _).alloc _)).mono ?_
  rintro e w3 ⟨rfl, hb3⟩
  rw [up5_right, up5_height]
  go_wp2_with fail
  go_ret
  exact ⟨rfl, bstep hB2 hb3⟩
end Go.Proofs.YtaaicmldldkhhaaDoor
