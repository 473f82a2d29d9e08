import Derived.Test.YtbelhoeailjkkaaGraO
import Derived.Test.YtbelhoeailjkkaaGraU
import Derived.Test.YtbelhoeailjkkaaCalL
set_option linter.unusedSimpArgs false
set_option linter.unusedVariables false
/-! calls: the closures of Groups -/
namespace Go.Proofs.Ytbelhoeailjkkaa
open Go.RowKit
/-- rows of bools -/
def BTab (n₀ : Nat) (W : World) (v : Value) (n m : Nat) (L : Nat → Nat → Bool) : Prop :=
  ∃ vs, Cells n₀ W v vs ∧ vs.length = m ∧ ∀ j, j < m → ∃ r, vs[j]? = some r ∧ BRow n₀ W r (flagsL n (L j))
theorem BTab.below {n₀ : Nat} {A B : World} (h : Below n₀ A B) {v : Value} {n m : Nat} {L : Nat → Nat → Bool} : BTab n₀ A v n m L → BTab n₀ B v n m L
  | ⟨vs, h1, h2, h3⟩ => ⟨vs, h1.below h, h2, fun j hj => by obtain ⟨r, e, g⟩ := h3 j hj; exact ⟨r, e, g.below h⟩⟩
theorem BTab.mono {k k' : Nat} (h : k ≤ k') {A : World} {v : Value} {n m : Nat} {L : Nat → Nat → Bool} : BTab k A v n m L → BTab k' A v n m L
  | ⟨vs, h1, h2, h3⟩ => ⟨vs, h1.mono h, h2, fun j hj => by obtain ⟨r, e, g⟩ := h3 j hj; exact ⟨r, e, g.mono h⟩⟩
theorem BTab.at {n₀ : Nat} {W : World} {v : Value} {n m : Nat} {L : Nat → Nat → Bool} (h : BTab n₀ W v n m L) {a b : Nat} (ha : a < m) (hb : b < n) :
    ∃ tb tf tc rb rf rc, v = .slice (some ⟨tb, tf, none⟩) m tc ∧ W.cell? ⟨tb, tf + a, none⟩ = some (.slice (some ⟨rb, rf, none⟩) n rc) ∧ W.cell? ⟨rb, rf + b, none⟩ = some (.bool (L a b)) := by
  obtain ⟨vs, h1, h2, h3⟩ := h
  obtain ⟨tb, tf, tc, rfl, _, hc⟩ := h1.at (by omega)
  obtain ⟨r, e, g⟩ := h3 a ha
  obtain ⟨rb, rf, rc, rfl, _, hr⟩ := g.at (by rw [flagsL_len]; omega)
  refine ⟨tb, tf, tc, rb, rf, rc, by rw [h2], ?_, ?_⟩
  · have := hc a _ e
    rwa [flagsL_len] at this
  · have := hr b (by rw [flagsL_len]; exact hb)
    rwa [flagsL_at hb, Option.getD_some] at this
/-- the cell of what 'leads' knows -/
structure LeadM (n₀ : Nat) (W : World) (cb n : Nat) (L : Nat → Nat → Bool) : Prop where
  lt : cb < n₀
  tab : ∃ v, W.cell? ⟨cb, 0, none⟩ = some v ∧ BTab n₀ W v n n L
theorem LeadM.below {n₀ : Nat} {A B : World} (h : Below n₀ A B) {cb n : Nat} {L : Nat → Nat → Bool} (g : LeadM n₀ A cb n L) : LeadM n₀ B cb n L := by
  obtain ⟨v, h1, h2⟩ := g.tab
  exact ⟨g.lt, v, (h.cell (p := ⟨cb, 0, none⟩) g.lt).trans h1, h2.below h⟩

set_option maxRecDepth 100000 in
set_option maxHeartbeats 1600000 in
theorem cleads_any {n₀ : Nat} {W : World} {cb n : Nat} {L : Nat → Nat → Bool} (a b : Nat) (h : LeadM n₀ W cb n L) (ha : a < n) (hb : b < n) :
    Calls Try.prog 35 #[.int .i64 a, .int .i64 b, .pointer (some ⟨cb, 0, none⟩)] W fun e w' => e = .returned (.bool (L a b)) ∧ w' = W := by
  obtain ⟨v, h1, h2⟩ := h.tab
  obtain ⟨tb, tf, tc, rb, rf, rc, rfl, h3, h4⟩ := h2.at ha hb
  have i1 : (0 : Int) ≤ a ∧ (a : Int) < n := by omega
  have i2 : (0 : Int) ≤ b ∧ (b : Int) < n := by omega
  clear h h2
  go_enter Try.func35, Try.ntmps35
  go_wp2_with fail
  go_ret
  exact ⟨rfl, rfl⟩

set_option maxRecDepth 100000 in
set_option maxHeartbeats 1600000 in
theorem ctog_any {n₀ : Nat} {W : World} {cb lb n : Nat} {L : Nat → Nat → Bool} (a b : Nat) (h : LeadM n₀ W cb n L) (hl : W.cell? ⟨lb, 0, none⟩ = some (.func (.func 35) #[] #[.pointer (some ⟨cb, 0, none⟩)])) (ha : a < n) (hb : b < n) :
    Calls Try.prog 20 #[.int .i64 a, .int .i64 b, .pointer (some ⟨lb, 0, none⟩)] W fun e w' => e = .returned (.bool (CC.tog L a b)) ∧ w' = W := by
  have H := Lib.hid h
  clear h
  cases h1 : L a b
  · have HE := Lib.hid (show CC.tog L a b = false by unfold CC.tog; rw [h1]; rfl)
    have H1 := Lib.hid h1
    clear h1
    go_enter Try.func20, Try.ntmps20
    go_wp2_with (go_at_call 35; refine (cleads_any a b H.out ha hb).mono ?_; rintro e w' ⟨rfl, rfl⟩; rw [H1.out])
    go_ret
    exact ⟨by rw [HE.out]; rfl, rfl⟩
  · have H1 := Lib.hid h1
    obtain ⟨z, hz⟩ : ∃ z, z = L b a := ⟨_, rfl⟩
    have HE := Lib.hid (show CC.tog L a b = z by unfold CC.tog; rw [h1, hz]; rfl)
    have HZ := Lib.hid hz
    clear h1 hz
    go_enter Try.func20, Try.ntmps20
    go_wp2_with fail
    refine (cleads_any a b H.out ha hb).mono ?_
    rintro e w' ⟨rfl, rfl⟩
    rw [H1.out]
    go_wp2_with fail
    refine (cleads_any b a H.out hb ha).mono ?_
    rintro e w' ⟨rfl, rfl⟩
    rw [← HZ.out]
    go_wp2_with fail
    go_ret
    exact ⟨by rw [HE.out]; rfl, rfl⟩

/-- what the closures of Groups have in their variables -/
structure GrpM (n₀ : Nat) (W : World) (xb lb gb wb tb cb n : Nat) (L : Nat → Nat → Bool) (T : Nat → Bool) : Prop where
  size : ∃ va vc, W.cell? ⟨xb, 0, none⟩ = some (.slice va n vc)
  lead : W.cell? ⟨lb, 0, none⟩ = some (.func (.func 35) #[] #[.pointer (some ⟨cb, 0, none⟩)])
  toge : W.cell? ⟨gb, 0, none⟩ = some (.func (.func 20) #[] #[.pointer (some ⟨lb, 0, none⟩)])
  wait : W.cell? ⟨wb, 0, none⟩ = some (.func (.func 21) #[] #[.pointer (some ⟨xb, 0, none⟩), .pointer (some ⟨lb, 0, none⟩), .pointer (some ⟨tb, 0, none⟩), .pointer (some ⟨gb, 0, none⟩)])
  tab : LeadM n₀ W cb n L
  told : W.rowIs tb 36 256 (fun i => .bool (T i))

theorem waits_cons {L : Nat → Nat → Bool} {n : Nat} {T : Nat → Bool} {a b : Nat} (hb : b < n) (h : (L a b && !T b && !CC.tog L a b) = true) : CC.waitsB L n T a = true := List.any_eq_true.2 ⟨b, List.mem_range.2 hb, h⟩
theorem waits_none {L : Nat → Nat → Bool} {n : Nat} {T : Nat → Bool} {a : Nat} (h : ∀ b, b < n → (L a b && !T b && !CC.tog L a b) = false) : CC.waitsB L n T a = false := by
  unfold CC.waitsB
  rw [List.any_eq_false]
  intro b hb
  rw [h b (List.mem_range.1 hb)]
  decide

set_option maxRecDepth 100000 in
set_option maxHeartbeats 3200000 in
theorem cwaits_any {n₀ : Nat} {W : World} {xb lb gb wb tb cb n : Nat} {L : Nat → Nat → Bool} {T : Nat → Bool} (a : Nat) (h : GrpM n₀ W xb lb gb wb tb cb n L T) (ha : a < n) (hn : n ≤ 256) :
    Calls Try.prog 21 #[.int .i64 a, .pointer (some ⟨xb, 0, none⟩), .pointer (some ⟨lb, 0, none⟩), .pointer (some ⟨tb, 0, none⟩), .pointer (some ⟨gb, 0, none⟩)] W fun e w' => e = .returned (.bool (CC.waitsB L n T a)) ∧ w' = W := by
  obtain ⟨va, vc, hx⟩ := h.size
  have hl := h.lead
  have hg := h.toge
  have H := Lib.hid h
  clear h
  go_enter Try.func21, Try.ntmps21
  go_wp2_with fail
  go_loopw [10] (fun k wr => ∃ i : Nat, i ≤ n ∧ k = .int .i64 (i : Int) ∧ W = wr ∧ RowKit.Hid (∀ b, b < i → (L a b && !T b && !CC.tog L a b) = false)) (fun k _ => n - (intOf k).toNat)
  case atStart => exact ⟨0, by omega, rfl, rfl, Lib.hid (fun b hb => absurd hb (Nat.not_lt_zero _))⟩
  case round =>
    obtain ⟨i, hi, rfl, rfl, HI⟩ := hrel
    by_cases hlt : i < n
    · have j1 : decide ((i : Int) < (n : Int)) = true := decide_eq_true (by omega)
      have hT := World.rowIs.cell H.out.told (show i < 256 by omega)
      have i1 : (0 : Int) ≤ i ∧ (i : Int) < 256 := by omega
      cases h1 : L a i
      · have H1 := Lib.hid h1
        have HN := Lib.hid (show (L a i && !T i && !CC.tog L a i) = false by rw [h1]; rfl)
        clear h1
        go_wp2_with (go_at_call 35; refine (cleads_any a i H.out.tab ha hlt).mono ?_; rintro e w' ⟨rfl, rfl⟩; rw [H1.out])
        go_roundw
        case rel => exact ⟨i + 1, by omega, by go_num, by first | rfl | trivial, Lib.hid (fun b hb => by by_cases e : b = i; rw [e]; exact HN.out; exact HI.out b (by omega))⟩
        case measure => simp [intOf]; omega
      · have H1 := Lib.hid h1
        cases h2 : T i
        · rw [h2] at hT
          obtain ⟨z, hz⟩ : ∃ z, z = CC.tog L a i := ⟨_, rfl⟩
          have HZ := Lib.hid hz
          cases z
          · have HY := Lib.hid (waits_cons (T := T) hlt (show (L a i && !T i && !CC.tog L a i) = true by rw [h1, h2, ← hz]; rfl))
            clear h1 h2 hz
            go_wp2_with (first
              | (go_at_call 20; refine (ctog_any a i H.out.tab hl ha hlt).mono ?_; rintro e w' ⟨rfl, rfl⟩; rw [← HZ.out])
              | (go_at_call 35; refine (cleads_any a i H.out.tab ha hlt).mono ?_; rintro e w' ⟨rfl, rfl⟩; rw [H1.out]))
            go_ret
            exact ⟨by rw [HY.out]; rfl, rfl⟩
          · have HN := Lib.hid (show (L a i && !T i && !CC.tog L a i) = false by rw [← hz]; simp)
            clear h1 h2 hz
            go_wp2_with (first
              | (go_at_call 20; refine (ctog_any a i H.out.tab hl ha hlt).mono ?_; rintro e w' ⟨rfl, rfl⟩; rw [← HZ.out])
              | (go_at_call 35; refine (cleads_any a i H.out.tab ha hlt).mono ?_; rintro e w' ⟨rfl, rfl⟩; rw [H1.out]))
            go_roundw
            case rel => exact ⟨i + 1, by omega, by go_num, by first | rfl | trivial, Lib.hid (fun b hb => by by_cases e : b = i; rw [e]; exact HN.out; exact HI.out b (by omega))⟩
            case measure => simp [intOf]; omega
        · rw [h2] at hT
          have HN := Lib.hid (show (L a i && !T i && !CC.tog L a i) = false by rw [h2]; simp)
          clear h1 h2
          go_wp2_with (go_at_call 35; refine (cleads_any a i H.out.tab ha hlt).mono ?_; rintro e w' ⟨rfl, rfl⟩; rw [H1.out])
          go_roundw
          case rel => exact ⟨i + 1, by omega, by go_num, by first | rfl | trivial, Lib.hid (fun b hb => by by_cases e : b = i; rw [e]; exact HN.out; exact HI.out b (by omega))⟩
          case measure => simp [intOf]; omega
    · have j1 : decide ((i : Int) < (n : Int)) = false := decide_eq_false (by omega)
      have HE := Lib.hid (waits_none (n := n) (fun b hb => HI.out b (by omega)))
      clear HI
      go_wp2_with fail
      go_ret
      exact ⟨by rw [HE.out]; rfl, rfl⟩

set_option maxRecDepth 100000 in
set_option maxHeartbeats 1600000 in
theorem cnext_any {n₀ : Nat} {W : World} {xb lb gb wb tb cb n : Nat} {L : Nat → Nat → Bool} {T : Nat → Bool} (a : Nat) (h : GrpM n₀ W xb lb gb wb tb cb n L T) (ha : a < n) (hn : n ≤ 256) :
    Calls Try.prog 22 #[.int .i64 a, .pointer (some ⟨tb, 0, none⟩), .pointer (some ⟨wb, 0, none⟩)] W fun e w' => e = .returned (.bool (CC.freeB L n T a)) ∧ w' = W := by
  have hw := h.wait
  have hT := World.rowIs.cell h.told (show a < 256 by omega)
  have i1 : (0 : Int) ≤ a ∧ (a : Int) < 256 := by omega
  have H := Lib.hid h
  clear h
  cases h1 : T a
  · rw [h1] at hT
    obtain ⟨z, hz⟩ : ∃ z, z = CC.waitsB L n T a := ⟨_, rfl⟩
    have HZ := Lib.hid hz
    have HE := Lib.hid (show CC.freeB L n T a = !z by unfold CC.freeB; rw [h1, hz]; rfl)
    clear h1 hz
    go_enter Try.func22, Try.ntmps22
    go_wp2_with (go_at_call 21; refine (cwaits_any a H.out ha hn).mono ?_; rintro e w' ⟨rfl, rfl⟩; rw [← HZ.out])
    go_ret
    exact ⟨by rw [HE.out]; rfl, rfl⟩
  · rw [h1] at hT
    have HE := Lib.hid (show CC.freeB L n T a = false by unfold CC.freeB; rw [h1]; rfl)
    clear h1
    go_enter Try.func22, Try.ntmps22
    go_wp2_with fail
    go_ret
    exact ⟨by rw [HE.out]; rfl, rfl⟩

theorem next_hit {L : Nat → Nat → Bool} {n : Nat} {T : Nat → Bool} {k : Nat} (hk : k < n) (hp : CC.freeB L n T k = true) (hno : ∀ j, j < k → CC.freeB L n T j = false) : CC.nextO L n T = some k := by
  have h := GG.firstN_hit hk hp hno
  unfold GG.firstN at h
  unfold CC.nextO
  cases e : (List.range n).find? (CC.freeB L n T) with
  | none => rw [e] at h; have h : (-1 : Int) = k := h; omega
  | some j => rw [e] at h; have h : (j : Int) = k := h; congr 1; omega
theorem next_none {L : Nat → Nat → Bool} {n : Nat} {T : Nat → Bool} (hno : ∀ j, j < n → CC.freeB L n T j = false) : CC.nextO L n T = none := by
  unfold CC.nextO
  rw [List.find?_eq_none]
  intro x hx
  rw [hno x (List.mem_range.1 hx)]
  decide
def firstE (o : Option Nat) : Ending := match o with | some a => .returned (.tuple #[.int .i64 (a : Int), .bool true]) | none => .returned (.tuple #[.int .i64 0, .bool false])

set_option maxRecDepth 100000 in
set_option maxHeartbeats 1600000 in
theorem cfirst_any {n₀ : Nat} {W : World} {xb lb gb wb tb cb n : Nat} {L : Nat → Nat → Bool} {T : Nat → Bool} (h : GrpM n₀ W xb lb gb wb tb cb n L T) (hn : n ≤ 256) :
    Calls Try.prog 23 #[.int .i64 n, .func (.func 22) #[] #[.pointer (some ⟨tb, 0, none⟩), .pointer (some ⟨wb, 0, none⟩)]] W fun e w' => e = firstE (CC.nextO L n T) ∧ w' = W := by
  have H := Lib.hid h
  clear h
  go_enter Try.func23, Try.ntmps23
  go_wp2_with fail
  go_loopw [8] (fun k wr => ∃ i : Nat, i ≤ n ∧ k = .int .i64 (i : Int) ∧ W = wr ∧ RowKit.Hid (∀ b, b < i → CC.freeB L n T b = false)) (fun k _ => n - (intOf k).toNat)
  case atStart => exact ⟨0, by omega, rfl, rfl, Lib.hid (fun b hb => absurd hb (Nat.not_lt_zero _))⟩
  case round =>
    obtain ⟨i, hi, rfl, rfl, HI⟩ := hrel
    by_cases hlt : i < n
    · have j1 : decide ((i : Int) < (n : Int)) = true := decide_eq_true (by omega)
      cases h1 : CC.freeB L n T i
      · have H1 := Lib.hid h1
        clear h1
        go_wp2_with (go_at_call 22; refine (cnext_any i H.out hlt hn).mono ?_; rintro e w' ⟨rfl, rfl⟩; rw [H1.out])
        go_roundw
        case rel => exact ⟨i + 1, by omega, by go_num, by first | rfl | trivial, Lib.hid (fun b hb => by by_cases e : b = i; rw [e]; exact H1.out; exact HI.out b (by omega))⟩
        case measure => simp [intOf]; omega
      · have H1 := Lib.hid h1
        have HE := Lib.hid (next_hit hlt h1 HI.out)
        clear h1
        go_wp2_with (go_at_call 22; refine (cnext_any i H.out hlt hn).mono ?_; rintro e w' ⟨rfl, rfl⟩; rw [H1.out])
        go_ret2
        exact ⟨by rw [HE.out]; rfl, rfl⟩
    · have j1 : decide ((i : Int) < (n : Int)) = false := decide_eq_false (by omega)
      have HE := Lib.hid (next_none (L := L) (T := T) (n := n) (fun b hb => HI.out b (by omega)))
      clear HI
      go_wp2_with fail
      go_ret2
      exact ⟨by rw [HE.out]; rfl, rfl⟩
end Go.Proofs.Ytbelhoeailjkkaa
