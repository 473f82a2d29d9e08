import Derived.Test.YtodhoplchficpaaDoorSolBN
import Derived.Test.YtodhoplchficpaaDoorMaskS
set_option linter.unusedSimpArgs false
set_option linter.unusedVariables false
/-! sym, plain: what a label becomes where a function is called -/
namespace Go.Proofs.YtodhoplchficpaaDoor
open Go.RowKit
open SV (Lab SysOk Least labs sumOf mu sumP at' natsL askT askI fanN lok ljoin val le)
/-- has a mask no bit that stands for nothing among n parameters? -/
def bitsIn (m : Int) (n : Nat) : Bool := (List.range 64).all fun i => !MM.hasB m (i : Int) || (decide (i < n) || decide (i = 6))
def fitB (m : Int) (n : Nat) : Bool := decide (n ≤ 6) && bitsIn m n
theorem bitsIn_iff {m : Int} {n : Nat} : bitsIn m n = true ↔ ∀ i ∈ MM.bitsOf m, i < n ∨ i = 6 := by
  unfold bitsIn MM.bitsOf MM.upto
  simp only [List.all_eq_true, List.mem_range, Bool.or_eq_true, Bool.not_eq_true', decide_eq_true_eq, List.mem_filter]
  constructor
  · rintro h i ⟨hi, hm⟩
    rcases h i hi with h | h
    · rw [h] at hm; cases hm
    · exact h
  · intro h i hi
    cases hm : MM.hasB m (i : Int) with
    | false => exact .inl rfl
    | true => exact .inr (h i ⟨hi, hm⟩)
theorem bitsIn_67 (m : Int) : bitsIn m 7 = bitsIn m 6 := by
  rw [Bool.eq_iff_iff, bitsIn_iff, bitsIn_iff]
  constructor <;> intro h i hi <;> have := h i hi <;> omega
def fitMask (n : Nat) : Int := MM.withI (MM.belowI n) 6
theorem fitMask_bits : ∀ n, n ≤ 6 → ∀ i, i < 64 → (fitMask n).toNat.testBit i = (decide (i < n) || decide (i = 6)) := by
  decide +kernel
theorem fitMask_bd : ∀ n, n ≤ 6 → 0 ≤ fitMask n ∧ fitMask n ≤ 18446744073709551615 := by decide +kernel
theorem andNot_fit {m : Int} {n : Nat} (h0 : 0 ≤ m) (h1 : m ≤ 18446744073709551615) (hn : n ≤ 6) : (bits .andNot .u64 m (fitMask n) == 0) = bitsIn m n := by
  have hb := fitMask_bd n hn
  rw [u64_andNot m (fitMask n) h0 (by omega) hb.1 (by omega), Bool.eq_iff_iff, bitsIn_iff, beq_iff_eq]
  have hlt : (fitMask n).toNat < 2 ^ 64 := by omega
  constructor
  · intro h i hi
    have hi64 := MM.bits_lt m i hi
    have hz : m.toNat &&& (18446744073709551615 - (fitMask n).toNat) = 0 := by first | omega | (simpa using h)
    have ht := congrArg (fun x => x.testBit i) hz
    simp only [Nat.testBit_and, Nat.zero_testBit, MM.not_bits _ hlt i hi64, fitMask_bits n hn i hi64] at ht
    have hm : m.toNat.testBit i = true := by
      unfold MM.bitsOf MM.upto at hi
      have := (List.mem_filter.1 hi).2
      rwa [MM.hasB_nat m i hi64] at this
    rw [hm] at ht
    simp at ht
    omega
  · intro h
    have hz : m.toNat &&& (18446744073709551615 - (fitMask n).toNat) = 0 := by
      apply Nat.eq_of_testBit_eq
      intro i
      rw [Nat.testBit_and, Nat.zero_testBit]
      by_cases hi : i < 64
      · rw [MM.not_bits _ hlt i hi, fitMask_bits n hn i hi]
        cases hm : m.toNat.testBit i with
        | false => rfl
        | true =>
          have := h i (by unfold MM.bitsOf MM.upto; exact List.mem_filter.2 ⟨List.mem_range.2 hi, by rw [MM.hasB_nat m i hi]; exact hm⟩)
          rcases this with h2 | h2
          · rw [decide_eq_true h2]; rfl
          · rw [decide_eq_true h2]; simp
      · rw [Nat.testBit_lt_two_pow (Nat.lt_of_lt_of_le (show m.toNat < 2 ^ 64 by omega) (Nat.pow_le_pow_right (by decide) (by omega)))]
        rfl
    rw [hz]; rfl
/-- the joins of a label with those of some numbers -/
def foldJ (xs : List Int) (c : List Lab) (js : List Nat) (a : Lab) : Lab := js.foldl (fun v j => ljoin xs v (at' c j)) a
theorem foldJ_snoc (xs : List Int) (c : List Lab) (js : List Nat) (a : Lab) (j : Nat) : foldJ xs c (js ++ [j]) a = ljoin xs (foldJ xs c js a) (at' c j) := by
  unfold foldJ; rw [List.foldl_append]; rfl
theorem foldJ_app (xs : List Int) (c : List Lab) (js ks : List Nat) (a : Lab) : foldJ xs c (js ++ ks) a = foldJ xs c ks (foldJ xs c js a) := by
  unfold foldJ; rw [List.foldl_append]
theorem foldJ_congr {xs : List Int} {c d : List Lab} {js ks : List Nat} (h : js.length = ks.length) (he : ∀ i (hi : i < js.length), at' c js[i] = at' d (ks[i]'(h ▸ hi))) (a : Lab) : foldJ xs c js a = foldJ xs d ks a := by
  unfold foldJ
  induction js generalizing ks a with
  | nil => cases ks with
    | nil => rfl
    | cons k ks => simp at h
  | cons j js ih => cases ks with
    | nil => simp at h
    | cons k ks =>
      have h0 := he 0 (by simp)
      simp at h0
      simp only [List.foldl_cons, h0]
      exact ih (by simpa using h) (fun i hi => by have := he (i + 1) (by simp; omega); simpa using this) _
theorem foldJ_ok {xs : List Int} (hr : LL.rightB xs = true) (hw : Wide xs) {c : List Lab} {js : List Nat} {a : Lab} (ha : lok xs a) (hc : ∀ j ∈ js, lok xs (at' c j)) : lok xs (foldJ xs c js a) :=
  (SV.fold_val (M := labs xs hr hw) c js a ha hc).1
theorem foldJ_le {xs : List Int} (hr : LL.rightB xs = true) (hw : Wide xs) {c : List Lab} {js : List Nat} {a : Lab} (ha : lok xs a) (hc : ∀ j ∈ js, lok xs (at' c j)) {x : Lab} (hx : lok xs x) : le (labs xs hr hw) (foldJ xs c js a) x ↔ le (labs xs hr hw) a x ∧ ∀ j ∈ js, le (labs xs hr hw) (at' c j) x := by
  have h := SV.fold_val (M := labs xs hr hw) c js a ha hc
  constructor
  · intro hl
    exact ⟨SV.le_trans ha h.1 hx h.2.1 hl, fun j hj => SV.le_trans (hc j hj) h.1 hx (h.2.2.1 j hj) hl⟩
  · rintro ⟨h1, h2⟩
    exact h.2.2.2 x hx h1 h2
/-- which bits the mask of the joins has -/
theorem foldJ_has {xs : List Int} (hr : LL.rightB xs = true) (hw : Wide xs) {c : List Lab} {js : List Nat} {a : Lab} (ha : lok xs a) (hc : ∀ j ∈ js, lok xs (at' c j)) (k : Nat) : MM.hasB (foldJ xs c js a).2 (k : Int) = true ↔ MM.hasB a.2 (k : Int) = true ∨ ∃ j ∈ js, MM.hasB (at' c j).2 (k : Int) = true := by
  induction js generalizing a with
  | nil => simp [foldJ]
  | cons j js ih =>
    have hj := hc j (List.mem_cons_self ..)
    have hok : lok xs (ljoin xs a (at' c j)) := (labs xs hr hw).cl ha hj
    have h := ih (a := ljoin xs a (at' c j)) hok (fun i hi => hc i (List.mem_cons_of_mem _ hi))
    show MM.hasB (foldJ xs c js (ljoin xs a (at' c j))).2 (k : Int) = true ↔ _
    rw [h]
    show MM.hasB (bits .or .u64 a.2 (at' c j).2) (k : Int) = true ∨ _ ↔ _
    rw [LL.or_has a.2 (at' c j).2 k ha.2.1 ha.2.2 hj.2.1 hj.2.2, Bool.or_eq_true]
    simp only [List.mem_cons, exists_eq_or_imp]
    rw [or_assoc]
theorem mem_bits {m : Int} {i : Nat} : i ∈ MM.bitsOf m ↔ MM.hasB m (i : Int) = true := by
  unfold MM.bitsOf MM.upto
  rw [List.mem_filter, List.mem_range]
  exact ⟨fun h => h.2, fun h => ⟨LL.has_lt h, h⟩⟩
/-- where a bit's label stands -/
def stI (i : Nat) : Nat := if i = 6 then 1 else i + 2
/-- all labels: the level's, the place's, the args' -/
def putAll (a : Int) (pc : Int × Int) (args : List (Int × Int)) : List (Int × Int) := (a, 0) :: pc :: args
def putJ (xs : List Int) (a m : Int) (args : List (Int × Int)) (pc : Int × Int) : Lab := foldJ xs (natL (putAll a pc args)) ((MM.bitsOf m).map stI) (a.toNat, 0)
/-- may a label be put? -/
def putB (xs : List Int) (a m : Int) (args : List (Int × Int)) (pc : Int × Int) : Bool := fitB m args.length && (LL.rightB xs && (putAll a pc args).all (labOk xs.length))
/-- the label that a bit stands for -/
def actual (args : List (Int × Int)) (pc : Int × Int) (i : Nat) : Lab := if i = 6 then (pc.1.toNat, pc.2) else at' (natL args) i
theorem putAll_at (a : Int) (pc : Int × Int) (args : List (Int × Int)) (i : Nat) : at' (natL (putAll a pc args)) (stI i) = actual args pc i := by
  unfold stI actual
  by_cases h : i = 6
  · rw [if_pos h, if_pos h]; rfl
  · rw [if_neg h, if_neg h]
    unfold natL putAll at'
    simp
structure PutOk (xs : List Int) (a m : Int) (args : List (Int × Int)) (pc : Int × Int) : Prop where
  n6 : args.length ≤ 6
  fit : ∀ i ∈ MM.bitsOf m, i < args.length ∨ i = 6
  right : LL.rightB xs = true
  lev : 0 ≤ a ∧ a < xs.length
  place : 0 ≤ pc.1 ∧ pc.1 < xs.length
  args : ∀ i, i < args.length → 0 ≤ (args[i]?.getD s0).1 ∧ (args[i]?.getD s0).1 < xs.length
theorem putB_iff {xs : List Int} {a m : Int} {args : List (Int × Int)} {pc : Int × Int} : putB xs a m args pc = true ↔ PutOk xs a m args pc := by
  unfold putB fitB putAll
  simp only [Bool.and_eq_true, decide_eq_true_eq, bitsIn_iff, List.all_cons]
  constructor
  · rintro ⟨⟨h1, h2⟩, h3, h4, h5, h6⟩
    exact ⟨h1, h2, h3, by unfold labOk at h4; exact of_decide_eq_true h4, by unfold labOk at h5; exact of_decide_eq_true h5, fun i hi => lab_yes2 h6 hi⟩
  · rintro ⟨h1, h2, h3, h4, h5, h6⟩
    refine ⟨⟨h1, h2⟩, h3, by unfold labOk; exact decide_eq_true h4, by unfold labOk; exact decide_eq_true h5, ?_⟩
    rw [List.all_eq_true]
    intro p hp
    obtain ⟨i, hi, rfl⟩ := List.mem_iff_getElem.1 hp
    have := h6 i hi
    rw [List.getElem?_eq_getElem hi] at this
    unfold labOk
    exact decide_eq_true this
theorem PutOk.lok0 {xs : List Int} {a m : Int} {args : List (Int × Int)} {pc : Int × Int} (h : PutOk xs a m args pc) : lok xs ((a.toNat, 0) : Lab) :=
  ⟨by show a.toNat < xs.length; have := h.lev; omega, Int.le_refl 0, by show (0 : Int) ≤ 18446744073709551615; decide⟩
theorem PutOk.actual {xs : List Int} {a m : Int} {args : List (Int × Int)} {pc : Int × Int} (h : PutOk xs a m args pc) (hwa : WideL args) (hwp : 0 ≤ pc.2 ∧ pc.2 ≤ 18446744073709551615) {i : Nat} (hi : i < args.length ∨ i = 6) : lok xs (actual args pc i) := by
  unfold Go.Proofs.YtodhoplchficpaaDoor.actual
  by_cases h6 : i = 6
  · rw [if_pos h6]
    have := h.place
    exact ⟨by show pc.1.toNat < xs.length; omega, hwp⟩
  · rw [if_neg h6]
    have hi' : i < args.length := by omega
    rw [natL_at hi']
    have h1 := h.args i hi'
    have h2 := hwa _ (GG.getD_mem (d := s0) hi')
    exact ⟨by show (args[i]?.getD s0).1.toNat < xs.length; omega, h2⟩
theorem PutOk.all {xs : List Int} {a m : Int} {args : List (Int × Int)} {pc : Int × Int} (h : PutOk xs a m args pc) (hwa : WideL args) (hwp : 0 ≤ pc.2 ∧ pc.2 ≤ 18446744073709551615) : ∀ j ∈ (MM.bitsOf m).map stI, lok xs (at' (natL (putAll a pc args)) j) := by
  intro j hj
  obtain ⟨i, hi, rfl⟩ := List.mem_map.1 hj
  rw [putAll_at]
  exact h.actual hwa hwp (h.fit i hi)
theorem putJ_ok {xs : List Int} {a m : Int} {args : List (Int × Int)} {pc : Int × Int} (h : PutOk xs a m args pc) (hw : Wide xs) (hwa : WideL args) (hwp : 0 ≤ pc.2 ∧ pc.2 ≤ 18446744073709551615) : lok xs (putJ xs a m args pc) :=
  foldJ_ok h.right hw h.lok0 (h.all hwa hwp)
theorem putJ_le {xs : List Int} {a m : Int} {args : List (Int × Int)} {pc : Int × Int} (h : PutOk xs a m args pc) (hw : Wide xs) (hwa : WideL args) (hwp : 0 ≤ pc.2 ∧ pc.2 ≤ 18446744073709551615) {x : Lab} (hx : lok xs x) : le (labs xs h.right hw) (putJ xs a m args pc) x ↔ le (labs xs h.right hw) (a.toNat, 0) x ∧ ∀ i ∈ MM.bitsOf m, le (labs xs h.right hw) (actual args pc i) x := by
  unfold putJ
  rw [foldJ_le h.right hw h.lok0 (h.all hwa hwp) hx]
  constructor
  · rintro ⟨h1, h2⟩
    exact ⟨h1, fun i hi => by have := h2 (stI i) (List.mem_map.2 ⟨i, hi, rfl⟩); rwa [putAll_at] at this⟩
  · rintro ⟨h1, h2⟩
    refine ⟨h1, fun j hj => ?_⟩
    obtain ⟨i, hi, rfl⟩ := List.mem_map.1 hj
    rw [putAll_at]
    exact h2 i hi
theorem putJ_has {xs : List Int} {a m : Int} {args : List (Int × Int)} {pc : Int × Int} (h : PutOk xs a m args pc) (hw : Wide xs) (hwa : WideL args) (hwp : 0 ≤ pc.2 ∧ pc.2 ≤ 18446744073709551615) (k : Nat) : MM.hasB (putJ xs a m args pc).2 (k : Int) = true ↔ ∃ i ∈ MM.bitsOf m, MM.hasB (actual args pc i).2 (k : Int) = true := by
  unfold putJ
  rw [foldJ_has h.right hw h.lok0 (h.all hwa hwp)]
  constructor
  · rintro (h1 | ⟨j, hj, h1⟩)
    · exfalso
      have : MM.hasB 0 (k : Int) = false := by unfold MM.hasB; simp
      rw [show (((a.toNat, 0) : Lab).2) = 0 from rfl, this] at h1
      cases h1
    · obtain ⟨i, hi, rfl⟩ := List.mem_map.1 hj
      rw [putAll_at] at h1
      exact ⟨i, hi, h1⟩
  · rintro ⟨i, hi, h1⟩
    exact .inr ⟨stI i, List.mem_map.2 ⟨i, hi, rfl⟩, by rw [putAll_at]; exact h1⟩
/-- what the reference does: the args of bits, then the place -/
def refT (xs : List Int) (a m : Int) (args : List (Int × Int)) (k : Nat) : Lab := foldJ xs (natL args) (MM.upto m k) (a.toNat, 0)
def refJ (xs : List Int) (a m : Int) (args : List (Int × Int)) (pc : Int × Int) : Lab := if MM.hasB m 6 = true then ljoin xs (refT xs a m args args.length) (pc.1.toNat, pc.2) else refT xs a m args args.length
theorem refT_yes {xs : List Int} {a m : Int} {args : List (Int × Int)} {k : Nat} (h : MM.hasB m (k : Int) = true) : refT xs a m args (k + 1) = ljoin xs (refT xs a m args k) (at' (natL args) k) := by
  unfold refT; rw [MM.upto_yes m k h, foldJ_snoc]
theorem refT_no {xs : List Int} {a m : Int} {args : List (Int × Int)} {k : Nat} (h : MM.hasB m (k : Int) = false) : refT xs a m args (k + 1) = refT xs a m args k := by
  unfold refT; rw [MM.upto_no m k h]
theorem upto_actual {xs : List Int} {m a : Int} {args : List (Int × Int)} {pc : Int × Int} {k : Nat} (hk : k ≤ 6) (v : Lab) : foldJ xs (natL (putAll a pc args)) ((MM.upto m k).map stI) v = foldJ xs (natL args) (MM.upto m k) v := by
  refine foldJ_congr (by simp) (fun i hi => ?_) v
  simp only [List.length_map] at hi
  rw [List.getElem_map, putAll_at]
  unfold actual
  have hm : (MM.upto m k)[i] ∈ MM.upto m k := List.getElem_mem hi
  unfold MM.upto at hm
  have := List.mem_range.1 (List.mem_filter.1 hm).1
  have h6 : (MM.upto m k)[i] < 6 := by unfold MM.upto; omega
  rw [if_neg (by omega)]
theorem putJ_ref {xs : List Int} {a m : Int} {args : List (Int × Int)} {pc : Int × Int} (h6 : args.length ≤ 6) (hf : ∀ i ∈ MM.bitsOf m, i < args.length ∨ i = 6) : putJ xs a m args pc = refJ xs a m args pc := by
  have hno : ∀ j : Nat, j < 64 → ¬ (j < args.length ∨ j = 6) → MM.hasB m (j : Int) = false := fun j hj hn => by
    cases hc : MM.hasB m (j : Int) with
    | false => rfl
    | true => exact absurd (hf j (mem_bits.2 hc)) hn
  have e1 : MM.bitsOf m = MM.upto m 7 := MM.upto_skip m 7 64 (by omega) (fun j h1 h2 => hno j h2 (by omega))
  have e2 : MM.upto m 6 = MM.upto m args.length := MM.upto_skip m args.length 6 h6 (fun j h1 h2 => hno j (by omega) (by omega))
  unfold putJ refJ refT
  rw [e1]
  cases hc : MM.hasB m 6 with
  | false =>
    rw [MM.upto_no m 6 (by exact hc), e2, upto_actual h6]
    rfl
  | true =>
    rw [MM.upto_yes m 6 (by exact hc), e2, List.map_append, foldJ_app, upto_actual h6, if_pos rfl]
    show ljoin xs _ (at' (natL (putAll a pc args)) (stI 6)) = _
    rw [putAll_at]
    rfl
/-- labels that are levels alone -/
def lows (l : List Int) : List (Int × Int) := l.map fun a => (a, 0)
theorem lows_len (l : List Int) : (lows l).length = l.length := by simp [lows]
theorem lows_wide (l : List Int) : WideL (lows l) := by
  intro p hp
  obtain ⟨a, _, rfl⟩ := List.mem_map.1 hp
  exact ⟨Int.le_refl 0, by show (0 : Int) ≤ _; decide⟩
theorem lows_at {l : List Int} {i : Nat} (h : i < l.length) : (lows l)[i]?.getD s0 = (l[i]?.getD 0, 0) := by
  unfold lows
  rw [List.getElem?_map, List.getElem?_eq_getElem h]
  rfl
theorem lows_snoc (l : List Int) (a : Int) : lows (l ++ [a]) = lows l ++ [(a, 0)] := by simp [lows]
end Go.Proofs.YtodhoplchficpaaDoor
