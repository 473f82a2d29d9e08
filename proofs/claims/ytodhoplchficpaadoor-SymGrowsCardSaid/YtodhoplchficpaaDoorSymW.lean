import Derived.Test.YtodhoplchficpaaDoorSymH
set_option linter.unusedSimpArgs false
set_option linter.unusedVariables false
/-! sym, plain: a call within a call; higher args -/
namespace Go.Proofs.YtodhoplchficpaaDoor
open Go.RowKit
open SV (Lab SysOk Least labs sumOf mu sumP at' natsL askT askI fanN lok ljoin val le Bnd)
def allI : Int := 18446744073709551615
theorem allI_has (k : Nat) : MM.hasB allI (k : Int) = decide (k < 64) := by
  by_cases h : k < 64
  · rw [MM.hasB_nat allI k h, decide_eq_true h]
    show (18446744073709551615 : Nat).testBit k = true
    rw [show (18446744073709551615 : Nat) = 2 ^ 64 - 1 by decide, Nat.testBit_two_pow_sub_one]
    exact decide_eq_true h
  · rw [decide_eq_false h]
    exact MM.has_out _ _ (by omega)
theorem or_all {m : Int} (h0 : 0 ≤ m) (h1 : m ≤ 18446744073709551615) : bits .or .u64 m allI = allI := by
  have hb := LL.or_bd5 m allI h0 h1 (by decide) (by decide)
  refine LL.mask_ext _ _ hb.1 hb.2 (by decide) (by decide) fun k => ?_
  rw [LL.or_has m allI k h0 h1 (by decide) (by decide), allI_has]
  by_cases h : k < 64
  · rw [decide_eq_true h, Bool.or_true]
  · rw [MM.has_out _ _ (by omega)]; simp [h]
theorem lok_all {xs : List Int} {x : Nat} (hx : x < xs.length) : lok xs (x, allI) := ⟨hx, by show (0 : Int) ≤ allI; decide, by show allI ≤ _; decide⟩
theorem lev_le {xs : List Int} (hr : LL.rightB xs = true) (hw : Wide xs) {l : Lab} (hl : lok xs l) {x : Nat} (hx : x < xs.length) : le (labs xs hr hw) l (x, allI) ↔ LL.ab xs l.1 x = true := by
  rw [le_iff hr hw hl (lok_all hx)]
  unfold lleqB
  rw [or_all hl.2.1 hl.2.2]
  simp
/-- at or below which levels the level of what is put is -/
theorem put_lev {xs : List Int} {a m : Int} {args : List (Int × Int)} {pc : Int × Int} (h : PutOk xs a m args pc) (hw : Wide xs) (hwa : WideL args) (hwp : 0 ≤ pc.2 ∧ pc.2 ≤ 18446744073709551615) {x : Nat} (hx : x < xs.length) :
    LL.ab xs (putJ xs a m args pc).1 x = true ↔ LL.ab xs a.toNat x = true ∧ ∀ i ∈ MM.bitsOf m, LL.ab xs (actual args pc i).1 x = true := by
  rw [← lev_le h.right hw (putJ_ok h hw hwa hwp) hx, putJ_le h hw hwa hwp (lok_all hx), lev_le h.right hw h.lok0 hx]
  constructor
  · rintro ⟨h1, h2⟩
    exact ⟨h1, fun i hi => (lev_le h.right hw (h.actual hwa hwp (h.fit i hi)) hx).1 (h2 i hi)⟩
  · rintro ⟨h1, h2⟩
    exact ⟨h1, fun i hi => (lev_le h.right hw (h.actual hwa hwp (h.fit i hi)) hx).2 (h2 i hi)⟩
theorem lev_one {xs : List Int} (hr : LL.rightB xs = true) {u v : Nat} (hu : u < xs.length) (hv : v < xs.length) (h : ∀ x, x < xs.length → (LL.ab xs u x = true ↔ LL.ab xs v x = true)) : u = v :=
  LL.le_anti hr hu ((h v hv).2 (LL.le_refl5 hr hv)) ((h u hu).1 (LL.le_refl5 hr hu))
/-- a label's level, with levels for what comes in -/
def lowI (xs : List Int) (bs : List Int) (q : Int) (p : Int × Int) : Int := ((putJ xs p.1 p.2 (lows bs) (q, 0)).1 : Int)
def lowsI (xs : List Int) (bs : List Int) (q : Int) (args : List (Int × Int)) : List Int := args.map (lowI xs bs q)
theorem lowsI_len (xs bs : List Int) (q : Int) (args : List (Int × Int)) : (lowsI xs bs q args).length = args.length := by simp [lowsI]
theorem lowsI_at {xs bs : List Int} {q : Int} {args : List (Int × Int)} {i : Nat} (hi : i < args.length) : (lowsI xs bs q args)[i]?.getD 0 = lowI xs bs q (args[i]?.getD s0) := by
  unfold lowsI
  rw [List.getElem?_map, List.getElem?_eq_getElem hi]
  rfl
/-- the label that a bit stands for, as it came in -/
def actI (args : List (Int × Int)) (pc : Int × Int) (i : Nat) : Int × Int := if i = 6 then pc else args[i]?.getD s0
theorem actual_I {args : List (Int × Int)} {pc : Int × Int} {i : Nat} (hi : i < args.length ∨ i = 6) : actual args pc i = ((actI args pc i).1.toNat, (actI args pc i).2) := by
  unfold actual actI
  by_cases h : i = 6
  · rw [if_pos h, if_pos h]
  · rw [if_neg h, if_neg h, natL_at (by omega)]
theorem bz : 0 ≤ ((0 : Int)) ∧ (0 : Int) ≤ 18446744073709551615 := by decide
/-- what is put twice is put by what was put -/
theorem twice_all {xs : List Int} (hw : Wide xs) {a m : Int} {args : List (Int × Int)} {pc : Int × Int} {bs : List Int} {q : Int} (h : PutOk xs a m args pc) (hwa : WideL args) (hwp : 0 ≤ pc.2 ∧ pc.2 ≤ 18446744073709551615)
    (ha : ∀ i, i < args.length → putB xs (args[i]?.getD s0).1 (args[i]?.getD s0).2 (lows bs) (q, 0) = true) (hp : putB xs pc.1 pc.2 (lows bs) (q, 0) = true) :
    putB xs ((putJ xs a m args pc).1 : Int) (putJ xs a m args pc).2 (lows bs) (q, 0) = true ∧ putB xs a m (lows (lowsI xs bs q args)) (lowI xs bs q pc, 0) = true ∧
      ((putJ xs ((putJ xs a m args pc).1 : Int) (putJ xs a m args pc).2 (lows bs) (q, 0)).1 : Int) = ((putJ xs a m (lows (lowsI xs bs q args)) (lowI xs bs q pc, 0)).1 : Int) := by
  have hpo := putB_iff.1 hp
  have hact : ∀ i, i < args.length ∨ i = 6 → PutOk xs (actI args pc i).1 (actI args pc i).2 (lows bs) (q, 0) := fun i hi => by
    unfold actI
    by_cases e : i = 6
    · rw [if_pos e]; exact hpo
    · rw [if_neg e]; exact putB_iff.1 (ha i (by omega))
  have hmk : ∀ i, i < args.length ∨ i = 6 → 0 ≤ (actI args pc i).2 ∧ (actI args pc i).2 ≤ 18446744073709551615 := fun i hi => by
    unfold actI
    by_cases e : i = 6
    · rw [if_pos e]; exact hwp
    · rw [if_neg e]; exact hwa _ (GG.getD_mem (d := s0) (by omega))
  have hPok := putJ_ok h hw hwa hwp
  have hlowok : ∀ i, i < args.length ∨ i = 6 → lok xs (putJ xs (actI args pc i).1 (actI args pc i).2 (lows bs) (q, 0)) := fun i hi => putJ_ok (hact i hi) hw (lows_wide bs) bz
  -- what P's mask has
  have hbits : ∀ j, j ∈ MM.bitsOf (putJ xs a m args pc).2 ↔ ∃ i ∈ MM.bitsOf m, j ∈ MM.bitsOf (actI args pc i).2 := fun j => by
    rw [mem_bits, putJ_has h hw hwa hwp]
    constructor
    · rintro ⟨i, hi, hj⟩
      rw [actual_I (h.fit i hi)] at hj
      exact ⟨i, hi, mem_bits.2 hj⟩
    · rintro ⟨i, hi, hj⟩
      exact ⟨i, hi, by rw [actual_I (h.fit i hi)]; exact mem_bits.1 hj⟩
  have h1 : PutOk xs ((putJ xs a m args pc).1 : Int) (putJ xs a m args pc).2 (lows bs) (q, 0) :=
    ⟨hpo.n6, fun j hj => by
      obtain ⟨i, hi, hj2⟩ := (hbits j).1 hj
      exact (hact i (h.fit i hi)).fit j hj2, h.right, by have := hPok.1; omega, hpo.place, hpo.args⟩
  have hlen : (lows (lowsI xs bs q args)).length = args.length := by rw [lows_len, lowsI_len]
  have h2 : PutOk xs a m (lows (lowsI xs bs q args)) (lowI xs bs q pc, 0) :=
    ⟨by rw [hlen]; exact h.n6, fun i hi => by rw [hlen]; exact h.fit i hi, h.right, h.lev, by
      have := (hlowok 6 (.inr rfl)).1
      unfold actI at this
      rw [if_pos rfl] at this
      show 0 ≤ lowI xs bs q pc ∧ lowI xs bs q pc < xs.length
      unfold lowI
      omega, fun i hi => by
      rw [hlen] at hi
      rw [lows_at (by rw [lowsI_len]; exact hi), lowsI_at hi]
      have h3 := putJ_ok (putB_iff.1 (ha i hi)) hw (lows_wide bs) bz
      have := h3.1
      show 0 ≤ lowI xs bs q (args[i]?.getD s0) ∧ lowI xs bs q (args[i]?.getD s0) < xs.length
      unfold lowI
      omega⟩
  refine ⟨putB_iff.2 h1, putB_iff.2 h2, ?_⟩
  have hact2 : ∀ i, i < args.length ∨ i = 6 → (actual (lows (lowsI xs bs q args)) (lowI xs bs q pc, 0) i).1 = (putJ xs (actI args pc i).1 (actI args pc i).2 (lows bs) (q, 0)).1 := fun i hi => by
    rw [actual_I (by rw [hlen]; exact hi)]
    unfold actI
    by_cases e : i = 6
    · rw [if_pos e, if_pos e]
      show (lowI xs bs q pc).toNat = _
      unfold lowI
      omega
    · rw [if_neg e, if_neg e, lows_at (by rw [lowsI_len]; omega), lowsI_at (by omega)]
      show (lowI xs bs q (args[i]?.getD s0)).toNat = _
      unfold lowI
      omega
  have hu := (putJ_ok h1 hw (lows_wide bs) bz).1
  have hv := (putJ_ok h2 hw (lows_wide _) bz).1
  have := lev_one h.right hu hv fun x hx => by
    rw [put_lev h1 hw (lows_wide bs) bz hx, put_lev h2 hw (lows_wide _) bz hx, Int.toNat_natCast, put_lev h hw hwa hwp hx]
    constructor
    · rintro ⟨⟨g1, g2⟩, g3⟩
      refine ⟨g1, fun i hi => ?_⟩
      rw [hact2 i (h.fit i hi), put_lev (hact i (h.fit i hi)) hw (lows_wide bs) bz hx]
      refine ⟨?_, fun j hj => g3 j ((hbits j).2 ⟨i, hi, hj⟩)⟩
      have := g2 i hi
      rw [actual_I (h.fit i hi)] at this
      exact this
    · rintro ⟨g1, g2⟩
      have g4 := fun i (hi : i ∈ MM.bitsOf m) => (by
        have g := g2 i hi
        rw [hact2 i (h.fit i hi), put_lev (hact i (h.fit i hi)) hw (lows_wide bs) bz hx] at g
        exact g : LL.ab xs (actI args pc i).1.toNat x = true ∧ ∀ j ∈ MM.bitsOf (actI args pc i).2, LL.ab xs (actual (lows bs) (q, 0) j).1 x = true)
      refine ⟨⟨g1, fun i hi => ?_⟩, fun j hj => ?_⟩
      · rw [actual_I (h.fit i hi)]; exact (g4 i hi).1
      · obtain ⟨i, hi, hj2⟩ := (hbits j).1 hj
        exact (g4 i hi).2 j hj2
  omega
end Go.Proofs.YtodhoplchficpaaDoor
