import Derived.Test.YtodhoplchficpaaDoorSymC
import Derived.Test.YtodhoplchficpaaDoorSymH
set_option linter.unusedSimpArgs false
set_option linter.unusedVariables false
/-! sym, plain: a call within a call; higher args -/
namespace Go.Proofs.YtodhoplchficpaaDoor
open Go.RowKit
open SV (Lab SysOk Least labs sumOf mu sumP at' natsL askT askI fanN lok ljoin val le Bnd)
def allI : Int := 18446744073709551615
theorem allI_has (k : Nat) : MM.hasB allI (k : Int) = decide (k < 64) := by
  by_cases h : k < 64
  · rw [MM.hasB_nat allI k h, decide_eq_true h]
    show (18446744073709551615 : Nat).testBit k = true
    rw [show (18446744073709551615 : Nat) = 2 ^ 64 - 1 by decide, Nat.testBit_two_pow_sub_one]
    exact decide_eq_true h
  · rw [decide_eq_false h]
    exact MM.has_out _ _ (by omega)
theorem or_all {m : Int} (h0 : 0 ≤ m) (h1 : m ≤ 18446744073709551615) : bits .or .u64 m allI = allI := by
  have hb := LL.or_bd5 m allI h0 h1 (by decide) (by decide)
  refine LL.mask_ext _ _ hb.1 hb.2 (by decide) (by decide) fun k => ?_
  rw [LL.or_has m allI k h0 h1 (by decide) (by decide), allI_has]
  by_cases h : k < 64
  · rw [decide_eq_true h, Bool.or_true]
  · rw [MM.has_out _ _ (by omega)]; simp [h]
theorem lok_all {xs : List Int} {x : Nat} (hx : x < xs.length) : lok xs (x, allI) := ⟨hx, by show (0 : Int) ≤ allI; decide, by show allI ≤ _; decide⟩
theorem lev_le {xs : List Int} (hr : LL.rightB xs = true) (hw : Wide xs) {l : Lab} (hl : lok xs l) {x : Nat} (hx : x < xs.length) : le (labs xs hr hw) l (x, allI) ↔ LL.ab xs l.1 x = true := by
  rw [le_iff hr hw hl (lok_all hx)]
  unfold lleqB
  rw [or_all hl.2.1 hl.2.2]
  simp
/-- at or below which levels the level of what is put is -/
theorem put_lev {xs : List Int} {a m : Int} {args : List (Int × Int)} {pc : Int × Int} (h : PutOk xs a m args pc) (hw : Wide xs) (hwa : WideL args) (hwp : 0 ≤ pc.2 ∧ pc.2 ≤ 18446744073709551615) {x : Nat} (hx : x < xs.length) :
    LL.ab xs (putJ xs a m args pc).1 x = true ↔ LL.ab xs a.toNat x = true ∧ ∀ i ∈ MM.bitsOf m, LL.ab xs (actual args pc i).1 x = true := by
  rw [← lev_le h.right hw (putJ_ok h hw hwa hwp) hx, putJ_le h hw hwa hwp (lok_all hx), lev_le h.right hw h.lok0 hx]
  constructor
  · rintro ⟨h1, h2⟩
    exact ⟨h1, fun i hi => (lev_le h.right hw (h.actual hwa hwp (h.fit i hi)) hx).1 (h2 i hi)⟩
  · rintro ⟨h1, h2⟩
    exact ⟨h1, fun i hi => (lev_le h.right hw (h.actual hwa hwp (h.fit i hi)) hx).2 (h2 i hi)⟩
theorem lev_one {xs : List Int} (hr : LL.rightB xs = true) {u v : Nat} (hu : u < xs.length) (hv : v < xs.length) (h : ∀ x, x < xs.length → (LL.ab xs u x = true ↔ LL.ab xs v x = true)) : u = v :=
  LL.le_anti hr hu ((h v hv).2 (LL.le_refl5 hr hv)) ((h u hu).1 (LL.le_refl5 hr hu))
/-- a label's level, with levels for what comes in -/
def lowI (xs : List Int) (bs : List Int) (q : Int) (p : Int × Int) : Int := ((putJ xs p.1 p.2 (lows bs) (q, 0)).1 : Int)
def lowsI (xs : List Int) (bs : List Int) (q : Int) (args : List (Int × Int)) : List Int := args.map (lowI xs bs q)
theorem lowsI_len (xs bs : List Int) (q : Int) (args : List (Int × Int)) : (lowsI xs bs q args).length = args.length := by simp [lowsI]
theorem lowsI_at {xs bs : List Int} {q : Int} {args : List (Int × Int)} {i : Nat} (hi : i < args.length) : (lowsI xs bs q args)[i]?.getD 0 = lowI xs bs q (args[i]?.getD s0) := by
  unfold lowsI
  rw [List.getElem?_map, List.getElem?_eq_getElem hi]
  rfl
/-- the label that a bit stands for, as it came in -/
def actI (args : List (Int × Int)) (pc : Int × Int) (i : Nat) : Int × Int := if i = 6 then pc else args[i]?.getD s0
theorem actual_I {args : List (Int × Int)} {pc : Int × Int} {i : Nat} (hi : i < args.length ∨ i = 6) : actual args pc i = ((actI args pc i).1.toNat, (actI args pc i).2) := by
  unfold actual actI
  by_cases h : i = 6
  · rw [if_pos h, if_pos h]
  · rw [if_neg h, if_neg h, natL_at (by omega)]
theorem bz : 0 ≤ ((0 : Int)) ∧ (0 : Int) ≤ 18446744073709551615 := by decide
/-- what is put twice is put by what was put -/
theorem twice_all {xs : List Int} (hw : Wide xs) {a m : Int} {args : List (Int × Int)} {pc : Int × Int} {bs : List Int} {q : Int} (h : PutOk xs a m args pc) (hwa : WideL args) (hwp : 0 ≤ pc.2 ∧ pc.2 ≤ 18446744073709551615)
    (ha : ∀ i, i < args.length → putB xs (args[i]?.getD s0).1 (args[i]?.getD s0).2 (lows bs) (q, 0) = true) (hp : putB xs pc.1 pc.2 (lows bs) (q, 0) = true) :
    putB xs ((putJ xs a m args pc).1 : Int) (putJ xs a m args pc).2 (lows bs) (q, 0) = true ∧ putB xs a m (lows (lowsI xs bs q args)) (lowI xs bs q pc, 0) = true ∧
      ((putJ xs ((putJ xs a m args pc).1 : Int) (putJ xs a m args pc).2 (lows bs) (q, 0)).1 : Int) = ((putJ xs a m (lows (lowsI xs bs q args)) (lowI xs bs q pc, 0)).1 : Int) := by
  have hpo := putB_iff.1 hp
  have hact : ∀ i, i < args.length ∨ i = 6 → PutOk xs (actI args pc i).1 (actI args pc i).2 (lows bs) (q, 0) := fun i hi => by
    unfold actI
    by_cases e : i = 6
    · rw [if_pos e]; exact hpo
    · rw [if_neg e]; exact putB_iff.1 (ha i (by omega))
  have hmk : ∀ i, i < args.length ∨ i = 6 → 0 ≤ (actI args pc i).2 ∧ (actI args pc i).2 ≤ 18446744073709551615 := fun i hi => by
    unfold actI
    by_cases e : i = 6
    · rw [if_pos e]; exact hwp
    · rw [if_neg e]; exact hwa _ (GG.getD_mem (d := s0) (by omega))
  have hPok := putJ_ok h hw hwa hwp
  have hlowok : ∀ i, i < args.length ∨ i = 6 → lok xs (putJ xs (actI args pc i).1 (actI args pc i).2 (lows bs) (q, 0)) := fun i hi => putJ_ok (hact i hi) hw (lows_wide bs) bz
  -- what P's mask has
  have hbits : ∀ j, j ∈ MM.bitsOf (putJ xs a m args pc).2 ↔ ∃ i ∈ MM.bitsOf m, j ∈ MM.bitsOf (actI args pc i).2 := fun j => by
    rw [mem_bits, putJ_has h hw hwa hwp]
    constructor
    · rintro ⟨i, hi, hj⟩
      rw [actual_I (h.fit i hi)] at hj
      exact ⟨i, hi, mem_bits.2 hj⟩
    · rintro ⟨i, hi, hj⟩
      exact ⟨i, hi, by rw [actual_I (h.fit i hi)]; exact mem_bits.1 hj⟩
  have h1 : PutOk xs ((putJ xs a m args pc).1 : Int) (putJ xs a m args pc).2 (lows bs) (q, 0) :=
    ⟨hpo.n6, fun j hj => by
      obtain ⟨i, hi, hj2⟩ := (hbits j).1 hj
      exact (hact i (h.fit i hi)).fit j hj2, h.right, by have := hPok.1; omega, hpo.place, hpo.args⟩
  have hlen : (lows (lowsI xs bs q args)).length = args.length := by rw [lows_len, lowsI_len]
  have h2 : PutOk xs a m (lows (lowsI xs bs q args)) (lowI xs bs q pc, 0) :=
    ⟨by rw [hlen]; exact h.n6, fun i hi => by rw [hlen]; exact h.fit i hi, h.right, h.lev, by
      have := (hlowok 6 (.inr rfl)).1
      unfold actI at this
      rw [if_pos rfl] at this
      show 0 ≤ lowI xs bs q pc ∧ lowI xs bs q pc < xs.length
      unfold lowI
      omega, fun i hi => by
      rw [hlen] at hi
      rw [lows_at (by rw [lowsI_len]; exact hi), lowsI_at hi]
      have h3 := putJ_ok (putB_iff.1 (ha i hi)) hw (lows_wide bs) bz
      have := h3.1
      show 0 ≤ lowI xs bs q (args[i]?.getD s0) ∧ lowI xs bs q (args[i]?.getD s0) < xs.length
      unfold lowI
      omega⟩
  refine ⟨putB_iff.2 h1, putB_iff.2 h2, ?_⟩
  have hact2 : ∀ i, i < args.length ∨ i = 6 → (actual (lows (lowsI xs bs q args)) (lowI xs bs q pc, 0) i).1 = (putJ xs (actI args pc i).1 (actI args pc i).2 (lows bs) (q, 0)).1 := fun i hi => by
    rw [actual_I (by rw [hlen]; exact hi)]
    unfold actI
    by_cases e : i = 6
    · rw [if_pos e, if_pos e]
      show (lowI xs bs q pc).toNat = _
      unfold lowI
      omega
    · rw [if_neg e, if_neg e, lows_at (by rw [lowsI_len]; omega), lowsI_at (by omega)]
      show (lowI xs bs q (args[i]?.getD s0)).toNat = _
      unfold lowI
      omega
  have hu := (putJ_ok h1 hw (lows_wide bs) bz).1
  have hv := (putJ_ok h2 hw (lows_wide _) bz).1
  have := lev_one h.right hu hv fun x hx => by
    rw [put_lev h1 hw (lows_wide bs) bz hx, put_lev h2 hw (lows_wide _) bz hx, Int.toNat_natCast, put_lev h hw hwa hwp hx]
    constructor
    · rintro ⟨⟨g1, g2⟩, g3⟩
      refine ⟨g1, fun i hi => ?_⟩
      rw [hact2 i (h.fit i hi), put_lev (hact i (h.fit i hi)) hw (lows_wide bs) bz hx]
      refine ⟨?_, fun j hj => g3 j ((hbits j).2 ⟨i, hi, hj⟩)⟩
      have := g2 i hi
      rw [actual_I (h.fit i hi)] at this
      exact this
    · rintro ⟨g1, g2⟩
      have g4 := fun i (hi : i ∈ MM.bitsOf m) => (by
        have g := g2 i hi
        rw [hact2 i (h.fit i hi), put_lev (hact i (h.fit i hi)) hw (lows_wide bs) bz hx] at g
        exact g : LL.ab xs (actI args pc i).1.toNat x = true ∧ ∀ j ∈ MM.bitsOf (actI args pc i).2, LL.ab xs (actual (lows bs) (q, 0) j).1 x = true)
      refine ⟨⟨g1, fun i hi => ?_⟩, fun j hj => ?_⟩
      · rw [actual_I (h.fit i hi)]; exact (g4 i hi).1
      · obtain ⟨i, hi, hj2⟩ := (hbits j).1 hj
        exact (g4 i hi).2 j hj2
  omega
end Go.Proofs.YtodhoplchficpaaDoor
/-! sym, plain: what is put is below a bound just if all of it is -/
namespace Go.Proofs.YtodhoplchficpaaDoor
open Go.RowKit
open SV (Lab SysOk Least labs sumOf mu sumP at' natsL askT askI fanN lok ljoin val le Bnd)
def tops (F : Int) (i : Nat) : List Int := (List.range 7).map fun j => if j < i then F else 0
theorem tops_set {F : Int} {i : Nat} (h : i < 7) : (tops F i).set i F = tops F (i + 1) := by
  match i, h with
  | 0, _ => rfl
  | 1, _ => rfl
  | 2, _ => rfl
  | 3, _ => rfl
  | 4, _ => rfl
  | 5, _ => rfl
  | 6, _ => rfl
theorem tops_len {F : Int} {i : Nat} : (tops F i).length = 7 := by simp [tops]
def sevenF (F : Int) : List Int := [F, F, F, F, F, F, F]
theorem tops_seven {F : Int} : tops F 7 = sevenF F := rfl
theorem sevenF_at {F : Int} {i : Nat} (h : i < 7) : (sevenF F)[i]?.getD 0 = F := by
  match i, h with
  | 0, _ => rfl
  | 1, _ => rfl
  | 2, _ => rfl
  | 3, _ => rfl
  | 4, _ => rfl
  | 5, _ => rfl
  | 6, _ => rfl
/-- the top of a lattice -/
structure TopOf (xs : List Int) (F : Nat) : Prop where
  far : LL.farI xs = (F : Int)
  lt : F < xs.length
  all : ∀ m, m < xs.length → LL.ab xs m F = true
theorem top_of {xs : List Int} (hr : LL.rightB xs = true) (hx : Wide xs) : ∃ F, TopOf xs F := by
  obtain ⟨k, hk, h⟩ := LL.ex_far hr hx
  exact ⟨k, LL.farI_is hr hk h, hk, h⟩
theorem meet_top {xs : List Int} (hr : LL.rightB xs = true) {c b : Nat} (hc : c < xs.length) (hb : b < xs.length) (h : LL.ab xs b c = true) : LL.meetI xs c b = (b : Int) :=
  LL.meetI_is hr ⟨hb, h, LL.le_refl5 hr hb, fun m _ _ h2 => h2⟩
theorem capF_top {xs : List Int} (hr : LL.rightB xs = true) {F b : Nat} (hF : TopOf xs F) (hb : b < xs.length) (zs : List Nat) (L : List Int) (hL : L.length = 7) (P : Nat → Prop) [DecidablePred P] (h : ∀ i, i < 7 → L[i]?.getD 0 = if P i then (b : Int) else F) :
    ∀ i, i < 7 → (capF xs b L zs)[i]?.getD 0 = if P i ∨ i ∈ zs then (b : Int) else F := by
  induction zs generalizing L P with
  | nil => intro i hi; simpa [capF] using h i hi
  | cons z zs ih =>
    intro i hi
    have h2 : ∀ i, i < 7 → (capS xs b L z)[i]?.getD 0 = if P i ∨ i = z then (b : Int) else F := by
      intro i hi
      unfold capS
      by_cases e : i = z
      · subst e
        rw [List.getElem?_set_self (by omega), if_pos (Or.inr rfl), Option.getD_some, h i hi, Int.toNat_natCast]
        by_cases hp : P i
        · rw [if_pos hp, Int.toNat_natCast]; exact meet_top hr hb hb (LL.le_refl5 hr hb)
        · rw [if_neg hp, Int.toNat_natCast]; exact meet_top hr hF.lt hb (hF.all b hb)
      · rw [List.getElem?_set_ne (fun h => e h.symm), h i hi]
        by_cases hp : P i
        · rw [if_pos hp, if_pos (Or.inl hp)]
        · rw [if_neg hp, if_neg (by rintro (h | h); exact hp h; exact e h)]
    have h3 := ih (capS xs b L z) (by rw [capS_len, hL]) (fun i => P i ∨ i = z) h2 i hi
    show (capF xs b (capS xs b L z) zs)[i]?.getD 0 = _
    rw [h3]
    congr 1
    simp only [List.mem_cons, eq_iff_iff]
    constructor
    · rintro ((h | h) | h)
      · exact .inl h
      · exact .inr (.inl h)
      · exact .inr (.inr h)
    · rintro (h | h | h)
      · exact .inl (.inl h)
      · exact .inl (.inr h)
      · exact .inr h
theorem caps_top {xs : List Int} (hr : LL.rightB xs = true) {F b : Nat} (hF : TopOf xs F) (hb : b < xs.length) (zs : List Nat) {i : Nat} (hi : i < 7) : (capF xs b (sevenF F) zs)[i]?.getD 0 = if i ∈ zs then (b : Int) else F := by
  have h := capF_top hr hF hb zs (sevenF F) rfl (fun _ => False) (fun i hi => by rw [if_neg (fun h => h)]; exact sevenF_at hi) i hi
  simpa using h
/-- is a value at or below a cap? -/
theorem under_cap {xs : List Int} (hr : LL.rightB xs = true) {F b : Nat} (hF : TopOf xs F) (hb : b < xs.length) (zs : List Nat) {i : Nat} (hi : i < 7) {x : Nat} (hx : x < xs.length) : LL.ab xs x ((capF xs b (sevenF F) zs)[i]?.getD 0).toNat = true ↔ (i ∈ zs → LL.ab xs x b = true) := by
  rw [caps_top hr hF hb zs hi]
  by_cases h : i ∈ zs
  · rw [if_pos h, Int.toNat_natCast]; exact ⟨fun g _ => g, fun g => g h⟩
  · rw [if_neg h, Int.toNat_natCast]; exact ⟨fun _ g => absurd g h, fun _ => hF.all x hx⟩
def underI (xs : List Int) (L rest : List Int) (i : Nat) : Bool := (List.range i).all fun j => LL.ab xs (rest[j]?.getD 0).toNat (L[j]?.getD 0).toNat
theorem underI_succ {xs L rest : List Int} {i : Nat} : underI xs L rest (i + 1) = (underI xs L rest i && LL.ab xs (rest[i]?.getD 0).toNat (L[i]?.getD 0).toNat) := by
  unfold underI
  rw [List.range_succ, List.all_append]
  simp
theorem under_all {xs : List Int} (hw : Wide xs) {a m pc : Int} {rest : List Int} (h : PutOk xs a m (lows rest) (pc, 0)) {F b : Nat} (hF : TopOf xs F) (hb : b < xs.length) :
    LL.ab xs (putJ xs a m (lows rest) (pc, 0)).1 b = (LL.ab xs a.toNat b && LL.ab xs pc.toNat ((capF xs b (sevenF F) (MM.bitsOf m))[6]?.getD 0).toNat && underI xs (capF xs b (sevenF F) (MM.bitsOf m)) rest rest.length) := by
  have hn : rest.length ≤ 6 := by have := h.n6; rwa [lows_len] at this
  rw [Bool.eq_iff_iff, put_lev h hw (lows_wide rest) bz hb, Bool.and_eq_true, Bool.and_eq_true, under_cap h.right hF hb _ (by omega) (by have := h.place; simp only at this; omega)]
  have hact : ∀ i, i < rest.length ∨ i = 6 → (actual (lows rest) (pc, 0) i).1 = if i = 6 then pc.toNat else (rest[i]?.getD 0).toNat := fun i hi => by
    rw [actual_I (by rw [lows_len]; exact hi)]
    unfold actI
    by_cases e : i = 6
    · rw [if_pos e, if_pos e]
    · rw [if_neg e, if_neg e, lows_at (by omega)]
  have hlt : ∀ i, i < rest.length → (rest[i]?.getD 0).toNat < xs.length := fun i hi => by
    have := h.args i (by rw [lows_len]; exact hi)
    rw [lows_at hi] at this
    simp only at this
    omega
  have hun : underI xs (capF xs b (sevenF F) (MM.bitsOf m)) rest rest.length = true ↔ ∀ i, i < rest.length → i ∈ MM.bitsOf m → LL.ab xs (rest[i]?.getD 0).toNat b = true := by
    unfold underI
    simp only [List.all_eq_true, List.mem_range]
    constructor
    · intro g i hi
      exact (under_cap h.right hF hb _ (by omega) (hlt i hi)).1 (g i hi)
    · intro g i hi
      exact (under_cap h.right hF hb _ (by omega) (hlt i hi)).2 (g i hi)
  rw [hun]
  constructor
  · rintro ⟨h1, h2⟩
    refine ⟨⟨h1, fun h6 => ?_⟩, fun i hi hm => ?_⟩
    · have := h2 6 h6
      rw [hact 6 (.inr rfl), if_pos rfl] at this
      exact this
    · have := h2 i hm
      rw [hact i (.inl hi), if_neg (by omega)] at this
      exact this
  · rintro ⟨⟨h1, h2⟩, h3⟩
    refine ⟨h1, fun i hi => ?_⟩
    have hf := h.fit i hi
    rw [lows_len] at hf
    rw [hact i hf]
    by_cases e : i = 6
    · rw [if_pos e]; subst e; exact h2 hi
    · rw [if_neg e]; exact h3 i (by omega) hi
theorem under_fit {m : Int} {n : Nat} (hn : n ≤ 6) (h : ∀ i ∈ MM.bitsOf m, i < n ∨ i = 6) : fitB m 6 = true := by
  unfold fitB
  rw [Bool.and_eq_true, bitsIn_iff]
  exact ⟨by decide, fun i hi => by have := h i hi; omega⟩
end Go.Proofs.YtodhoplchficpaaDoor
/-! SymUnder, walked -/
namespace Go.Proofs.YtodhoplchficpaaDoor
open Go.RowKit
open SV (Lab SysOk Least labs sumOf mu sumP at' natsL askT askI fanN lok ljoin val le Bnd)
/-- the label's box, and a block of seven numbers -/
def UndBx (W : World) (a m : Int) (b : Nat) (L : List Int) (V : World) : Prop := LabBx W a m V ∧ W.heap.size + 1 ≤ b ∧ V.heap[b]? = some (.cells (L.map (Value.int .i64)).toArray 56)
theorem UndBx.on {W U V : World} {a m : Int} {b : Nat} {L : List Int} (h : UndBx W a m b L U) (hb : Below U.heap.size U V) : UndBx W a m b L V :=
  ⟨h.1.on hb, h.2.1, (hb.block _ (Array.getElem?_eq_some_iff.1 h.2.2).1).trans h.2.2⟩
theorem UndBx.drew {W U : World} {a m : Int} {b : Nat} {L : List Int} (h : UndBx W a m b L U) : UndBx W a m b L U.drew := ⟨h.1.drew, h.2⟩
theorem UndBx.at {W V : World} {a m : Int} {b : Nat} {L : List Int} (h : UndBx W a m b L V) {z : Nat} (hz : z < L.length) : V.cell? ⟨b, z, none⟩ = some (.int .i64 (L[z]?.getD 0)) ∧ V.frozen? ⟨b, z, none⟩ = false := by
  have h3 := h.2.2
  constructor
  · simp only [World.cell?, h3]
    simp [List.getElem?_eq_getElem hz]
  · simp [World.frozen?, h3]
theorem UndBx.set {W V : World} {a m : Int} {b : Nat} {L : List Int} (h : UndBx W a m b L V) (z : Nat) (v : Int) : UndBx W a m b (L.set z v) (V.setCell ⟨b, z, none⟩ (.int .i64 v)) := by
  obtain ⟨⟨h0, h1, h2⟩, h3, h4⟩ := h
  have h7 := SS.set_obj (c := z) (.int .i64 v) h4
  refine ⟨⟨h0.setCell (p := ⟨b, z, none⟩) (by show W.heap.size ≤ b; omega) _, by simpa using h1, (Below.heap_setCell _ _ _ _ (by show W.heap.size ≠ b; omega)).trans h2⟩, h3, ?_⟩
  rw [h7, List.map_set]
  simp
theorem row_two {W : World} {b off cap : Nat} {x y : Int} {rest : List Int} {n₀ : Nat} (h : Row n₀ W (.slice (some ⟨b, off, none⟩) (rest.length + 1 + 1) cap) (x :: y :: rest)) : rest.length + 2 ≤ cap ∧ b < n₀ ∧ W.cell? ⟨b, off, none⟩ = some (.int .i64 x) ∧ W.cell? ⟨b, off + 1, none⟩ = some (.int .i64 y) ∧ (cap ≠ 2 → Row n₀ W (.slice (some ⟨b, off + 2, none⟩) rest.length (cap - 2)) rest) ∧ (cap = 2 → Row n₀ W (.slice (some ⟨b, off, none⟩) rest.length (cap - 2)) rest) := by
  obtain ⟨h1, h2, h3, h4, h5⟩ := Row.tail (rest := y :: rest) h
  obtain ⟨g1, g2, g3, g4, g5⟩ := Row.tail (rest := rest) h1
  refine ⟨by omega, h4, h5, g5, fun _ => g1, fun e => ?_⟩
  have e2 : rest = [] := List.length_eq_zero_iff.1 (by omega)
  subst e2
  exact .inl ⟨⟨_, _, rfl, fun e => by cases e⟩, rfl⟩
theorem cell_ltU {w : World} {a : Addr} {v : Value} (h : w.cell? a = some v) : a.block < w.heap.size := by
  apply Classical.byContradiction; intro hn
  simp [World.cell?, Array.getElem?_eq_none (Nat.le_of_not_lt hn)] at h
set_option maxRecDepth 100000 in
set_option maxHeartbeats 12800000 in
theorem symUnder_walk {ua aa : Option Addr} {uc ac : Nat} {xs : List Int} {a m : Int} {args : List Int} (W : World) (hu : Nums .u64 W.heap.size W (.slice ua xs.length uc) xs) (hx : Wide xs) (hxl : xs.length ≤ big5) (hT : Tz W) (hav : Row W.heap.size W (.slice aa args.length ac) args) (hal : args.length ≤ 17592186044416) (hm : 0 ≤ m ∧ m ≤ 18446744073709551615) :
    Calls Tryd.prog 9 #[.slice ua xs.length uc, .agg #[.int .i64 a, .int .u64 m], .slice aa args.length ac] W fun e V => e = .returned (.bool true) ∧ Below W.heap.size W V := by
  have HU := Lib.hid hu
  have HX := Lib.hid hx
  have HM := Lib.hid hm
  have HA := Lib.hid hav
  have HAW := Lib.hid (fun w (hb : Below W.heap.size W w) => awake19_any w (hT.on hb))
  have HBIG := Lib.hid hxl
  have HTZ := Lib.hid hT
  have b0 : (xs.length : Int) ≤ 17592186044416 := by have := hxl; unfold big5 at this; omega
  have b1 : (args.length : Int) ≤ 17592186044416 := by omega
  have b9 : xs.length ≤ 9223372036854775807 := by omega
  have HS0 := Lib.hid (labBx_start W a m)
  obtain ⟨W0, eW0⟩ : ∃ W0, W0 = W.alloc (.cells #[.int .i64 a, .int .u64 m] 38) := ⟨_, rfl⟩
  rw [← eW0] at HS0
  clear hu hx hxl hT hav hal hm
  by_cases h20 : (20 : Int) < xs.length
  · have j20 : decide ((xs.length : Int) > 20) = true := decide_eq_true h20
    have k20 : decide ((20 : Int) < xs.length) = true := decide_eq_true h20
    go_enter Tryd.func9, Tryd.ntmps9
    go_upto_region 1 with fail
    rw [← eW0]
    clear eW0
    go_wp2_with (go_at_call 20; refine (HAW.out _ HS0.out.1).mono ?_; rintro e w9 ⟨rfl, hb⟩; have HF := Lib.hid (HS0.out.on hb); clear hb)
    go_ret
    exact ⟨rfl, HF.out.1⟩
  have j20 : decide ((xs.length : Int) > 20) = false := decide_eq_false h20
  have k20 : decide ((20 : Int) < xs.length) = false := decide_eq_false h20
  by_cases h2 : (args.length : Int) < 2
  · have j2 : decide ((args.length : Int) < 2) = true := decide_eq_true h2
    go_enter Tryd.func9, Tryd.ntmps9
    go_upto_region 1 with fail
    rw [← eW0]
    clear eW0
    go_wp2_with (go_at_call 20; refine (HAW.out _ HS0.out.1).mono ?_; rintro e w9 ⟨rfl, hb⟩; have HF := Lib.hid (HS0.out.on hb); clear hb)
    go_ret
    exact ⟨rfl, HF.out.1⟩
  have j2 : decide ((args.length : Int) < 2) = false := decide_eq_false h2
  by_cases h8 : (8 : Int) < args.length
  · have j8 : decide ((args.length : Int) > 8) = true := decide_eq_true h8
    have k8 : decide ((8 : Int) < args.length) = true := decide_eq_true h8
    go_enter Tryd.func9, Tryd.ntmps9
    go_upto_region 1 with fail
    rw [← eW0]
    clear eW0
    go_wp2_with (go_at_call 20; refine (HAW.out _ HS0.out.1).mono ?_; rintro e w9 ⟨rfl, hb⟩; have HF := Lib.hid (HS0.out.on hb); clear hb)
    go_ret
    exact ⟨rfl, HF.out.1⟩
  have j8 : decide ((args.length : Int) > 8) = false := decide_eq_false h8
  have k8 : decide ((8 : Int) < args.length) = false := decide_eq_false h8
  cases hr : LL.rightB xs with
  | false =>
    have HR := Lib.hid hr
    clear hr
    go_enter Tryd.func9, Tryd.ntmps9
    go_upto_region 1 with fail
    rw [← eW0]
    clear eW0
    go_wp2_with (first
      | (go_at_call 18; refine (rright_any _ xs _ _ ((HU.out.below HS0.out.1).mono HS0.out.1.size) HX.out b9).mono ?_; rintro e w2 ⟨rfl, d, e2⟩; rw [HR.out]; have hb : Below W0.heap.size W0 w2 := (by rw [e2]; exact bel_of_dN d); clear e2; have HX2 := Lib.hid (HS0.out.on hb); clear hb)
      | (go_at_call 20; refine (HAW.out _ HX2.out.1).mono ?_; rintro e w9 ⟨rfl, hb⟩; have HF := Lib.hid (HX2.out.on hb); clear hb))
    go_ret
    exact ⟨rfl, HF.out.1⟩
  | true =>
    have HR := Lib.hid hr
    obtain ⟨bd, pc, rest, rfl⟩ : ∃ bd pc rest, args = bd :: pc :: rest := by
      cases args with
      | nil => exact absurd (by simp) h2
      | cons x l =>
        cases l with
        | nil => exact absurd (by simp) h2
        | cons y l => exact ⟨x, y, l, rfl⟩
    obtain ⟨F, hF⟩ := top_of hr HX.out
    have HTOP := Lib.hid hF
    clear hr hF
    simp only [List.length_cons, Int.natCast_add, Int.natCast_one] at *
    have i6 : (rest.length : Int) ≤ 6 := by omega
    obtain ⟨b, off, cap, e⟩ : ∃ b off cap, Value.slice aa (rest.length + 1 + 1) ac = .slice (some ⟨b, off, none⟩) (rest.length + 1 + 1) cap := by
      obtain ⟨b, off, e, _⟩ := HA.out.cellAt (k := 0) (by simp)
      rw [e]
      exact ⟨b, off, ac, rfl⟩
    cases e
    obtain ⟨ht0, ht1, ht2, ht3, ht4, ht5⟩ := row_two HA.out
    have HTC := Lib.hid ht0
    have HTB := Lib.hid ht1
    have HTX := Lib.hid ht2
    have HTY := Lib.hid ht3
    have HT4 := Lib.hid ht4
    have HT5 := Lib.hid ht5
    have c1 : (rest.length : Int) + 1 + 1 ≤ ac := by omega
    clear ht0 ht1 ht2 ht3 ht4 ht5
    go_enter Tryd.func9, Tryd.ntmps9
    go_upto_region 1 with fail
    rw [← eW0]
    clear eW0
    go_upto_region 3 with (go_at_call 18; refine (rright_any _ xs _ _ ((HU.out.below HS0.out.1).mono HS0.out.1.size) HX.out b9).mono ?_; rintro e w2 ⟨rfl, d, e2⟩; rw [HR.out]; have hb : Below W0.heap.size W0 w2 := (by rw [e2]; exact bel_of_dN d); clear e2; have HX2 := Lib.hid (HS0.out.on hb); clear hb)
    clear j20 k20 j2 j8 k8 h20 h2 h8 HS0
    go_cut [7, 8, 9] from 37 (fun s7 s8 s9 w9 => s7 = .int .i64 bd ∧ s8 = .int .i64 pc ∧ (∃ ra rc, s9 = .slice ra rest.length rc ∧ Row W.heap.size W (.slice ra rest.length rc) rest) ∧ LabBx W a m w9)
    case first =>
      have HX0 := Lib.hid HX2.out.drew
      have hx0 : w2.drew.cell? ⟨b, off, none⟩ = some (.int .i64 bd) := (HX0.out.1.cell (p := ⟨b, off, none⟩) HTB.out).trans HTX.out
      have hx1 : w2.drew.cell? ⟨b, off + 1, none⟩ = some (.int .i64 pc) := (HX0.out.1.cell (p := ⟨b, off + 1, none⟩) HTB.out).trans HTY.out
      refine wp_region_held_drew (S := (fun V => V.cell? ⟨b, off, none⟩ = some (.int .i64 bd) ∧ V.cell? ⟨b, off + 1, none⟩ = some (.int .i64 pc))) (by kernel_rfl) ?_ (fun hHeld => ?_)
      · exact ⟨hx0, hx1⟩
      clear hx0 hx1
      generalize w2.drew = w0 at HX0 hHeld ⊢
      have hn1 : ¬ ((rest.length : Int) + 1 + 1 < 2) := by omega
      have hn0 : (0 : Int) < (rest.length : Int) + 1 + 1 := by omega
      have hn2 : (1 : Int) < (rest.length : Int) + 1 + 1 := by omega
      by_cases hac : ac = 2
      · have HR1 := Lib.hid (HT5.out hac)
        subst hac
        refine wpAnyH_take (i := 0) (v := .slice (some ⟨b, off, none⟩) (rest.length + 1 + 1) 2) rfl (by kernel_rfl) (by kernel_rfl) (by kernel_rfl) (fun _ _ _ h => h) (Or.inl ⟨by rfl, fun W hSW => ?_⟩) hHeld ?_
        · ((try dsimp only at hSW); go_split_ands; go_simp <;> with_reducible rfl)
        try simp only [List.getElem_toArray, List.getElem_cons_succ, List.getElem_cons_zero, Act.put, List.setIfInBounds_toArray, List.set_cons_zero, List.set_cons_succ]
        refine wpAnyH_take (i := 1) (v := .pointer (some ⟨b, off, none⟩)) rfl (by kernel_rfl) (by kernel_rfl) (by kernel_rfl) (fun _ _ _ h => h) (Or.inl ⟨by rfl, fun W hSW => ?_⟩) hHeld ?_
        · ((try dsimp only at hSW); go_split_ands; go_simp <;> with_reducible rfl)
        try simp only [List.getElem_toArray, List.getElem_cons_succ, List.getElem_cons_zero, Act.put, List.setIfInBounds_toArray, List.set_cons_zero, List.set_cons_succ]
        refine wpAnyH_take (i := 2) (v := .int .i64 bd) rfl (by kernel_rfl) (by kernel_rfl) (by kernel_rfl) (fun _ _ _ h => h) (Or.inl ⟨by rfl, fun W hSW => ?_⟩) hHeld ?_
        · ((try dsimp only at hSW); go_split_ands; go_simp <;> with_reducible rfl)
        try simp only [List.getElem_toArray, List.getElem_cons_succ, List.getElem_cons_zero, Act.put, List.setIfInBounds_toArray, List.set_cons_zero, List.set_cons_succ]
        refine wpAnyH_take (i := 3) (v := .slice (some ⟨b, off, none⟩) (rest.length + 1 + 1) 2) rfl (by kernel_rfl) (by kernel_rfl) (by kernel_rfl) (fun _ _ _ h => h) (Or.inl ⟨by rfl, fun W hSW => ?_⟩) hHeld ?_
        · ((try dsimp only at hSW); go_split_ands; go_simp <;> with_reducible rfl)
        try simp only [List.getElem_toArray, List.getElem_cons_succ, List.getElem_cons_zero, Act.put, List.setIfInBounds_toArray, List.set_cons_zero, List.set_cons_succ]
        refine wpAnyH_take (i := 4) (v := .pointer (some ⟨b, off + 1, none⟩)) rfl (by kernel_rfl) (by kernel_rfl) (by kernel_rfl) (fun _ _ _ h => h) (Or.inl ⟨by rfl, fun W hSW => ?_⟩) hHeld ?_
        · ((try dsimp only at hSW); go_split_ands; go_simp <;> with_reducible rfl)
        try simp only [List.getElem_toArray, List.getElem_cons_succ, List.getElem_cons_zero, Act.put, List.setIfInBounds_toArray, List.set_cons_zero, List.set_cons_succ]
        refine wpAnyH_take (i := 5) (v := .int .i64 pc) rfl (by kernel_rfl) (by kernel_rfl) (by kernel_rfl) (fun _ _ _ h => h) (Or.inl ⟨by rfl, fun W hSW => ?_⟩) hHeld ?_
        · ((try dsimp only at hSW); go_split_ands; go_simp <;> with_reducible rfl)
        try simp only [List.getElem_toArray, List.getElem_cons_succ, List.getElem_cons_zero, Act.put, List.setIfInBounds_toArray, List.set_cons_zero, List.set_cons_succ]
        refine wpAnyH_take (i := 6) (v := .slice (some ⟨b, off, none⟩) (rest.length + 1 + 1) 2) rfl (by kernel_rfl) (by kernel_rfl) (by kernel_rfl) (fun _ _ _ h => h) (Or.inl ⟨by rfl, fun W hSW => ?_⟩) hHeld ?_
        · ((try dsimp only at hSW); go_split_ands; go_simp <;> with_reducible rfl)
        try simp only [List.getElem_toArray, List.getElem_cons_succ, List.getElem_cons_zero, Act.put, List.setIfInBounds_toArray, List.set_cons_zero, List.set_cons_succ]
        refine wpAnyH_take (i := 7) (v := .slice (some ⟨b, off, none⟩) rest.length 0) rfl (by kernel_rfl) (by kernel_rfl) (by kernel_rfl) (fun _ _ _ h => h) (Or.inl ⟨by rfl, fun W hSW => ?_⟩) hHeld ?_
        · ((try dsimp only at hSW); go_split_ands; go_simp <;> with_reducible rfl)
        try simp only [List.getElem_toArray, List.getElem_cons_succ, List.getElem_cons_zero, Act.put, List.setIfInBounds_toArray, List.set_cons_zero, List.set_cons_succ]
        refine wpAnyH_take (i := 8) (v := .int .i64 bd) rfl (by kernel_rfl) (by kernel_rfl) (by kernel_rfl) (fun _ _ _ h => h) (Or.inl ⟨by rfl, fun W hSW => ?_⟩) hHeld ?_
        · ((try dsimp only at hSW); go_split_ands; go_simp <;> with_reducible rfl)
        try simp only [List.getElem_toArray, List.getElem_cons_succ, List.getElem_cons_zero, Act.put, List.setIfInBounds_toArray, List.set_cons_zero, List.set_cons_succ]
        refine wpAnyH_take (i := 9) (v := .int .i64 pc) rfl (by kernel_rfl) (by kernel_rfl) (by kernel_rfl) (fun _ _ _ h => h) (Or.inl ⟨by rfl, fun W hSW => ?_⟩) hHeld ?_
        · ((try dsimp only at hSW); go_split_ands; go_simp <;> with_reducible rfl)
        try simp only [List.getElem_toArray, List.getElem_cons_succ, List.getElem_cons_zero, Act.put, List.setIfInBounds_toArray, List.set_cons_zero, List.set_cons_succ]
        refine wpAnyH_take (i := 10) (v := .slice (some ⟨b, off, none⟩) rest.length 0) rfl (by kernel_rfl) (by kernel_rfl) (by kernel_rfl) (fun _ _ _ h => h) (Or.inl ⟨by rfl, fun W hSW => ?_⟩) hHeld ?_
        · ((try dsimp only at hSW); go_split_ands; go_simp <;> with_reducible rfl)
        try simp only [List.getElem_toArray, List.getElem_cons_succ, List.getElem_cons_zero, Act.put, List.setIfInBounds_toArray, List.set_cons_zero, List.set_cons_succ]
        refine wpAnyH_done (by kernel_rfl) ?_ _
        clear hHeld
        go_wp2_with fail
        go_meet
        case rel => exact ⟨rfl, rfl, ⟨_, _, rfl, HR1.out⟩, HX0.out⟩
      · have q1 : ((ac : Int) == 2) = false := by simp; omega
        have q2 : ((2 : Int) == ac) = false := by simp; omega
        have q3 : ac ≠ 2 := hac
        have HR1 := Lib.hid (HT4.out hac)
        refine wpAnyH_take (i := 0) (v := .slice (some ⟨b, off, none⟩) (rest.length + 1 + 1) ac) rfl (by kernel_rfl) (by kernel_rfl) (by kernel_rfl) (fun _ _ _ h => h) (Or.inl ⟨by rfl, fun W hSW => ?_⟩) hHeld ?_
        · ((try dsimp only at hSW); go_split_ands; go_simp <;> with_reducible rfl)
        try simp only [List.getElem_toArray, List.getElem_cons_succ, List.getElem_cons_zero, Act.put, List.setIfInBounds_toArray, List.set_cons_zero, List.set_cons_succ]
        refine wpAnyH_take (i := 1) (v := .pointer (some ⟨b, off, none⟩)) rfl (by kernel_rfl) (by kernel_rfl) (by kernel_rfl) (fun _ _ _ h => h) (Or.inl ⟨by rfl, fun W hSW => ?_⟩) hHeld ?_
        · ((try dsimp only at hSW); go_split_ands; go_simp <;> with_reducible rfl)
        try simp only [List.getElem_toArray, List.getElem_cons_succ, List.getElem_cons_zero, Act.put, List.setIfInBounds_toArray, List.set_cons_zero, List.set_cons_succ]
        refine wpAnyH_take (i := 2) (v := .int .i64 bd) rfl (by kernel_rfl) (by kernel_rfl) (by kernel_rfl) (fun _ _ _ h => h) (Or.inl ⟨by rfl, fun W hSW => ?_⟩) hHeld ?_
        · ((try dsimp only at hSW); go_split_ands; go_simp <;> with_reducible rfl)
        try simp only [List.getElem_toArray, List.getElem_cons_succ, List.getElem_cons_zero, Act.put, List.setIfInBounds_toArray, List.set_cons_zero, List.set_cons_succ]
        refine wpAnyH_take (i := 3) (v := .slice (some ⟨b, off, none⟩) (rest.length + 1 + 1) ac) rfl (by kernel_rfl) (by kernel_rfl) (by kernel_rfl) (fun _ _ _ h => h) (Or.inl ⟨by rfl, fun W hSW => ?_⟩) hHeld ?_
        · ((try dsimp only at hSW); go_split_ands; go_simp <;> with_reducible rfl)
        try simp only [List.getElem_toArray, List.getElem_cons_succ, List.getElem_cons_zero, Act.put, List.setIfInBounds_toArray, List.set_cons_zero, List.set_cons_succ]
        refine wpAnyH_take (i := 4) (v := .pointer (some ⟨b, off + 1, none⟩)) rfl (by kernel_rfl) (by kernel_rfl) (by kernel_rfl) (fun _ _ _ h => h) (Or.inl ⟨by rfl, fun W hSW => ?_⟩) hHeld ?_
        · ((try dsimp only at hSW); go_split_ands; go_simp <;> with_reducible rfl)
        try simp only [List.getElem_toArray, List.getElem_cons_succ, List.getElem_cons_zero, Act.put, List.setIfInBounds_toArray, List.set_cons_zero, List.set_cons_succ]
        refine wpAnyH_take (i := 5) (v := .int .i64 pc) rfl (by kernel_rfl) (by kernel_rfl) (by kernel_rfl) (fun _ _ _ h => h) (Or.inl ⟨by rfl, fun W hSW => ?_⟩) hHeld ?_
        · ((try dsimp only at hSW); go_split_ands; go_simp <;> with_reducible rfl)
        try simp only [List.getElem_toArray, List.getElem_cons_succ, List.getElem_cons_zero, Act.put, List.setIfInBounds_toArray, List.set_cons_zero, List.set_cons_succ]
        refine wpAnyH_take (i := 6) (v := .slice (some ⟨b, off, none⟩) (rest.length + 1 + 1) ac) rfl (by kernel_rfl) (by kernel_rfl) (by kernel_rfl) (fun _ _ _ h => h) (Or.inl ⟨by rfl, fun W hSW => ?_⟩) hHeld ?_
        · ((try dsimp only at hSW); go_split_ands; go_simp <;> with_reducible rfl)
        try simp only [List.getElem_toArray, List.getElem_cons_succ, List.getElem_cons_zero, Act.put, List.setIfInBounds_toArray, List.set_cons_zero, List.set_cons_succ]
        refine wpAnyH_take (i := 7) (v := .slice (some ⟨b, off + 2, none⟩) rest.length (ac - 2)) rfl (by kernel_rfl) (by kernel_rfl) (by kernel_rfl) (fun _ _ _ h => h) (Or.inl ⟨by rfl, fun W hSW => ?_⟩) hHeld ?_
        · ((try dsimp only at hSW); go_split_ands; go_simp <;> with_reducible rfl)
        try simp only [List.getElem_toArray, List.getElem_cons_succ, List.getElem_cons_zero, Act.put, List.setIfInBounds_toArray, List.set_cons_zero, List.set_cons_succ]
        refine wpAnyH_take (i := 8) (v := .int .i64 bd) rfl (by kernel_rfl) (by kernel_rfl) (by kernel_rfl) (fun _ _ _ h => h) (Or.inl ⟨by rfl, fun W hSW => ?_⟩) hHeld ?_
        · ((try dsimp only at hSW); go_split_ands; go_simp <;> with_reducible rfl)
        try simp only [List.getElem_toArray, List.getElem_cons_succ, List.getElem_cons_zero, Act.put, List.setIfInBounds_toArray, List.set_cons_zero, List.set_cons_succ]
        refine wpAnyH_take (i := 9) (v := .int .i64 pc) rfl (by kernel_rfl) (by kernel_rfl) (by kernel_rfl) (fun _ _ _ h => h) (Or.inl ⟨by rfl, fun W hSW => ?_⟩) hHeld ?_
        · ((try dsimp only at hSW); go_split_ands; go_simp <;> with_reducible rfl)
        try simp only [List.getElem_toArray, List.getElem_cons_succ, List.getElem_cons_zero, Act.put, List.setIfInBounds_toArray, List.set_cons_zero, List.set_cons_succ]
        refine wpAnyH_take (i := 10) (v := .slice (some ⟨b, off + 2, none⟩) rest.length (ac - 2)) rfl (by kernel_rfl) (by kernel_rfl) (by kernel_rfl) (fun _ _ _ h => h) (Or.inl ⟨by rfl, fun W hSW => ?_⟩) hHeld ?_
        · ((try dsimp only at hSW); go_split_ands; go_simp <;> with_reducible rfl)
        try simp only [List.getElem_toArray, List.getElem_cons_succ, List.getElem_cons_zero, Act.put, List.setIfInBounds_toArray, List.set_cons_zero, List.set_cons_succ]
        refine wpAnyH_done (by kernel_rfl) ?_ _
        clear hHeld
        go_wp2_with fail
        go_meet
        case rel => exact ⟨rfl, rfl, ⟨_, _, rfl, HR1.out⟩, HX0.out⟩
    case rest =>
      obtain ⟨rfl, rfl, ⟨ra, rc, rfl, hrr⟩, hx9⟩ := hcut
      have HRW := Lib.hid hrr
      have HX0 := Lib.hid hx9
      obtain ⟨z, ez⟩ : ∃ z, z = putB xs a m (lows rest) (pc, 0) := ⟨_, rfl⟩
      obtain ⟨y1, ey1⟩ : ∃ y1 : Int, y1 = if z = true then ((putJ xs a m (lows rest) (pc, 0)).1 : Int) else 0 := ⟨_, rfl⟩
      have HLR := Lib.hid (show lowRet xs a m rest pc = .tuple #[.int .i64 y1, .bool z] by unfold lowRet; rw [ey1, ez])
      have HZ := Lib.hid ez
      have HY := Lib.hid ey1
      have HJ := Lib.hid (fun w (hb : Below W.heap.size W w) => slow_any (a := a) (m := m) (pc := pc) w ((HU.out.below hb).mono hb.size) HX.out HBIG.out (HTZ.out.on hb) ((HRW.out.below hb).mono hb.size) HM.out (by omega))
      clear HT4 HT5 HTB HTX HTY HTC HX2 hrr hx9 ez ey1 HA b1 c1
      obtain ⟨hc0, hc1⟩ := HX0.out.cells
      go_upto_region 5 with (go_at_call 26; refine (HJ.out wc HX0.out.1).mono ?_; rintro e w3 ⟨rfl, hb⟩; rw [HLR.out]; have HX3 := Lib.hid (HX0.out.on hb); clear hb hc0 hc1)
      cases z with
      | false =>
        clear HZ HY HLR
        go_wp2_with (go_at_call 20; refine (HAW.out _ HX3.out.1).mono ?_; rintro e w9 ⟨rfl, hb⟩; have HF := Lib.hid (HX3.out.on hb); clear hb)
        go_ret
        exact ⟨rfl, HF.out.1⟩
      | true =>
        have HP := Lib.hid (putB_iff.1 HZ.out.symm)
        have hy := HY.out
        rw [if_pos rfl] at hy
        have HYE := Lib.hid hy
        have HYR := Lib.hid (show 0 ≤ y1 ∧ y1 < xs.length by have := (putJ_ok HP.out HX.out (lows_wide rest) bz).1; omega)
        clear HY HLR hy
        by_cases h0 : bd < 0
        · have j0 : decide (bd < 0) = true := decide_eq_true h0
          go_wp2_with (go_at_call 20; refine (HAW.out _ HX3.out.1).mono ?_; rintro e w9 ⟨rfl, hb⟩; have HF := Lib.hid (HX3.out.on hb); clear hb)
          go_ret
          exact ⟨rfl, HF.out.1⟩
        have j0 : decide (bd < 0) = false := decide_eq_false h0
        by_cases hn : (xs.length : Int) ≤ bd
        · have jq : decide ((xs.length : Int) ≤ bd) = true := decide_eq_true hn
          have kq : decide (bd ≥ (xs.length : Int)) = true := jq
          go_wp2_with (go_at_call 20; refine (HAW.out _ HX3.out.1).mono ?_; rintro e w9 ⟨rfl, hb⟩; have HF := Lib.hid (HX3.out.on hb); clear hb)
          go_ret
          exact ⟨rfl, HF.out.1⟩
        have jq : decide ((xs.length : Int) ≤ bd) = false := decide_eq_false hn
        have kq : decide (bd ≥ (xs.length : Int)) = false := jq
        have HBD := Lib.hid (show 0 ≤ bd ∧ bd < xs.length by omega)
        have HLQ := Lib.hid (fun w (hb : Below W.heap.size W w) (x y : Int) (hx : 0 ≤ x ∧ x < xs.length) (hy : 0 ≤ y ∧ y < xs.length) => (leq5_any _ xs _ x y w ((HU.out.below hb).mono hb.size) (Nat.le_refl _) HX.out HBIG.out (wf_levC HBIG.out hx) (wf_levC HBIG.out hy) (HTZ.out.on hb)).mono (R' := fun e V => e = .returned (.bool (LL.ab xs x.toNat y.toNat)) ∧ Below w.heap.size w V) fun e V h => (by rw [inB5_of HR.out hx hy, Bool.true_and] at h; exact h))
        go_upto_region 8 with fail
        clear h0 hn j0 jq kq HJ
        obtain ⟨tb, etb⟩ : ∃ tb, tb = w3.heap.size := ⟨_, rfl⟩
        have HX4 := Lib.hid (show UndBx W a m tb (tops F 0) (w3.alloc (.cells #[.int .i64 0, .int .i64 0, .int .i64 0, .int .i64 0, .int .i64 0, .int .i64 0, .int .i64 0] 56)) from ⟨HX3.out.on ((Below.refl w3.heap.size w3).alloc (Nat.le_refl _) _), by rw [etb]; exact HX3.out.2.1, by rw [etb]; exact heap_alloc_new _ _⟩)
        rw [← etb]
        generalize w3.alloc (.cells #[.int .i64 0, .int .i64 0, .int .i64 0, .int .i64 0, .int .i64 0, .int .i64 0, .int .i64 0] 56) = w4 at HX4 ⊢
        clear etb HX3
        go_wp2_with fail
        go_loopw [13] (fun k wr => ∃ i : Nat, i ≤ 7 ∧ k = .int .i64 (i : Int) ∧ RowKit.Hid (UndBx W a m tb (tops F i) wr)) (fun k _ => 7 - (intOf k).toNat)
        case atStart => exact ⟨0, Nat.zero_le _, rfl, HX4⟩
        case round =>
          obtain ⟨i, hi, rfl, HB⟩ := hrel
          by_cases hlt : i < 7
          · have i1 : (i : Int) < 7 := by omega
            have i2 : (0 : Int) ≤ i ∧ (i : Int) < 7 := by omega
            obtain ⟨hy0, hy1⟩ := HB.out.at (z := i) (by rw [tops_len]; omega)
            go_wp2_with (go_at_call 31; refine (rfar_any _ xs _ wr ((HU.out.below HB.out.1.1).mono HB.out.1.1.size) HX.out b9).mono ?_; rintro e w' ⟨rfl, rfl⟩; rw [HTOP.out.far])
            go_roundw
            case rel => exact ⟨i + 1, by omega, by go_num, Lib.hid (by rw [← tops_set (by omega)]; exact HB.out.set i F)⟩
            case measure => simp [intOf]; omega
          · obtain rfl : i = 7 := by omega
            obtain ⟨⟨_, _, _, _, _, _, _⟩, _, _, _, _, _, _, _⟩ := one7 (show wr.heap[tb]? = some (.cells #[.int .i64 (F : Int), .int .i64 (F : Int), .int .i64 (F : Int), .int .i64 (F : Int), .int .i64 (F : Int), .int .i64 (F : Int), .int .i64 (F : Int)] 56) from HB.out.2.2)
            obtain ⟨hc0, hc1⟩ := HB.out.1.cells
            have HLF := Lib.hid (show levB xs.length (sevenF F) = true by rw [levB_iff]; intro c hc; unfold sevenF at hc; simp at hc; rw [hc]; have := HTOP.out.lt; omega)
            have HCB := Lib.hid (show capB xs (sevenF F) a m bd = true by
              unfold capB
              rw [under_fit (by have := HP.out.n6; rwa [lows_len] at this) (fun i hi => by have := HP.out.fit i hi; rwa [lows_len] at this), HR.out, levB_app, HLF.out, levB_iff.2 (fun c hc => by simp at hc; rcases hc with rfl | rfl; exact HBD.out; exact HP.out.lev)]
              rfl)
            obtain ⟨d0, d1, d2, d3, d4, d5, d6, eL⟩ := seven (capF_len (xs := xs) (bd := bd) (cs := sevenF F) (MM.bitsOf m))
            have HLE := Lib.hid eL
            have HCR := Lib.hid (show capRet (capB xs (sevenF F) a m bd) (capF xs bd (sevenF F) (MM.bitsOf m)) = .tuple #[.agg #[.int .i64 d0, .int .i64 d1, .int .i64 d2, .int .i64 d3, .int .i64 d4, .int .i64 d5, .int .i64 d6], .bool true] by rw [HCB.out, eL]; rfl)
            have HCP := Lib.hid (show Calls Tryd.prog 29 #[.slice ua xs.length uc, .agg #[.int .i64 (F : Int), .int .i64 (F : Int), .int .i64 (F : Int), .int .i64 (F : Int), .int .i64 (F : Int), .int .i64 (F : Int), .int .i64 (F : Int)], .agg #[.int .i64 a, .int .u64 m], .int .i64 bd] wr fun e V => e = .returned (capRet (capB xs (sevenF F) a m bd) (capF xs bd (sevenF F) (MM.bitsOf m))) ∧ Below wr.heap.size wr V from scap_any (cs := sevenF F) wr ((HU.out.below HB.out.1.1).mono HB.out.1.1.size) HX.out HBIG.out (HTZ.out.on HB.out.1.1) rfl HM.out)
            have HLV := Lib.hid (show levB xs.length [d0, d1, d2, d3, d4, d5, d6] = true by rw [← eL]; exact capF_lev _ HR.out HBD.out HLF.out)
            clear eL
            go_upto_region 13 with (go_at_call 29; refine HCP.out.mono ?_; rintro e w5 ⟨rfl, hb⟩; rw [HCR.out]; have HX5 := Lib.hid (HB.out.1.on hb); clear hb hc0 hc1)
            have HUN := Lib.hid (show LL.ab xs y1.toNat bd.toNat = (LL.ab xs a.toNat bd.toNat && LL.ab xs pc.toNat d6.toNat && underI xs [d0, d1, d2, d3, d4, d5, d6] rest rest.length) by
              obtain ⟨bn, hbn⟩ := Int.eq_ofNat_of_zero_le HBD.out.1
              have h := under_all HX.out HP.out HTOP.out (b := bn) (by have := HBD.out.2; omega)
              have h2 := HLE.out
              rw [hbn] at h2
              rw [h2] at h
              rw [HYE.out, hbn, Int.toNat_natCast, Int.toNat_natCast]
              exact h)
            have HRF := Lib.hid (show rfitB xs.length a m rest.length = true by
              unfold rfitB labOk
              rw [decide_eq_true HP.out.lev, bitsIn_iff.2 (fun i hi => by have := HP.out.fit i hi; rwa [lows_len] at this)]
              rfl)
            have HPC := Lib.hid (show 0 ≤ pc ∧ pc < xs.length from HP.out.place)
            have HRS := Lib.hid (show ∀ i, i < rest.length → 0 ≤ rest[i]?.getD 0 ∧ rest[i]?.getD 0 < (xs.length : Int) from fun i hi => by
              have h := HP.out.args i (by rw [lows_len]; exact hi)
              rw [lows_at hi] at h
              exact h)
            have HLR := Lib.hid (show ∀ i, i < 7 → (0 : Int) ≤ ([d0, d1, d2, d3, d4, d5, d6] : List Int)[i]?.getD 0 ∧ ([d0, d1, d2, d3, d4, d5, d6] : List Int)[i]?.getD 0 < (xs.length : Int) from fun i hi => levB_iff.1 HLV.out _ (GG.getD_mem (d := 0) (by simpa using hi)))
            have HD6 := Lib.hid (show 0 ≤ d6 ∧ d6 < xs.length from HLR.out 6 (by omega))
            obtain ⟨u1, eu1⟩ : ∃ u1, u1 = LL.ab xs a.toNat bd.toNat := ⟨_, rfl⟩
            obtain ⟨u2, eu2⟩ : ∃ u2, u2 = LL.ab xs pc.toNat d6.toNat := ⟨_, rfl⟩
            rw [← eu1, ← eu2] at HUN
            have HU1 := Lib.hid eu1
            have HU2 := Lib.hid eu2
            obtain ⟨cb, ecb⟩ : ∃ cb, cb = w5.heap.size := ⟨_, rfl⟩
            have HX6 := Lib.hid (show UndBx W a m cb [d0, d1, d2, d3, d4, d5, d6] (w5.alloc (.cells #[.int .i64 d0, .int .i64 d1, .int .i64 d2, .int .i64 d3, .int .i64 d4, .int .i64 d5, .int .i64 d6] 56)) from ⟨HX5.out.on ((Below.refl w5.heap.size w5).alloc (Nat.le_refl _) _), by rw [ecb]; exact HX5.out.2.1, by rw [ecb]; exact heap_alloc_new _ _⟩)
            rw [← ecb]
            generalize w5.alloc (.cells #[.int .i64 d0, .int .i64 d1, .int .i64 d2, .int .i64 d3, .int .i64 d4, .int .i64 d5, .int .i64 d6] 56) = w6 at HX6 ⊢
            clear eu1 eu2 ecb HX5 HCP HCR HB HX4 HLV HLE HLF HCB
            obtain ⟨hc0, hc1⟩ := HX6.out.1.cells
            go_cut [16] from 82 (fun s16 w9 => s16 = .bool (u1 && u2) ∧ UndBx W a m cb [d0, d1, d2, d3, d4, d5, d6] w9)
            case first =>
              cases u1 with
              | false =>
                go_wp2_with (go_at_call 32; refine (HLQ.out w6 HX6.out.1.1 a bd HP.out.lev HBD.out).mono ?_; rintro e w7 ⟨rfl, hb⟩; rw [← HU1.out]; have HX7 := Lib.hid (HX6.out.on hb); clear hb)
                go_meet
                case rel => exact ⟨rfl, HX7.out⟩
              | true =>
                go_wp2_with (first
                  | (go_at_call 32; clear hc0 hc1; refine (HLQ.out w6 HX6.out.1.1 a bd HP.out.lev HBD.out).mono ?_; rintro e w7 ⟨rfl, hb⟩; rw [← HU1.out]; have HX7 := Lib.hid (HX6.out.on hb); have hd6 : w7.cell? ⟨cb, 6, none⟩ = some (.int .i64 d6) := (HX7.out.at (z := 6) (by simp)).1; clear hb)
                  | (go_at_call 32; refine (HLQ.out w7 HX7.out.1.1 pc d6 HPC.out HD6.out).mono ?_; rintro e w8 ⟨rfl, hb⟩; rw [← HU2.out]; have HX8 := Lib.hid (HX7.out.on hb); clear hb hd6))
                go_meet
                case rel => exact ⟨rfl, HX8.out⟩
            case rest =>
              obtain ⟨rfl, hx9⟩ := hcut
              have HX9 := Lib.hid hx9
              clear hx9 HX6 hc0 hc1
              go_wp2_with fail
              go_loopw [16, 17] (fun s k wr => ∃ (i : Nat) (u : Bool), i ≤ rest.length ∧ k = .int .i64 (i : Int) ∧ s = .bool u ∧ RowKit.Hid (UndBx W a m cb [d0, d1, d2, d3, d4, d5, d6] wr) ∧ RowKit.Hid (u = (u1 && u2 && underI xs [d0, d1, d2, d3, d4, d5, d6] rest i))) (fun _ k _ => rest.length - (intOf k).toNat)
              case atStart => exact ⟨0, u1 && u2, Nat.zero_le _, rfl, rfl, HX9, Lib.hid (by simp [underI])⟩
              case round =>
                obtain ⟨i, u, hi, rfl, rfl, HB, HT⟩ := hrel
                clear HX9
                by_cases hlt : i < rest.length
                · have i1 : (0 : Int) ≤ i ∧ (i : Int) < rest.length := by omega
                  have i2 : decide ((i : Int) < rest.length) = true := decide_eq_true i1.2
                  have i3 : (0 : Int) ≤ i ∧ (i : Int) < 7 := by omega
                  have i7 : i < 7 := by omega
                  have HSN := Lib.hid (underI_succ (xs := xs) (L := [d0, d1, d2, d3, d4, d5, d6]) (rest := rest) (i := i))
                  cases u with
                  | false =>
                    have HTN := Lib.hid (show false = (u1 && u2 && underI xs [d0, d1, d2, d3, d4, d5, d6] rest (i + 1)) by rw [HSN.out, ← Bool.and_assoc, ← HT.out, Bool.false_and])
                    go_upto_region 17 with fail
                    have HB1 := Lib.hid HB.out.drew
                    refine wp_region_held_drew (S := (fun V => True)) (by kernel_rfl) trivial (fun hHeld => ?_)
                    generalize wr.drew = w0 at HB1 hHeld ⊢
                    refine wpAnyH_take (i := 0) (v := .bool false) rfl (by kernel_rfl) (by kernel_rfl) (by kernel_rfl) (fun _ _ _ h => h) (Or.inl ⟨by rfl, fun W hSW => ?_⟩) hHeld ?_
                    · ((try dsimp only at hSW); go_split_ands; go_simp <;> with_reducible rfl)
                    try simp only [List.getElem_toArray, List.getElem_cons_succ, List.getElem_cons_zero, Act.put, List.setIfInBounds_toArray, List.set_cons_zero, List.set_cons_succ]
                    refine wpAnyH_take (i := 1) (v := .bool false) rfl (by kernel_rfl) (by kernel_rfl) (by kernel_rfl) (fun _ _ _ h => h) (Or.inl ⟨by rfl, fun W hSW => ?_⟩) hHeld ?_
                    · ((try dsimp only at hSW); go_split_ands; go_simp <;> with_reducible rfl)
                    try simp only [List.getElem_toArray, List.getElem_cons_succ, List.getElem_cons_zero, Act.put, List.setIfInBounds_toArray, List.set_cons_zero, List.set_cons_succ]
                    refine wpAnyH_take (i := 2) (v := undef) rfl (by kernel_rfl) (by kernel_rfl) (by kernel_rfl) (fun _ _ _ h => h) (Or.inr ⟨by rfl, rfl⟩) hHeld ?_
                    try simp only [List.getElem_toArray, List.getElem_cons_succ, List.getElem_cons_zero, Act.put, List.setIfInBounds_toArray, List.set_cons_zero, List.set_cons_succ]
                    refine wpAnyH_take (i := 3) (v := undef) rfl (by kernel_rfl) (by kernel_rfl) (by kernel_rfl) (fun _ _ _ h => h) (Or.inr ⟨by rfl, rfl⟩) hHeld ?_
                    try simp only [List.getElem_toArray, List.getElem_cons_succ, List.getElem_cons_zero, Act.put, List.setIfInBounds_toArray, List.set_cons_zero, List.set_cons_succ]
                    refine wpAnyH_take (i := 4) (v := undef) rfl (by kernel_rfl) (by kernel_rfl) (by kernel_rfl) (fun _ _ _ h => h) (Or.inr ⟨by rfl, rfl⟩) hHeld ?_
                    try simp only [List.getElem_toArray, List.getElem_cons_succ, List.getElem_cons_zero, Act.put, List.setIfInBounds_toArray, List.set_cons_zero, List.set_cons_succ]
                    refine wpAnyH_take (i := 5) (v := undef) rfl (by kernel_rfl) (by kernel_rfl) (by kernel_rfl) (fun _ _ _ h => h) (Or.inr ⟨by rfl, rfl⟩) hHeld ?_
                    try simp only [List.getElem_toArray, List.getElem_cons_succ, List.getElem_cons_zero, Act.put, List.setIfInBounds_toArray, List.set_cons_zero, List.set_cons_succ]
                    refine wpAnyH_take (i := 6) (v := undef) rfl (by kernel_rfl) (by kernel_rfl) (by kernel_rfl) (fun _ _ _ h => h) (Or.inr ⟨by rfl, rfl⟩) hHeld ?_
                    try simp only [List.getElem_toArray, List.getElem_cons_succ, List.getElem_cons_zero, Act.put, List.setIfInBounds_toArray, List.set_cons_zero, List.set_cons_succ]
                    refine wpAnyH_take (i := 7) (v := undef) rfl (by kernel_rfl) (by kernel_rfl) (by kernel_rfl) (fun _ _ _ h => h) (Or.inr ⟨by rfl, rfl⟩) hHeld ?_
                    try simp only [List.getElem_toArray, List.getElem_cons_succ, List.getElem_cons_zero, Act.put, List.setIfInBounds_toArray, List.set_cons_zero, List.set_cons_succ]
                    refine wpAnyH_take (i := 8) (v := undef) rfl (by kernel_rfl) (by kernel_rfl) (by kernel_rfl) (fun _ _ _ h => h) (Or.inr ⟨by rfl, rfl⟩) hHeld ?_
                    try simp only [List.getElem_toArray, List.getElem_cons_succ, List.getElem_cons_zero, Act.put, List.setIfInBounds_toArray, List.set_cons_zero, List.set_cons_succ]
                    refine wpAnyH_take (i := 9) (v := undef) rfl (by kernel_rfl) (by kernel_rfl) (by kernel_rfl) (fun _ _ _ h => h) (Or.inr ⟨by rfl, rfl⟩) hHeld ?_
                    try simp only [List.getElem_toArray, List.getElem_cons_succ, List.getElem_cons_zero, Act.put, List.setIfInBounds_toArray, List.set_cons_zero, List.set_cons_succ]
                    refine wpAnyH_take (i := 10) (v := undef) rfl (by kernel_rfl) (by kernel_rfl) (by kernel_rfl) (fun _ _ _ h => h) (Or.inr ⟨by rfl, rfl⟩) hHeld ?_
                    try simp only [List.getElem_toArray, List.getElem_cons_succ, List.getElem_cons_zero, Act.put, List.setIfInBounds_toArray, List.set_cons_zero, List.set_cons_succ]
                    refine wpAnyH_take (i := 11) (v := .bool false) rfl (by kernel_rfl) (by kernel_rfl) (by kernel_rfl) (fun _ _ _ h => h) (Or.inl ⟨by rfl, fun W hSW => ?_⟩) hHeld ?_
                    · ((try dsimp only at hSW); go_split_ands; go_simp <;> with_reducible rfl)
                    try simp only [List.getElem_toArray, List.getElem_cons_succ, List.getElem_cons_zero, Act.put, List.setIfInBounds_toArray, List.set_cons_zero, List.set_cons_succ]
                    refine wpAnyH_take (i := 12) (v := .bool false) rfl (by kernel_rfl) (by kernel_rfl) (by kernel_rfl) (fun _ _ _ h => h) (Or.inl ⟨by rfl, fun W hSW => ?_⟩) hHeld ?_
                    · ((try dsimp only at hSW); go_split_ands; go_simp <;> with_reducible rfl)
                    try simp only [List.getElem_toArray, List.getElem_cons_succ, List.getElem_cons_zero, Act.put, List.setIfInBounds_toArray, List.set_cons_zero, List.set_cons_succ]
                    refine wpAnyH_done (by kernel_rfl) ?_ _
                    clear hHeld
                    go_wp2_with fail
                    go_roundw
                    case rel => exact ⟨i + 1, false, by omega, by go_num, rfl, Lib.hid HB1.out, Lib.hid HTN.out⟩
                    case measure => simp [intOf]; omega
                  | true =>
                    obtain ⟨y, ey⟩ : ∃ y, y = rest[i]?.getD 0 := ⟨_, rfl⟩
                    obtain ⟨x, ex⟩ : ∃ x, x = ([d0, d1, d2, d3, d4, d5, d6] : List Int)[i]?.getD 0 := ⟨_, rfl⟩
                    have HYY := Lib.hid (show 0 ≤ y ∧ y < xs.length by rw [ey]; exact HRS.out i hlt)
                    have HXX := Lib.hid (show 0 ≤ x ∧ x < xs.length by rw [ex]; exact HLR.out i i7)
                    obtain ⟨t2, et2⟩ : ∃ t2, t2 = LL.ab xs y.toNat x.toNat := ⟨_, rfl⟩
                    have HT2 := Lib.hid et2
                    have HTN := Lib.hid (show t2 = (u1 && u2 && underI xs [d0, d1, d2, d3, d4, d5, d6] rest (i + 1)) by rw [HSN.out, ← ey, ← ex, ← Bool.and_assoc, ← HT.out, Bool.true_and, et2])
                    obtain ⟨rb, ro, rfl, hcr⟩ := (HRW.out.below HB.out.1.1).cellAt (k := i) hlt
                    rw [← ey] at hcr
                    have HCR := Lib.hid hcr
                    have HCL := Lib.hid (HB.out.at (z := i) (by simpa using i7)).1
                    rw [← ex] at HCL
                    clear ey ex et2 hcr
                    go_upto_region 17 with fail
                    have HB1 := Lib.hid HB.out.drew
                    refine wp_region_held_drew (S := (fun V => V.cell? ⟨rb, ro + i, none⟩ = some (.int .i64 y) ∧ V.cell? ⟨cb, i, none⟩ = some (.int .i64 x))) (by kernel_rfl) ?_ (fun hHeld => ?_)
                    · exact ⟨HCR.out, HCL.out⟩
                    have HCR1 := Lib.hid (show wr.drew.cell? ⟨rb, ro + i, none⟩ = some (.int .i64 y) from HCR.out)
                    have HCL1 := Lib.hid (show wr.drew.cell? ⟨cb, i, none⟩ = some (.int .i64 x) from HCL.out)
                    clear HCR HCL HB
                    generalize wr.drew = w0 at HB1 HCR1 HCL1 hHeld ⊢
                    have HRB := Lib.hid (show rb < w0.heap.size by
                      have h := HCR1.out
                      exact cell_ltU h)
                    have HR0 := Lib.hid (Below.refl w0.heap.size w0)
                    refine wpAnyH_take (i := 0) (v := .bool true) rfl (by kernel_rfl) (by kernel_rfl) (by kernel_rfl) (fun _ _ _ h => h) (Or.inl ⟨by rfl, fun W hSW => ?_⟩) hHeld ?_
                    · ((try dsimp only at hSW); go_split_ands; go_simp <;> with_reducible rfl)
                    try simp only [List.getElem_toArray, List.getElem_cons_succ, List.getElem_cons_zero, Act.put, List.setIfInBounds_toArray, List.set_cons_zero, List.set_cons_succ]
                    refine wpAnyH_take (i := 1) (v := .bool true) rfl (by kernel_rfl) (by kernel_rfl) (by kernel_rfl) (fun _ _ _ h => h) (Or.inl ⟨by rfl, fun W hSW => ?_⟩) hHeld ?_
                    · ((try dsimp only at hSW); go_split_ands; go_simp <;> with_reducible rfl)
                    try simp only [List.getElem_toArray, List.getElem_cons_succ, List.getElem_cons_zero, Act.put, List.setIfInBounds_toArray, List.set_cons_zero, List.set_cons_succ]
                    refine wpAnyH_take (i := 2) (v := .slice ua xs.length uc) rfl (by kernel_rfl) (by kernel_rfl) (by kernel_rfl) (fun _ _ _ h => h) (Or.inl ⟨by rfl, fun W hSW => ?_⟩) hHeld ?_
                    · ((try dsimp only at hSW); go_split_ands; go_simp <;> with_reducible rfl)
                    try simp only [List.getElem_toArray, List.getElem_cons_succ, List.getElem_cons_zero, Act.put, List.setIfInBounds_toArray, List.set_cons_zero, List.set_cons_succ]
                    refine wpAnyH_take (i := 3) (v := .slice (some ⟨rb, ro, none⟩) rest.length rc) rfl (by kernel_rfl) (by kernel_rfl) (by kernel_rfl) (fun _ _ _ h => h) (Or.inl ⟨by rfl, fun W hSW => ?_⟩) hHeld ?_
                    · ((try dsimp only at hSW); go_split_ands; go_simp <;> with_reducible rfl)
                    try simp only [List.getElem_toArray, List.getElem_cons_succ, List.getElem_cons_zero, Act.put, List.setIfInBounds_toArray, List.set_cons_zero, List.set_cons_succ]
                    refine wpAnyH_take (i := 4) (v := .int .i64 i) rfl (by kernel_rfl) (by kernel_rfl) (by kernel_rfl) (fun _ _ _ h => h) (Or.inl ⟨by rfl, fun W hSW => ?_⟩) hHeld ?_
                    · ((try dsimp only at hSW); go_split_ands; go_simp <;> with_reducible rfl)
                    try simp only [List.getElem_toArray, List.getElem_cons_succ, List.getElem_cons_zero, Act.put, List.setIfInBounds_toArray, List.set_cons_zero, List.set_cons_succ]
                    refine wpAnyH_take (i := 5) (v := .pointer (some ⟨rb, ro + i, none⟩)) rfl (by kernel_rfl) (by kernel_rfl) (by kernel_rfl) (fun _ _ _ h => h) (Or.inl ⟨by rfl, fun W hSW => ?_⟩) hHeld ?_
                    · ((try dsimp only at hSW); go_split_ands; go_simp <;> with_reducible rfl)
                    try simp only [List.getElem_toArray, List.getElem_cons_succ, List.getElem_cons_zero, Act.put, List.setIfInBounds_toArray, List.set_cons_zero, List.set_cons_succ]
                    refine wpAnyH_take (i := 6) (v := .int .i64 y) rfl (by kernel_rfl) (by kernel_rfl) (by kernel_rfl) (fun _ _ _ h => h) (Or.inl ⟨by rfl, fun W hSW => ?_⟩) hHeld ?_
                    · ((try dsimp only at hSW); go_split_ands; go_simp <;> with_reducible rfl)
                    try simp only [List.getElem_toArray, List.getElem_cons_succ, List.getElem_cons_zero, Act.put, List.setIfInBounds_toArray, List.set_cons_zero, List.set_cons_succ]
                    refine wpAnyH_take (i := 7) (v := .int .i64 i) rfl (by kernel_rfl) (by kernel_rfl) (by kernel_rfl) (fun _ _ _ h => h) (Or.inl ⟨by rfl, fun W hSW => ?_⟩) hHeld ?_
                    · ((try dsimp only at hSW); go_split_ands; go_simp <;> with_reducible rfl)
                    try simp only [List.getElem_toArray, List.getElem_cons_succ, List.getElem_cons_zero, Act.put, List.setIfInBounds_toArray, List.set_cons_zero, List.set_cons_succ]
                    refine wpAnyH_take (i := 8) (v := .pointer (some ⟨cb, i, none⟩)) rfl (by kernel_rfl) (by kernel_rfl) (by kernel_rfl) (fun _ _ _ h => h) (Or.inl ⟨by rfl, fun W hSW => ?_⟩) hHeld ?_
                    · ((try dsimp only at hSW); go_split_ands; go_simp <;> with_reducible rfl)
                    try simp only [List.getElem_toArray, List.getElem_cons_succ, List.getElem_cons_zero, Act.put, List.setIfInBounds_toArray, List.set_cons_zero, List.set_cons_succ]
                    refine wpAnyH_take (i := 9) (v := .int .i64 x) rfl (by kernel_rfl) (by kernel_rfl) (by kernel_rfl) (fun _ _ _ h => h) (Or.inl ⟨by rfl, fun W hSW => ?_⟩) hHeld ?_
                    · ((try dsimp only at hSW); go_split_ands; go_simp <;> with_reducible rfl)
                    try simp only [List.getElem_toArray, List.getElem_cons_succ, List.getElem_cons_zero, Act.put, List.setIfInBounds_toArray, List.set_cons_zero, List.set_cons_succ]
                    refine wpAnyH_ready (rs := [10]) (by kernel_rfl) (by simp) ?_
                    refine AllReadyH.cons rfl (fun K hK => ?_) ?_
                    · try simp only [List.getElem_toArray, List.getElem_cons_succ, List.getElem_cons_zero]
                      go_simp
                      (go_at_call 32; refine (HLQ.out w0 HB1.out.1.1 y x HYY.out HXX.out).mono ?_; rintro e wy1 ⟨rfl, hb⟩; rw [← HT2.out])
                      have F1_base := Lib.hid (HR0.out.trans (hb.mono HR0.out.size))
                      clear hb
                      try go_wp2_with fail
                      refine hK.out _ _ ?_ (fun hHeld => ?_)
                      · exact ⟨(F1_base.out.cell (p := ⟨rb, ro + i, none⟩) HRB.out).trans HCR1.out, (F1_base.out.cell (p := ⟨cb, i, none⟩) (Array.getElem?_eq_some_iff.1 HB1.out.2.2).1).trans HCL1.out⟩
                      clear hK K
                      try simp only [List.getElem_toArray, List.getElem_cons_succ, List.getElem_cons_zero, Act.put, List.setIfInBounds_toArray, List.set_cons_zero, List.set_cons_succ]
                      refine wpAnyH_take (i := 11) (v := .bool t2) rfl (by kernel_rfl) (by kernel_rfl) (by kernel_rfl) (fun _ _ _ h => h) (Or.inl ⟨by rfl, fun W hSW => ?_⟩) hHeld ?_
                      · ((try dsimp only at hSW); go_split_ands; go_simp <;> with_reducible rfl)
                      try simp only [List.getElem_toArray, List.getElem_cons_succ, List.getElem_cons_zero, Act.put, List.setIfInBounds_toArray, List.set_cons_zero, List.set_cons_succ]
                      refine wpAnyH_take (i := 12) (v := .bool t2) rfl (by kernel_rfl) (by kernel_rfl) (by kernel_rfl) (fun _ _ _ h => h) (Or.inl ⟨by rfl, fun W hSW => ?_⟩) hHeld ?_
                      · ((try dsimp only at hSW); go_split_ands; go_simp <;> with_reducible rfl)
                      try simp only [List.getElem_toArray, List.getElem_cons_succ, List.getElem_cons_zero, Act.put, List.setIfInBounds_toArray, List.set_cons_zero, List.set_cons_succ]
                      refine wpAnyH_done (by kernel_rfl) ?_ _
                      clear hHeld
                      go_wp2_with fail
                      go_roundw
                      case rel => exact ⟨i + 1, t2, by omega, by go_num, rfl, Lib.hid (HB1.out.on F1_base.out), Lib.hid HTN.out⟩
                      case measure => simp [intOf]; omega
                    exact AllReadyH.nil
                · obtain rfl : i = rest.length := by omega
                  have hu := HT.out
                  rw [← HUN.out] at hu
                  have HUV := Lib.hid hu
                  have i2 : decide ((rest.length : Int) < rest.length) = false := decide_eq_false (by omega)
                  obtain ⟨hc0, hc1⟩ := HB.out.1.cells
                  clear hu HT
                  cases u
                  all_goals (
                    go_wp2_with (first
                      | (go_at_call 32; refine (HLQ.out wr HB.out.1.1 y1 bd HYR.out HBD.out).mono ?_; rintro e w7 ⟨rfl, hb⟩; rw [← HUV.out]; have HX7 := Lib.hid (HB.out.on hb); clear hb hc0 hc1; obtain ⟨hc0, hc1⟩ := HX7.out.1.cells)
                      | (go_at_call 24; refine (rfits_any _ _ _ _ _ _ _ HM.out (by omega)).mono ?_; rintro e w8 ⟨rfl, hb⟩; rw [HRF.out]; have HX8 := Lib.hid (HX7.out.on hb); clear hb hc0 hc1)
                      | (go_at_call 20; refine (HAW.out _ HX8.out.1.1).mono ?_; rintro e w9 ⟨rfl, hb⟩; have HF := Lib.hid (HX8.out.on hb); clear hb))
                    go_ret
                    exact ⟨rfl, HF.out.1.1⟩)
theorem symUnder_all {uv : Value} {xs : List Int} {a m : Int} {aa : Option Addr} {len cap : Nat} {zs : List Int} (W : World) (h : Nums .u64 W.heap.size W uv xs ∧ Wide xs ∧ xs.length ≤ big5 ∧ ∀ n c, uv = .slice none n c → c = 0) (hT : Tz W) (hm : 0 ≤ m ∧ m ≤ 18446744073709551615) (hz : IsRow .i64 W aa len cap zs) (hs : len ≤ 17592186044416) :
    Calls Tryd.prog 9 #[uv, .agg #[.int .i64 a, .int .u64 m], .slice aa len cap] W fun e V => e = .returned (.bool true) ∧ Below W.heap.size W V := by
  obtain ⟨ua, uc, rfl⟩ := h.1.form
  obtain ⟨h1, h2⟩ := row_of_isRow hz
  have h3 := symUnder_walk (aa := aa) (ac := cap) (args := zs.take len) (m := m) (a := a) W h.1 h.2.1 h.2.2.1 hT (by rw [h2]; exact h1) (by rw [h2]; exact hs) hm
  rw [h2] at h3
  exact h3
end Go.Proofs.YtodhoplchficpaaDoor
