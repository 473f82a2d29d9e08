import Derived.Test.YtodhoplchficpaaDoorSymW
set_option linter.unusedSimpArgs false
set_option linter.unusedVariables false
/-! sym, plain: higher args -/
namespace Go.Proofs.YtodhoplchficpaaDoor
open Go.RowKit
open SV (Lab SysOk Least labs sumOf mu sumP at' natsL askT askI fanN lok ljoin val le Bnd)
theorem labV_setS {l : List (Int × Int)} {q : Nat} (hq : q < l.length) (p : Int × Int) : ((labV l).set (q * 2) (.int .i64 p.1)).set (q * 2 + 1) (.int .u64 p.2) = labV (l.set q p) := by
  induction l generalizing q with
  | nil => simp at hq
  | cons e l ih =>
    cases q with
    | zero => simp [labV]
    | succ q =>
      have := ih (q := q) (by simpa using hq)
      have e1 : (q + 1) * 2 = q * 2 + 2 := by omega
      rw [e1]
      unfold labV at this ⊢
      rw [List.flatMap_cons, List.set_cons_succ, List.flatMap_cons]
      simpa using this
variable {xs : List Int} {c : List (Int × Int)} {tq : List (List Int)} {q nd : Nat} {a : Nat} {m : Int}
theorem mod_natS (y : Int) (n : Nat) (h : 0 < n) : ∃ q : Nat, (IntKind.u64.wrap y).tmod (n : Int) = (q : Int) ∧ q < n := by
  have h1 : 0 ≤ IntKind.u64.wrap y := by rw [IntKind.wrap_u64]; omega
  have h2 : 0 ≤ IntKind.u64.wrap y % (n : Int) := Int.emod_nonneg _ (by omega)
  have h3 : IntKind.u64.wrap y % (n : Int) < n := Int.emod_lt_of_pos _ (by omega)
  refine ⟨(IntKind.u64.wrap y % (n : Int)).toNat, ?_, by omega⟩
  rw [Int.tmod_eq_emod_of_nonneg h1]
  omega
theorem u64_natS (n : Nat) (h : (n : Int) ≤ 17592186044416) : IntKind.u64.wrap (n : Int) = (n : Int) := by rw [IntKind.wrap_u64]; omega
theorem i64_natS (n : Nat) (h : (n : Int) ≤ 17592186044416) : IntKind.i64.wrap (n : Int) = (n : Int) := by rw [IntKind.wrap_i64]; omega
/-- args, and higher ones -/
structure GrownA (xs : List Int) (hr : LL.rightB xs = true) (hw : Wide xs) (args new : List (Int × Int)) : Prop where
  len : new.length = args.length
  wide : WideL new
  lev : ∀ i, i < args.length → 0 ≤ (new[i]?.getD s0).1 ∧ (new[i]?.getD s0).1 < xs.length
  le : ∀ i, i < args.length → le (labs xs hr hw) (at' (natL args) i) (at' (natL new) i)
theorem lok_of {xs : List Int} {p : Int × Int} (h : 0 ≤ p.1 ∧ p.1 < xs.length) (hw : 0 ≤ p.2 ∧ p.2 ≤ 18446744073709551615) : lok xs (p.1.toNat, p.2) := ⟨by show p.1.toNat < xs.length; omega, hw⟩
theorem grownA_refl {xs : List Int} {a m : Int} {args : List (Int × Int)} {pc : Int × Int} (h : PutOk xs a m args pc) (hw : Wide xs) (hwa : WideL args) : GrownA xs h.right hw args args :=
  ⟨rfl, hwa, h.args, fun i hi => SV.le_refl (by rw [natL_at hi]; exact lok_of (h.args i hi) (hwa _ (GG.getD_mem (d := s0) hi)))⟩
/-- a label's join, as it is kept -/
def joinI2 (xs : List Int) (p r : Int × Int) : Int × Int := (((ljoin xs (p.1.toNat, p.2) (r.1.toNat, r.2)).1 : Int), (ljoin xs (p.1.toNat, p.2) (r.1.toNat, r.2)).2)
theorem joinI2_ok {xs : List Int} (hr : LL.rightB xs = true) (hw : Wide xs) {p r : Int × Int} (hp : lok xs (p.1.toNat, p.2)) (hq : lok xs (r.1.toNat, r.2)) : lok xs ((joinI2 xs p r).1.toNat, (joinI2 xs p r).2) ∧ le (labs xs hr hw) (p.1.toNat, p.2) ((joinI2 xs p r).1.toNat, (joinI2 xs p r).2) := by
  unfold joinI2
  rw [Int.toNat_natCast]
  exact ⟨(labs xs hr hw).cl hp hq, SV.le_left (M := labs xs hr hw) hp hq⟩
theorem set_getS {l : List (Int × Int)} {k i : Nat} (hk : k < l.length) (v : Int × Int) : (l.set k v)[i]?.getD s0 = if i = k then v else l[i]?.getD s0 := by
  rw [List.getElem?_set]
  by_cases h : k = i
  · subst h; rw [if_pos rfl, if_pos hk, if_pos rfl]; rfl
  · rw [if_neg h, if_neg (fun e => h e.symm)]
theorem grownA_set {xs : List Int} {a m : Int} {args : List (Int × Int)} {pc r : Int × Int} (h : PutOk xs a m args pc) (hw : Wide xs) (hwa : WideL args) (hq : lok xs (r.1.toNat, r.2)) {k : Nat} (hk : k < args.length) : GrownA xs h.right hw args (args.set k (joinI2 xs (args[k]?.getD s0) r)) := by
  have hok : ∀ i, i < args.length → lok xs ((args[i]?.getD s0).1.toNat, (args[i]?.getD s0).2) := fun i hi => lok_of (h.args i hi) (hwa _ (GG.getD_mem (d := s0) hi))
  have hj := joinI2_ok h.right hw (hok k hk) hq
  refine ⟨by rw [List.length_set], fun p hp => ?_, fun i hi => ?_, fun i hi => ?_⟩
  · rcases List.mem_or_eq_of_mem_set hp with h1 | rfl
    · exact hwa p h1
    · exact hj.1.2
  · rw [set_getS hk]
    by_cases e : i = k
    · rw [if_pos e]
      have := hj.1.1
      unfold joinI2 at this ⊢
      simp only at this ⊢
      omega
    · rw [if_neg e]; exact h.args i hi
  · rw [natL_at hi, natL_at (by rw [List.length_set]; exact hi), set_getS hk]
    by_cases e : i = k
    · rw [if_pos e, e]; exact hj.2
    · rw [if_neg e]; exact SV.le_refl (hok i hi)
theorem grows_all {xs : List Int} {a m : Int} {args new : List (Int × Int)} {pc r : Int × Int} (h : PutOk xs a m args pc) (hw : Wide xs) (hwa : WideL args) (hwp : 0 ≤ pc.2 ∧ pc.2 ≤ 18446744073709551615) (hm : 0 ≤ m ∧ m ≤ 18446744073709551615) (hq : lok xs (r.1.toNat, r.2)) (hg : GrownA xs h.right hw args new) :
    putB xs a m new (joinI2 xs pc r) = true ∧ sleqB xs ((putJ xs a m args pc).1 : Int) (putJ xs a m args pc).2 ((putJ xs a m new (joinI2 xs pc r)).1 : Int) (putJ xs a m new (joinI2 xs pc r)).2 = true := by
  have hpk : lok xs (pc.1.toNat, pc.2) := lok_of h.place hwp
  have hj := joinI2_ok h.right hw hpk hq
  have h2 : PutOk xs a m new (joinI2 xs pc r) :=
    ⟨by rw [hg.len]; exact h.n6, fun i hi => by rw [hg.len]; exact h.fit i hi, h.right, h.lev, by
      have := hj.1.1
      unfold joinI2 at this ⊢
      simp only at this ⊢
      omega, fun i hi => hg.lev i (by rw [hg.len] at hi; exact hi)⟩
  have o1 := putJ_ok h hw hwa hwp
  have o2 := putJ_ok h2 hw hg.wide hj.1.2
  have hle : le (labs xs h.right hw) (putJ xs a m args pc) (putJ xs a m new (joinI2 xs pc r)) := by
    have g := (putJ_le h2 hw hg.wide hj.1.2 o2).1 (SV.le_refl o2)
    refine (putJ_le h hw hwa hwp o2).2 ⟨g.1, fun i hi => ?_⟩
    have hf := h.fit i hi
    have hf2 : i < new.length ∨ i = 6 := by rw [hg.len]; exact hf
    refine SV.le_trans (h.actual hwa hwp hf) (h2.actual hg.wide hj.1.2 hf2) o2 ?_ (g.2 i hi)
    unfold actual
    by_cases e : i = 6
    · rw [if_pos e, if_pos e]; exact hj.2
    · rw [if_neg e, if_neg e]; exact hg.le i (by omega)
  refine ⟨putB_iff.2 h2, ?_⟩
  unfold sleqB
  rw [h.right, Int.toNat_natCast, Int.toNat_natCast, (le_iff h.right hw o1 o2).1 hle]
  have e1 : labOk xs.length (((putJ xs a m args pc).1 : Int), (putJ xs a m args pc).2) = true := by
    unfold labOk
    exact decide_eq_true ⟨by show (0 : Int) ≤ _; omega, by have := o1.1; show _ < _; omega⟩
  have e2 : labOk xs.length (((putJ xs a m new (joinI2 xs pc r)).1 : Int), (putJ xs a m new (joinI2 xs pc r)).2) = true := by
    unfold labOk
    exact decide_eq_true ⟨by show (0 : Int) ≤ _; omega, by have := o2.1; show _ < _; omega⟩
  rw [e1, e2]
  rfl
/-- what the join of two labels answers -/
theorem join2_ret {xs : List Int} {p r : Int × Int} : joinVal xs [p, r] [1] = ljoin xs (p.1.toNat, p.2) (r.1.toNat, r.2) := by simp [joinVal, foldJ, natL, at']
theorem jB2 {xs : List Int} {p r : Int × Int} : jB xs [p, r] = (LL.rightB xs && (labOk xs.length p && labOk xs.length r)) := by unfold jB; simp
end Go.Proofs.YtodhoplchficpaaDoor
