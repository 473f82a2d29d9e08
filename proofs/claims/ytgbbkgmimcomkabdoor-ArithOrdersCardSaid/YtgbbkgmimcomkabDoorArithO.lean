import Derived.Test.YtgbbkgmimcomkabDoorArithM
import Derived.Maps.Own
import Derived.Maps.OwnOps
import Derived.Maps.Views
/-! layer 4: the project's does: a map of function literals, made and asked in one call -/
namespace Go.Proofs.YtgbbkgmimcomkabDoor
set_option linter.unusedVariables false
open Go.RowKit
open Go.Maps (Keyed int_keyed keyOf_int_mk)

/-- how a function literal that captures nothing reads: by its number -/
def fnElem (v : Value) : Option (DataW Unit × List MemPlace) :=
  match v with
  | .func (.func g) f c => match f.toList, c.toList with
    | [], [] => some (.lit (.int .i64 (g : Int)), [])
    | _, _ => none
  | .nilFunc => some (.nil, [])
  | _ => none
theorem fnElem_fn {v : Value} {g : Nat} {ps : List MemPlace} (h : fnElem v = some (.lit (.int .i64 (g : Int)), ps)) : v = .func (.func g) #[] #[] := by
  unfold fnElem at h
  split at h
  · rename_i g' f c
    split at h
    · rename_i hf hc
      simp only [Option.some.injEq, Prod.mk.injEq, DataW.lit.injEq, Lit.int.injEq] at h
      have e : g' = g := by
        obtain ⟨⟨_, e⟩, _⟩ := h
        exact Int.ofNat.inj e
      subst e
      obtain ⟨f⟩ := f
      obtain ⟨c⟩ := c
      simp only at hf hc
      subst hf
      subst hc
      rfl
    · cases h
  · cases h
  · cases h
theorem fnElem_nil {v : Value} {ps : List MemPlace} (h : fnElem v = some (.nil, ps)) : v = .nilFunc := by
  unfold fnElem at h
  split at h
  · split at h <;> cases h
  · rfl
  · cases h

/-- a look-up in a map of the call's own, whatever its elements are -/
theorem wpList_lookup_any {H : Type} {P : Program} (w : World) {ops : Array Oper} {rest : List Oper} {o : Oper} {a : Act} {Q : Exit → Act → World → Prop}
    (hg : o.guard = none) (m x : Operand) (t : TypeId) (hop : o.op = Op.lookup t m x false)
    (k e : TypeId) (K : Keyed P k) (ht : P.underlying t = some (.map k e)) (R : Value → Option (DataW H × List MemPlace)) (z : Value) (hz : (zeroValue e).run P w = .ok z w) (zd : DataW H) (zp : List MemPlace) (hzd : R z = some (zd, zp)) (b n : Nat) (D : DataW H)
    (hm : a.eval m = .map (some b)) (hown : w.ownsMap P k R b n D) (key : Value) (kl : Lit) (hx : a.eval x = key) (hkey : keyOf P k key = some kl)
    (hK : ∀ v ps, R v = some (D.atKey kl zd, ps) → wpList P ops Q rest (a.put o.dst v) w) :
    wpList P ops Q (o :: rest) a w := by
  refine wpList_plain hg fun K' hK' => ?_
  obtain ⟨v, ps, hrun, hv⟩ := hown.lookup K ht hz hzd hkey
  unfold Oper.wp
  simp [execOp, hop, hm, hx, hrun, Result.andThen]
  exact hK' _ _ (hK v ps hv)

/-- an entry of a map literal, put into the map of the call's own -/
theorem wpList_insert_own {H : Type} {P : Program} (w : World) {ops : Array Oper} {rest : List Oper} {o : Oper} {a : Act} {Q : Exit → Act → World → Prop}
    (hg : o.guard = none) (m x v : Operand) (t : TypeId) (hop : o.op = Op.insert t m x v)
    (k e : TypeId) (K : Keyed P k) (ht : P.underlying t = some (.map k e)) (R : Value → Option (DataW H × List MemPlace)) (b n : Nat) (D : DataW H)
    (hm : a.eval m = .map (some b)) (hown : w.ownsMap P k R b n D) (hn : n < maxLen) (key val : Value) (kl : Lit) (hx : a.eval x = key) (hv : a.eval v = val) (hkey : keyOf P k key = some kl)
    (d : DataW H) (ps : List MemPlace) (hval : R val = some (d, ps))
    (hK : ∀ w', w'.ownsMap P k R b (n + 1) (D.put kl d) → w.grownBy w' (some b) → wpList P ops Q rest (a.put o.dst undef) w') :
    wpList P ops Q (o :: rest) a w := by
  refine wpList_plain hg fun K' hK' => ?_
  obtain ⟨w', hrun, r1, r2⟩ := hown.update K ht hn hkey hval
  unfold Oper.wp
  simp [execOp, hop, hm, hx, hv, hrun, Result.andThen]
  exact hK' _ _ (hK w' r1 r2)

def fnD (g : Nat) : DataW Unit := .lit (.int .i64 (g : Int))
def k8 (n : Int) : Lit := .int .u8 n
/-- what the map holds -/
def doesD : DataW Unit :=
  (((((((((((((DataW.map []).put (k8 1) (fnD 15)).put (k8 2) (fnD 16)).put (k8 3) (fnD 17)).put (k8 4) (fnD 18)).put (k8 5) (fnD 19)).put (k8 6) (fnD 20)).put (k8 7) (fnD 21)).put (k8 8) (fnD 22)).put (k8 9) (fnD 23)).put (k8 10) (fnD 24)).put (k8 11) (fnD 25)).put (k8 12) (fnD 27))

theorem law8 : Keyed Tryd.prog 5 := int_keyed Tryd.underlying5
theorem wf8 {a : Int} (h0 : 0 ≤ a) (h1 : a ≤ 255) : (Lit.int .u8 a).wf = true := by
  simp only [Lit.wf, Bool.and_eq_true, decide_eq_true_eq]; exact ⟨h0, h1⟩
theorem key8 {a : Int} (h0 : 0 ≤ a) (h1 : a ≤ 255) : keyOf Tryd.prog 5 (.int .u8 a) = some (k8 a) := keyOf_int_mk Tryd.underlying5 (wf8 h0 h1)
theorem zeroFn (w : World) : (zeroValue 37).run Tryd.prog w = .ok .nilFunc w := by kernel_rfl

set_option maxRecDepth 100000 in
set_option maxHeartbeats 3200000 in
theorem does_any (op : Int) (h0 : 0 ≤ op) (h1 : op ≤ 255) (w : World) :
    Calls Tryd.prog 14 #[.int .u8 op] w fun e w' => ∃ v ps, e = .returned v ∧ fnElem v = some (doesD.atKey (k8 op) .nil, ps) ∧ Below w.heap.size w w' := by
  have hmm := @run_makeMap Tryd.prog
  have hkey := Lib.hid (key8 h0 h1)
  clear h0 h1
  have hown : (w.alloc (.map #[] 0)).ownsMap Tryd.prog 5 fnElem w.heap.size 0 (.map []) := World.ownsMap_made _ _ _ _
  have hb : Below w.heap.size w (w.alloc (.map #[] 0)) := (Below.refl _ _).alloc (Nat.le_refl _) _
  go_enter Tryd.func14, Tryd.ntmps14
  go_wp2_with (first
    | (refine wpList_insert_own _ rfl _ _ _ 40 rfl 5 37 law8 Tryd.underlying40 fnElem w.heap.size _ _ rfl hown (by unfold maxLen; omega) _ _ _ rfl rfl (key8 (by omega) (by omega)) (fnD _) [] rfl ?_
       clear hown
       intro w1 hown hg
       have hb1 := hb.grown hg hb.size (fun k e => by cases e; exact Nat.le_refl _)
       clear hb hg
       have hb := hb1
       clear hb1)
    | (at_lookup
       refine wpList_lookup_any _ rfl _ _ 40 rfl 5 37 law8 Tryd.underlying40 fnElem _ (zeroFn _) _ _ rfl w.heap.size _ _ rfl hown _ _ rfl hkey.out ?_
       intro v ps hv)
    | fail)
  go_ret
  exact ⟨_, _, rfl, hv, hb⟩
end Go.Proofs.YtgbbkgmimcomkabDoor
