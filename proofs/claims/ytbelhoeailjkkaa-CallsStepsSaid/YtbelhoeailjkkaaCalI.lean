import Derived.Test.YtbelhoeailjkkaaCalH
set_option linter.unusedSimpArgs false
set_option linter.unusedVariables false
/-! calls: Groups -/
namespace Go.Proofs.Ytbelhoeailjkkaa
open Go.RowKit CC
theorem info36 : (Try.prog.info? 36).map (fun i => (i.zero, i.size)) = some (some (.agg falses), 256) := by kernel_rfl
theorem run_zero36 (w : World) : (zeroValue 36).run Try.prog w = .ok (.agg falses) w := by
  have h := info36
  cases hi : Try.prog.info? 36 with
  | none => rw [hi] at h; cases h
  | some i =>
    rw [hi] at h
    simp only [Option.map_some, Option.some.injEq, Prod.mk.injEq] at h
    simp [zeroValue, typeInfo, hi, h.1]
/-- nodes as the program's numbers -/
def gsI (gs : List (List Nat)) : List (List Int) := gs.map (fun g => g.map Int.ofNat)
theorem gsI_len (gs : List (List Nat)) : (gsI gs).length = gs.length := by simp [gsI]
/-- a row of rows of its own -/
def NewRows (B : Nat) (l : List (List Int)) (e : Ending) (W W' : World) : Prop := ∃ v vs, e = .returned v ∧ W'.ownsRow B 28 1 v l.length vs ∧ GG.Rows B W' vs l ∧ Below B W W'

/-- the variables of Groups, laid -/
theorem grp_new {w2 : World} {xb cb n : Nat} {L : Nat → Nat → Bool} {va : Option Addr} {vc : Nat} (hx : w2.heap[xb]? = some (.cells #[.slice va n vc] 22)) (hl : LeadM w2.heap.size w2 cb n L) (W5 : World)
    (e : W5 = ((((w2.alloc (.cells #[.func (.func 35) #[] #[.pointer (some ⟨cb, 0, none⟩)]] 34)).alloc (.cells #[.func (.func 20) #[] #[.pointer (some ⟨w2.heap.size, 0, none⟩)]] 34)).alloc (.cells falses 36)).alloc (.cells #[.func (.func 21) #[] #[.pointer (some ⟨xb, 0, none⟩), .pointer (some ⟨w2.heap.size, 0, none⟩), .pointer (some ⟨w2.heap.size + 1 + 1, 0, none⟩), .pointer (some ⟨w2.heap.size + 1, 0, none⟩)]] 37))) :
    GrpM w2.heap.size W5 xb w2.heap.size (w2.heap.size + 1) (w2.heap.size + 1 + 1 + 1) (w2.heap.size + 1 + 1) cb n L (fun _ => false) ∧ W5.heap.size = w2.heap.size + 4 ∧ Below w2.heap.size w2 W5 := by
  have hlt := heap_some_lt hx
  have hb : Below w2.heap.size w2 W5 := by rw [e]; exact ((((Below.refl _ _).alloc (Nat.le_refl _) _).alloc (by simp) _).alloc (by simp; omega) _).alloc (by simp; omega) _
  have hT : W5.rowIs (w2.heap.size + 1 + 1) 36 256 (fun _ => .bool false) := by
    have h := World.rowIs_alloc ((w2.alloc (.cells #[.func (.func 35) #[] #[.pointer (some ⟨cb, 0, none⟩)]] 34)).alloc (.cells #[.func (.func 20) #[] #[.pointer (some ⟨w2.heap.size, 0, none⟩)]] 34)) falses 36 (fun _ => .bool false) (fun i hi => by unfold falses at hi ⊢; rw [Array.size_replicate] at hi; simp [hi])
    have e1 : falses.size = 256 := by simp [falses]
    rw [e1] at h
    rw [e]
    refine World.rowIs.of_block (by simpa using h) ?_
    exact heap_alloc_old _ _ (by simp)
  refine ⟨⟨⟨va, vc, cell_of_one ((hb.block _ hlt).trans hx)⟩, ?_, ?_, ?_, hl.below hb, hT⟩, by rw [e]; simp, hb⟩
  · refine cell_of_one (t := 34) ?_
    rw [e, heap_alloc_old _ _ (by simp; omega), heap_alloc_old _ _ (by simp; omega), heap_alloc_old _ _ (by simp)]
    exact new_at rfl
  · refine cell_of_one (t := 34) ?_
    rw [e, heap_alloc_old _ _ (by simp), heap_alloc_old _ _ (by simp)]
    exact new_at (by simp)
  · refine cell_of_one (t := 37) ?_
    rw [e]
    exact new_at (by simp)

/-- all that was there is as it was, but for one block -/
structure Kept (tb : Nat) (A V : World) : Prop where
  os : V.os = A.os
  tape : V.tape = A.tape
  output : V.output = A.output
  size : A.heap.size ≤ V.heap.size
  block : ∀ k, k < A.heap.size → k ≠ tb → V.heap[k]? = A.heap[k]?
theorem Kept.refl (tb : Nat) (A : World) : Kept tb A A := ⟨rfl, rfl, rfl, Nat.le_refl _, fun _ _ _ => rfl⟩
theorem Kept.trans {tb : Nat} {A V Z : World} (h : Kept tb A V) (g : Kept tb V Z) : Kept tb A Z :=
  ⟨g.os.trans h.os, g.tape.trans h.tape, g.output.trans h.output, Nat.le_trans h.size g.size, fun k hk hn => (g.block k (Nat.lt_of_lt_of_le hk h.size) hn).trans (h.block k hk hn)⟩
theorem Kept.alloc {tb : Nat} {A V : World} (h : Kept tb A V) (o : Obj) : Kept tb A (V.alloc o) :=
  ⟨h.os, h.tape, h.output, by have := h.size; simp; omega, fun k hk hn => (heap_alloc_old _ _ (Nat.lt_of_lt_of_le hk h.size)).trans (h.block k hk hn)⟩
theorem Kept.set {tb : Nat} {A V : World} (h : Kept tb A V) (i : Nat) (u : Value) : Kept tb A (V.setCell ⟨tb, i, none⟩ u) :=
  ⟨h.os, h.tape, h.output, by simpa using h.size, fun k hk hn => (Below.heap_setCell _ _ _ _ hn).trans (h.block k hk hn)⟩
theorem Kept.grown {tb : Nat} {A V Z : World} {row : Option Nat} (h : Kept tb A V) (hg : V.grownBy Z row) (hr : ∀ k, row = some k → A.heap.size ≤ k) : Kept tb A Z :=
  ⟨hg.os.trans h.os, hg.tape.trans h.tape, hg.output.trans h.output, Nat.le_trans h.size hg.size, fun k hk hn => (hg.block k (Nat.lt_of_lt_of_le hk h.size) (fun e => by have := hr k e.symm; omega)).trans (h.block k hk hn)⟩
theorem Kept.below {tb B : Nat} {W A V : World} (h : Kept tb A V) (hb : Below B W A) (h1 : B ≤ tb) (h2 : B ≤ A.heap.size) : Below B W V :=
  hb.trans ⟨h.os, h.tape, h.output, h.size, fun k hk => h.block k (by omega) (by omega)⟩
theorem Kept.own {tb : Nat} {A V : World} (h : Kept tb A V) {B e size n : Nat} {v : Value} {xs : List Value} (g : A.ownsRow B e size v n xs) (hB : tb < B) : V.ownsRow B e size v n xs :=
  own_of_block g (fun k e => h.block k (g.lt k e).2 (by have := (g.lt k e).1; omega))
theorem Kept.rows {tb : Nat} {A V : World} (h : Kept tb A V) {B : Nat} {vs : List Value} {to : List (List Int)} (g : GG.Rows B A vs to) (hB : tb < B) : GG.Rows B V vs to :=
  ⟨g.1, fun j hj => by obtain ⟨r, e, q⟩ := g.2 j hj; exact ⟨r, e, h.own q hB⟩⟩
/-- a flag block through what keeps the rest -/
theorem told_alloc {V : World} {tb : Nat} {f : Nat → Value} (h : V.rowIs tb 36 256 f) (o : Obj) : (V.alloc o).rowIs tb 36 256 f := World.rowIs.of_block h (heap_alloc_old _ _ (World.rowIs.lt h))
theorem told_grown {V Z : World} {tb : Nat} {f : Nat → Value} {row : Option Nat} (h : V.rowIs tb 36 256 f) (hg : V.grownBy Z row) (hr : ∀ k, row = some k → tb < k) : Z.rowIs tb 36 256 f :=
  World.rowIs.of_block h (hg.block _ (World.rowIs.lt h) (fun e => by have := hr tb e.symm; omega))
theorem GrpM.kept {W5 V : World} {n₀ xb cb n : Nat} {L : Nat → Nat → Bool} {T0 T : Nat → Bool} (G : GrpM n₀ W5 xb n₀ (n₀ + 1) (n₀ + 1 + 1 + 1) (n₀ + 1 + 1) cb n L T0) (hx : xb < n₀) (hs : W5.heap.size = n₀ + 4) (h : Kept (n₀ + 1 + 1) W5 V) (hT : V.rowIs (n₀ + 1 + 1) 36 256 (fun i => .bool (T i))) :
    GrpM n₀ V xb n₀ (n₀ + 1) (n₀ + 1 + 1 + 1) (n₀ + 1 + 1) cb n L T := by
  have c : ∀ k, k < W5.heap.size → k ≠ n₀ + 1 + 1 → V.cell? ⟨k, 0, none⟩ = W5.cell? ⟨k, 0, none⟩ := fun k h1 h2 => World.cell?_of_block (w := W5) (h.block k h1 h2)
  have hb : Below n₀ W5 V := h.below (Below.refl _ _) (by omega) (by omega)
  obtain ⟨va, vc, q⟩ := G.size
  exact ⟨⟨va, vc, (c xb (by omega) (by omega)).trans q⟩, (c _ (by omega) (by omega)).trans G.lead, (c _ (by omega) (by omega)).trans G.toge, (c _ (by omega) (by omega)).trans G.wait, G.tab.below hb, hT⟩
def numO (o : Option Nat) : Nat := o.getD 0
def isO (o : Option Nat) : Bool := o.isSome
theorem firstE_eq (o : Option Nat) : firstE o = .returned (.tuple #[.int .i64 (numO o : Int), .bool (isO o)]) := by cases o <;> rfl
/-- the first ones of a group -/
def grpI (L : Nat → Nat → Bool) (a m : Nat) : List Int := ((List.range m).filter (CC.tog L a)).map Int.ofNat
theorem grpI_zero (L : Nat → Nat → Bool) (a : Nat) : grpI L a 0 = [] := by simp [grpI]
theorem grpI_yes {L : Nat → Nat → Bool} {a m : Nat} (h : CC.tog L a m = true) : grpI L a (m + 1) = grpI L a m ++ [(m : Int)] := by simp [grpI, List.range_succ, List.filter_append, h]
theorem grpI_no {L : Nat → Nat → Bool} {a m : Nat} (h : CC.tog L a m = false) : grpI L a (m + 1) = grpI L a m := by simp [grpI, List.range_succ, List.filter_append, h]
theorem grpI_len (L : Nat → Nat → Bool) (a m : Nat) : (grpI L a m).length ≤ m := by
  unfold grpI
  rw [List.length_map]
  have := List.length_filter_le (CC.tog L a) (List.range m)
  simpa using this
theorem gsI_snoc (L : Nat → Nat → Bool) (n a : Nat) (gs : List (List Nat)) : gsI gs ++ [grpI L a n] = gsI (gs ++ [CC.grp L n a]) := by simp [gsI, grpI, CC.grp]
theorem putM_yes {L : Nat → Nat → Bool} {T : Nat → Bool} {a m : Nat} (h : CC.tog L a m = true) (i : Nat) : GG.setB (CC.putM L T a m) m i = CC.putM L T a (m + 1) i := by
  rw [Bool.eq_iff_iff, GG.setB_of, CC.putM_iff, CC.putM_iff]
  constructor
  · rintro (e | e | ⟨e, g⟩)
    · rw [e]; exact .inr ⟨by omega, h⟩
    · exact .inl e
    · exact .inr ⟨by omega, g⟩
  · rintro (e | ⟨e, g⟩)
    · exact .inr (.inl e)
    · by_cases q : i = m
      · exact .inl q
      · exact .inr (.inr ⟨by omega, g⟩)
theorem putM_no {L : Nat → Nat → Bool} {T : Nat → Bool} {a m : Nat} (h : CC.tog L a m = false) (i : Nat) : CC.putM L T a m i = CC.putM L T a (m + 1) i := by
  rw [Bool.eq_iff_iff, CC.putM_iff, CC.putM_iff]
  constructor
  · rintro (e | ⟨e, g⟩)
    · exact .inl e
    · exact .inr ⟨by omega, g⟩
  · rintro (e | ⟨e, g⟩)
    · exact .inl e
    · by_cases q : i = m
      · rw [q, h] at g; cases g
      · exact .inr ⟨by omega, g⟩
theorem putM_zero (L : Nat → Nat → Bool) (T : Nat → Bool) (a i : Nat) : CC.putM L T a 0 i = T i := by simp [CC.putM]
/-- what Groups has between two groups -/
structure GSt (W5 : World) (tb : Nat) (L : Nat → Nat → Bool) (n f : Nat) (all : List (List Nat)) (T : Nat → Bool) (g : Value) (V : World) : Prop where
  kept : Kept tb W5 V
  told : V.rowIs tb 36 256 (fun i => .bool (T i))
  closed : CC.Closed L n T
  fuel : GG.unv n T ≤ f
  own : ∃ gs vs, gs ++ CC.groupsF L n f T = all ∧ V.ownsRow W5.heap.size 28 1 g gs.length vs ∧ GG.Rows W5.heap.size V vs (gsI gs) ∧ gs.length + GG.unv n T ≤ n

theorem CC.groups_less {n : Nat} {L : Nat → Nat → Bool} (h : CC.Pre n L) {T : Nat → Bool} {f : Nat} (hf : GG.unv n T ≤ f) {a : Nat} (e : CC.nextO L n T = some a) : GG.unv n (CC.putM L T a n) ≤ f - 1 ∧ f - 1 < f ∧ CC.groupsF L n f T = CC.grp L n a :: CC.groupsF L n (f - 1) (CC.putM L T a n) := by
  have := CC.put_less h e
  obtain ⟨f', rfl⟩ : ∃ f', f = f' + 1 := ⟨f - 1, by omega⟩
  refine ⟨by omega, by omega, ?_⟩
  show (match CC.nextO L n T with | none => [] | some a => CC.grp L n a :: CC.groupsF L n f' (CC.putM L T a n)) = _
  rw [e]
  rfl
/-- a group more -/
theorem GSt.next {W5 : World} {tb : Nat} {L : Nat → Nat → Bool} {n f : Nat} {all : List (List Nat)} {T : Nat → Bool} {g gv g' : Value} {wr V Z : World} {a : Nat} (hp : CC.Pre n L) (h : GSt W5 tb L n f all T g wr) (hs : tb < W5.heap.size) (e : CC.nextO L n T = some a)
    (k : Kept tb wr V) (hT : V.rowIs tb 36 256 (fun i => .bool (CC.putM L T a n i))) (hg : V.ownsRow wr.heap.size 3 1 gv (grpI L a n).length (intsV (grpI L a n))) {gs : List (List Nat)} {vs : List Value} (h1 : gs ++ CC.groupsF L n f T = all) (h3 : GG.Rows W5.heap.size wr vs (gsI gs)) (h2 : wr.ownsRow W5.heap.size 28 1 g gs.length vs) (h4 : gs.length + GG.unv n T ≤ n)
    (ho : Z.ownsRow W5.heap.size 28 1 g' (gs.length + 1) (vs ++ [gv])) {ob : Obj} (hgr : (V.alloc ob).grownBy Z g.ownBlock) : GSt W5 tb L n (f - 1) all (CC.putM L T a n) g' Z := by
  obtain ⟨q1, q2, q3⟩ := CC.groups_less hp h.fuel e
  have hrow : ∀ k, g.ownBlock = some k → W5.heap.size ≤ k := fun k e => (h2.lt k e).1
  refine ⟨(h.kept.trans (k.alloc ob)).grown hgr hrow, told_grown (told_alloc hT ob) hgr (fun k e => by have := hrow k e; omega), CC.put_closed hp h.closed e, q1, gs ++ [CC.grp L n a], vs ++ [gv], ?_, by rw [List.length_append]; exact ho, ?_, ?_⟩
  · rw [← h1, q3]; simp
  · rw [← gsI_snoc]
    exact (((k.rows h3 hs).snoc (own_lower h.kept.size hg)).alloc ob).kept ((k.own h2 hs).alloc ob) (by decide) hgr
  · have := CC.put_less hp e
    rw [List.length_append]; simp; omega

set_option maxRecDepth 100000 in
set_option maxHeartbeats 6400000 in
theorem cgroups_any {v : Value} {to : List (List Int)} (W : World) (hv : GraphM W.heap.size W v to) (hx : Small to) :
    Calls Try.prog 8 #[v] W fun e W' => NewRows W.heap.size (gsI (groupsL to)) e W W' := by
  have HV := Lib.hid hv
  have HX := Lib.hid hx
  obtain ⟨va, vc, rfl⟩ := hv.form
  clear hv hx
  obtain ⟨W0, eW0⟩ : ∃ W0, W0 = W.alloc (.cells #[.slice va to.length vc] 22) := ⟨_, rfl⟩
  have HB0 := Lib.hid (show Below W.heap.size W W0 by rw [eW0]; exact (Below.refl _ _).alloc (Nat.le_refl _) _)
  have HC0 := Lib.hid (show W0.heap[W.heap.size]? = some (.cells #[.slice va to.length vc] 22) by rw [eW0]; exact new_at rfl)
  have EW0 := Lib.hid eW0
  clear eW0
  cases hr : GG.rightG to
  · have HR := Lib.hid hr
    have HE := Lib.hid (show groupsL to = [] by unfold groupsL; rw [if_neg (by rw [hr]; decide)])
    have x0 := cell_of_one HC0.out
    rw [EW0.out] at x0
    clear hr
    go_enter Try.func8, Try.ntmps8
    go_wp2_with (go_at_call 15; rw [← EW0.out]; refine (rightG_any _ to _ (HV.out.on HB0.out HB0.out.size) HX.out).mono ?_; rintro e w1 ⟨rfl, hb⟩; rw [HR.out]; have HB1 := Lib.hid (HB0.out.trans (hb.mono HB0.out.size)); clear hb)
    go_ret
    refine ⟨_, [], rfl, ?_, ?_, HB1.out⟩
    · rw [HE.out]; exact World.ownsRow_nil _ _ _ _
    · rw [HE.out]; exact GG.Rows.nil _ _
  · have HR := Lib.hid hr
    have hlen := GG.right_len hr
    have x0 := cell_of_one HC0.out
    rw [EW0.out] at x0
    have hz := fun (w : World) => run_zero36 w
    clear hr
    go_enter Try.func8, Try.ntmps8
    go_wp2_with fail
    rw [← EW0.out]
    refine (rightG_any _ to _ (HV.out.on HB0.out HB0.out.size) HX.out).mono ?_
    rintro e w1 ⟨rfl, hb⟩
    rw [HR.out]
    have HB1 := Lib.hid (HB0.out.trans (hb.mono HB0.out.size))
    have HC1 := Lib.hid ((hb.block _ (heap_some_lt HC0.out)).trans HC0.out)
    clear hb x0
    have x0 := cell_of_one HC1.out
    go_wp2_with fail
    refine (leading_any (to := to) w1 (HV.out.on HB1.out HB1.out.size) HX.out HR.out).mono ?_
    rintro e w2 ⟨rfl, hl2, hb2⟩
    have HL2 := Lib.hid hl2
    have HB2 := Lib.hid (HB1.out.trans (hb2.mono HB1.out.size))
    have HC2 := Lib.hid ((hb2.block _ (heap_some_lt HC1.out)).trans HC1.out)
    clear hl2 hb2 x0
    have x0 := cell_of_one HC2.out
    obtain ⟨W5, eW5⟩ : ∃ W5, W5 = ((((w2.alloc (.cells #[.func (.func 35) #[] #[.pointer (some ⟨w1.heap.size, 0, none⟩)]] 34)).alloc (.cells #[.func (.func 20) #[] #[.pointer (some ⟨w2.heap.size, 0, none⟩)]] 34)).alloc (.cells falses 36)).alloc (.cells #[.func (.func 21) #[] #[.pointer (some ⟨W.heap.size, 0, none⟩), .pointer (some ⟨w2.heap.size, 0, none⟩), .pointer (some ⟨w2.heap.size + 1 + 1, 0, none⟩), .pointer (some ⟨w2.heap.size + 1, 0, none⟩)]] 37)) := ⟨_, rfl⟩
    have HG := Lib.hid (grp_new HC2.out HL2.out W5 eW5)
    have HC5 := Lib.hid ((HG.out.2.2.block _ (heap_some_lt HC2.out)).trans HC2.out)
    have x5 := cell_of_one HC5.out
    rw [eW5] at x5
    have EW5 := Lib.hid eW5
    clear eW5
    go_wp2_with fail
    rw [← EW5.out]
    refine (cfirst_any HG.out.1 hlen.2).mono ?_
    rintro e w6 ⟨rfl, rfl⟩
    obtain ⟨o, ho⟩ : ∃ o, o = CC.nextO (leadL to) to.length (fun _ => false) := ⟨_, rfl⟩
    rw [firstE_eq, ← ho]
    obtain ⟨z, hz1⟩ : ∃ z, z = numO o := ⟨_, rfl⟩
    obtain ⟨y, hz2⟩ : ∃ y, y = isO o := ⟨_, rfl⟩
    rw [← hz1, ← hz2]
    have HP := Lib.hid (lead_pre HR.out)
    have hcb := heap_some_lt HC2.out
    have HS5 := Lib.hid (show o = CC.nextO (leadL to) to.length (fun _ => false) ∧ z = numO o ∧ y = isO o ∧ GSt w6 (w2.heap.size + 1 + 1) (leadL to) to.length to.length (groupsL to) (fun _ => false) (.slice none 0 0) w6 from ⟨ho, hz1, hz2, Kept.refl _ _, HG.out.1.told, (fun a b _ h => by cases h), GG.unv_le _ _, [], [], by unfold groupsL; rw [if_pos HR.out]; rfl, World.ownsRow_nil _ _ _ _, GG.Rows.nil _ _, by have := GG.unv_le to.length (fun _ => false); simpa using this⟩)
    obtain ⟨i0, hi0, hy0, hy1, hy2⟩ := info_parts Try.infoGInt
    obtain ⟨j0, hj0, hw0, hw1, hw2⟩ := info_parts Try.infoGRow
    have hsz := HG.out.2.1
    clear ho hz1 hz2 hz x5 x0
    go_wp2_with fail
    go_loopg [8, 9, 10] to.length (fun gn g a ok wr => ∃ (T : Nat → Bool) (z : Nat) (y : Bool) , a = .int .i64 (z : Int) ∧ ok = .bool y ∧ RowKit.Hid (∃ o, o = CC.nextO (leadL to) to.length T ∧ z = numO o ∧ y = isO o ∧ GSt w6 (w2.heap.size + 1 + 1) (leadL to) to.length gn (groupsL to) T g wr))
    case atStart => exact ⟨_, z, y, rfl, rfl, Lib.hid ⟨_, HS5.out⟩⟩
    case round =>
      obtain ⟨T, z, y, rfl, rfl, HH⟩ := hrel
      clear HS5
      cases y
      · have HE := Lib.hid (show ∃ vs, wr.ownsRow W.heap.size 28 1 u8 (gsI (groupsL to)).length vs ∧ GG.Rows W.heap.size wr vs (gsI (groupsL to)) ∧ Below W.heap.size W wr by
          obtain ⟨o, h1, h2, h3, h4⟩ := HH.out
          have hn : CC.nextO (leadL to) to.length T = none := by
            rw [← h1]
            cases o with
            | none => rfl
            | some x => cases h3
          obtain ⟨gs, vs, q1, q2, q3, q4⟩ := h4.own
          rw [CC.groups_stop _ hn, List.append_nil] at q1
          rw [← q1, gsI_len]
          have hle : W.heap.size ≤ w6.heap.size := by omega
          exact ⟨vs, own_lower hle q2, ⟨q3.1, fun j hj => by obtain ⟨r, e1, e2⟩ := q3.2 j hj; exact ⟨r, e1, own_lower hle e2⟩⟩, h4.kept.below (HB2.out.trans (HG.out.2.2.mono HB2.out.size)) (by omega) (by omega)⟩)
        obtain ⟨vs, HE1, HE2, HE3⟩ := HE.out
        go_wp2_with fail
        go_ret
        exact ⟨_, vs, rfl, HE1, HE2, HE3⟩
      · obtain ⟨w7, rfl⟩ : ∃ w7, w7 = wr := ⟨_, rfl⟩
        obtain ⟨o, ho, hz, hy, hS⟩ := HH.out
        have hn : CC.nextO (leadL to) to.length T = some z := by
          rw [← ho, hz]
          cases o with
          | none => cases hy
          | some x => rfl
        have HN := Lib.hid hn
        have hzn := (CC.next_is hn).1
        have HS := Lib.hid hS
        have HF := Lib.hid (CC.groups_less HP.out hS.fuel hn)
        have hx6 : w7.cell? ⟨W.heap.size, 0, none⟩ = some (.slice va to.length vc) := cell_of_one ((hS.kept.block _ (heap_some_lt HC5.out) (by omega)).trans HC5.out)
        have HX6 := Lib.hid ((hS.kept.block _ (heap_some_lt HC5.out) (by omega)).trans HC5.out)
        obtain ⟨gs, vs, q1, q2, q3, q4⟩ := hS.own
        have Q1 := Lib.hid q1
        have Q2 := Lib.hid q2
        have Q3 := Lib.hid q3
        have Q4 := Lib.hid q4
        have hgs : gs.length ≤ 256 := by omega
        obtain ⟨ga, gc, rfl⟩ := CC.ownOf q2
        have hts : w2.heap.size + 1 + 1 < w7.heap.size := by have := hS.kept.size; omega
        clear hz hy hn ho hS HH q1 q2 q3 q4
        go_wp2_with fail
        go_loopw [11, 38] (fun gv k V => ∃ b : Nat, b ≤ to.length ∧ k = .int .i64 (b : Int) ∧ RowKit.Hid (Kept (w2.heap.size + 1 + 1) w7 V ∧ V.rowIs (w2.heap.size + 1 + 1) 36 256 (fun i => .bool (CC.putM (leadL to) T z b i)) ∧ V.ownsRow w7.heap.size 3 1 gv (grpI (leadL to) z b).length (intsV (grpI (leadL to) z b)))) (fun _ k _ => to.length - (intOf k).toNat)
        case atStart => exact ⟨0, by omega, rfl, Lib.hid ⟨Kept.refl _ _, World.rowIs.congr HS.out.told (fun i _ => by rw [putM_zero]), World.ownsRow_nil _ _ _ _⟩⟩
        case round =>
          obtain ⟨b, hb, rfl, HM⟩ := hrel
          obtain ⟨hk, ht, hg⟩ := HM.out
          have HK := Lib.hid hk
          have HT := Lib.hid ht
          have HGR := Lib.hid hg
          clear HM hk ht hg
          obtain ⟨gva, gvc, rfl⟩ := CC.ownOf HGR.out
          have hsw := HK.out.size
          by_cases hlt : b < to.length
          · have j1 : decide ((b : Int) < (to.length : Int)) = true := decide_eq_true (by omega)
            have HM := Lib.hid (HG.out.1.kept hcb hsz (HS.out.kept.trans HK.out) HT.out)
            have ht4 := HM.out.toge
            cases hc : CC.tog (leadL to) z b
            · have HC := Lib.hid hc
              have HR1 := Lib.hid (show Kept (w2.heap.size + 1 + 1) w7 wr ∧ wr.rowIs (w2.heap.size + 1 + 1) 36 256 (fun i => .bool (CC.putM (leadL to) T z (b + 1) i)) ∧ wr.ownsRow w7.heap.size 3 1 (.slice gva (grpI (leadL to) z b).length gvc) (grpI (leadL to) z (b + 1)).length (intsV (grpI (leadL to) z (b + 1))) from ⟨HK.out, World.rowIs.congr HT.out (fun i _ => by rw [putM_no hc]), by rw [grpI_no hc]; exact HGR.out⟩)
              clear hc
              go_wp2_with (go_at_call 20; refine (ctog_any z b HM.out.tab HM.out.lead hzn hlt).mono ?_; rintro e w8 ⟨rfl, e8⟩; rw [e8, HC.out]; clear e8)
              go_roundw
              case rel => exact ⟨b + 1, by omega, by go_num, HR1⟩
              case measure => simp [intOf]; omega
            · have HC := Lib.hid hc
              have hcT := World.rowIs.cell HT.out (show b < 256 by omega)
              have hfT := World.rowIs.frozen HT.out b
              have i1 : (0 : Int) ≤ b ∧ (b : Int) < 256 := by omega
              have hgl := grpI_len (leadL to) z b
              have HT1 := Lib.hid (show (wr.setCell ⟨(w2.heap.size + 1 + 1), b, none⟩ (.bool true)).rowIs (w2.heap.size + 1 + 1) 36 256 (fun i => .bool (CC.putM (leadL to) T z (b + 1) i)) from World.rowIs.congr (World.rowIs.set HT.out b (.bool true)) (fun i _ => by
                rw [← putM_yes hc]
                unfold GG.setB
                by_cases e : i = b <;> simp [e]))
              have HK1 := Lib.hid (HK.out.set b (.bool true))
              have HY := Lib.hid (grpI_yes hc)
              have HS1 := Lib.hid (show (wr.setCell ⟨(w2.heap.size + 1 + 1), b, none⟩ (.bool true)).heap.size = wr.heap.size by simp)
              clear hc
              obtain ⟨L1, hL1⟩ : ∃ L1, L1 = grpI (leadL to) z b := ⟨_, rfl⟩
              rw [← hL1] at hgl HGR HY
              rw [← hL1]
              clear hL1
              go_wp2_with (first
                | (at_builtin
                   refine GG.wpList_append_any rfl _ _ 28 rfl w7.heap.size 3 i0 (.int .i64 0) 1 8 Try.underlying28 hi0 hy0 hy1 hy2 rfl (by decide) (.slice gva L1.length gvc) L1.length (intsV L1) rfl (((Kept.refl (w2.heap.size + 1 + 1) wr).set b (.bool true)).own HGR.out hts |>.alloc _) (.slice (some ⟨wr.heap.size, 0, none⟩) 1 1) 1 [.int .i64 (b : Int)] rfl rfl (.inr ⟨_, _, rfl, by have h1 := GG.cell_one (wr.setCell ⟨(w2.heap.size + 1 + 1), b, none⟩ (.bool true)) (.int .i64 (b : Int)) 3; rw [HS1.out] at h1; exact h1⟩) (by intro u hu; rw [List.mem_singleton.1 hu]; rfl) (by unfold maxLen; omega) (by omega) (by simp; omega) ?_
                   intro v1 w9 ho hg
                   have HR1 := Lib.hid (show Kept (w2.heap.size + 1 + 1) w7 w9 ∧ w9.rowIs (w2.heap.size + 1 + 1) 36 256 (fun i => .bool (CC.putM (leadL to) T z (b + 1) i)) ∧ w9.ownsRow w7.heap.size 3 1 v1 (grpI (leadL to) z (b + 1)).length (intsV (grpI (leadL to) z (b + 1))) from ⟨(HK1.out.alloc _).grown hg (fun k e => (HGR.out.lt k e).1), told_grown (told_alloc HT1.out _) hg (fun k e => by have := (HGR.out.lt k e).1; omega), by rw [HY.out, List.length_append]; simpa [intsV] using ho⟩)
                   clear ho hg)
                | (go_at_call 20; refine (ctog_any z b HM.out.tab HM.out.lead hzn hlt).mono ?_; rintro e w8 ⟨rfl, e8⟩; rw [e8, HC.out]; clear e8))
              go_roundw
              case rel => exact ⟨b + 1, by omega, by go_num, HR1⟩
              case measure => simp [intOf]; omega
          · have hbn : b = to.length := by omega
            subst hbn
            have hgl := grpI_len (leadL to) z to.length
            have HGN := Lib.hid (fun (Z : World) (g' : Value) (ob : Obj) (ho : Z.ownsRow w6.heap.size 28 1 g' (gs.length + 1) (vs ++ [.slice gva (grpI (leadL to) z to.length).length gvc])) (hgr : (wr.alloc ob).grownBy Z (Value.slice ga gs.length gc).ownBlock) => HS.out.next HP.out (by omega) HN.out HK.out HT.out HGR.out Q1.out Q3.out Q2.out Q4.out ho hgr)
            have HOW := Lib.hid (HK.out.own Q2.out (by omega))
            obtain ⟨L1, hL1⟩ : ∃ L1, L1 = grpI (leadL to) z to.length := ⟨_, rfl⟩
            rw [← hL1] at hgl HGR HGN
            rw [← hL1]
            clear hL1
            go_wp2_with (at_builtin
                         refine GG.wpList_append_any rfl _ _ 22 rfl w6.heap.size 28 j0 (.slice none 0 0) 1 24 Try.underlying22 hj0 hw0 hw1 hw2 rfl (by decide) (.slice ga gs.length gc) gs.length vs rfl (HOW.out.alloc _) (.slice (some ⟨wr.heap.size, 0, none⟩) 1 1) 1 [.slice gva L1.length gvc] rfl rfl (.inr ⟨_, _, rfl, GG.cell_one _ _ _⟩) (by intro u hu; rw [List.mem_singleton.1 hu]; rfl) (by unfold maxLen; omega) (by omega) (by have := HS.out.kept.size; simp; omega) ?_
                         intro v1 w9 ho hg
                         have HS9 := Lib.hid (HGN.out w9 v1 _ ho hg)
                         have x9 : w9.cell? ⟨W.heap.size, 0, none⟩ = some (.slice va to.length vc) := cell_of_one ((HS9.out.kept.block _ (heap_some_lt HC5.out) (by omega)).trans HC5.out)
                         have HM9 := Lib.hid (HG.out.1.kept hcb hsz HS9.out.kept HS9.out.told)
                         clear ho hg)
            refine (cfirst_any HM9.out hlen.2).mono ?_
            rintro e w8 ⟨rfl, e8⟩
            rw [e8, firstE_eq]
            clear e8
            obtain ⟨o, ho⟩ : ∃ o, o = CC.nextO (leadL to) to.length (CC.putM (leadL to) T z to.length) := ⟨_, rfl⟩
            rw [← ho]
            obtain ⟨z1, hz1⟩ : ∃ z1, z1 = numO o := ⟨_, rfl⟩
            obtain ⟨y1, hy1⟩ : ∃ y1, y1 = isO o := ⟨_, rfl⟩
            rw [← hz1, ← hy1]
            have HN9 := Lib.hid (show _ ∧ _ ∧ _ from ⟨ho, hz1, hy1⟩)
            clear ho hz1 hy1
            go_wp2_with fail
            go_roundg (gk - 1)
            case measure => exact HF.out.2.1
            case rel => exact ⟨_, z1, y1, rfl, rfl, Lib.hid ⟨o, HN9.out.1, HN9.out.2.1, HN9.out.2.2, HS9.out⟩⟩
end Go.Proofs.Ytbelhoeailjkkaa
