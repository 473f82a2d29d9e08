import Derived.Test.YtkoofibhddkpiaaDoorGraP
import Derived.Test.YtkoofibhddkpiaaDoorPlatP
set_option linter.unusedSimpArgs false
set_option linter.unusedVariables false
set_option linter.unusedSectionVars false
/-! solve, plain: equations over joins, what tells what, and the least answer -/
namespace Go.Proofs.YtkoofibhddkpiaaDoor
namespace SV
/-- joins, and how much room a value has to grow -/
structure Semi (L : Type) where
  join : L → L → L
  ok : L → Prop
  pot : L → Nat
  cl : ∀ {a b : L}, ok a → ok b → ok (join a b)
  comm : ∀ {a b : L}, ok a → ok b → join a b = join b a
  assoc : ∀ {a b c : L}, ok a → ok b → ok c → join (join a b) c = join a (join b c)
  idem : ∀ {a : L}, ok a → join a a = a
  drop : ∀ {a b : L}, ok a → ok b → join a b ≠ a → pot (join a b) < pot a
section
variable {L : Type} [Inhabited L] [DecidableEq L] (M : Semi L)
def le (a b : L) : Prop := M.join a b = b
variable {M}
theorem le_refl {a : L} (h : M.ok a) : le M a a := M.idem h
theorem le_trans {a b c : L} (ha : M.ok a) (hb : M.ok b) (hc : M.ok c) (h : le M a b) (g : le M b c) : le M a c := by
  unfold le at *
  rw [← g, ← M.assoc ha hb hc, h]
theorem le_anti {a b : L} (ha : M.ok a) (hb : M.ok b) (h : le M a b) (g : le M b a) : a = b := by
  unfold le at *
  rw [← h, M.comm ha hb]
  exact g.symm
theorem le_left {a b : L} (ha : M.ok a) (hb : M.ok b) : le M a (M.join a b) := by
  unfold le
  rw [← M.assoc ha ha hb, M.idem ha]
theorem le_right {a b : L} (ha : M.ok a) (hb : M.ok b) : le M b (M.join a b) := by
  rw [M.comm ha hb]
  exact le_left hb ha
theorem le_lub {a b c : L} (ha : M.ok a) (hb : M.ok b) (hc : M.ok c) (h : le M a c) (g : le M b c) : le M (M.join a b) c := by
  unfold le at *
  rw [M.assoc ha hb hc, g, h]
theorem le_of_same {a b : L} (ha : M.ok a) (hb : M.ok b) (h : M.join a b = a) : le M b a := by
  unfold le
  rw [M.comm hb ha]
  exact h
theorem same_of_le {a b : L} (ha : M.ok a) (hb : M.ok b) (h : le M b a) : M.join a b = a := by
  rw [M.comm ha hb]
  exact h
end
/-- the i-th of a list -/
def at' {L : Type} [Inhabited L] (l : List L) (i : Nat) : L := l[i]?.getD default
theorem at_set {L : Type} [Inhabited L] (l : List L) (i j : Nat) (x : L) (hi : i < l.length) : at' (l.set i x) j = if j = i then x else at' l j := by
  unfold at'
  rw [List.getElem?_set]
  by_cases h : i = j
  · subst h; simp [hi]
  · rw [if_neg h, if_neg (fun e => h e.symm)]
theorem at_ext {L : Type} [Inhabited L] {l m : List L} (h : l.length = m.length) (g : ∀ i, i < l.length → at' l i = at' m i) : l = m := by
  apply List.ext_getElem h
  intro i h1 h2
  have := g i h1
  unfold at' at this
  rw [List.getElem?_eq_getElem h1, List.getElem?_eq_getElem h2] at this
  exact this
theorem at_get {L : Type} [Inhabited L] {l : List L} {i : Nat} (h : i < l.length) : l[i]? = some (at' l i) := by
  unfold at'
  rw [List.getElem?_eq_getElem h]
  rfl
/-- a system: what each value has of itself, and what it needs -/
structure Sys (L : Type) where
  C : List L
  N : List (List Nat)
def Sys.nd {L : Type} (S : Sys L) (i : Nat) : List Nat := S.N[i]?.getD []
section
variable {L : Type} [Inhabited L] [DecidableEq L] (M : Semi L)
structure SysOk (S : Sys L) : Prop where
  len : S.N.length = S.C.length
  ok : ∀ i, i < S.C.length → M.ok (at' S.C i)
  lt : ∀ i, i < S.C.length → ∀ j ∈ S.nd i, j < S.C.length
structure Bnd (S : Sys L) (t : List L) : Prop where
  len : t.length = S.C.length
  ok : ∀ i, i < S.C.length → M.ok (at' t i)
  base : ∀ i, i < S.C.length → le M (at' S.C i) (at' t i)
  need : ∀ i, i < S.C.length → ∀ j ∈ S.nd i, le M (at' t j) (at' t i)
def Least (S : Sys L) (l : List L) : Prop := Bnd M S l ∧ ∀ t, Bnd M S t → ∀ i, i < S.C.length → le M (at' l i) (at' t i)
variable {M}
theorem least_one {S : Sys L} {l m : List L} (h : Least M S l) (g : Least M S m) : l = m :=
  at_ext (h.1.len.trans g.1.len.symm) (fun i hi => by
    have hi' : i < S.C.length := by have := h.1.len; omega
    exact le_anti (h.1.ok i hi') (g.1.ok i hi') (h.2 m g.1 i hi') (g.2 l h.1 i hi'))
/-- all that is left to grow -/
def sumP (M : Semi L) (s : List L) : Nat := (s.map M.pot).sum
theorem sumP_set (s : List L) (i : Nat) (x : L) (hi : i < s.length) : sumP M (s.set i x) + M.pot (at' s i) = sumP M s + M.pot x := by
  unfold sumP
  induction s generalizing i with
  | nil => simp at hi
  | cons a s ih =>
    cases i with
    | zero => simp [at']; omega
    | succ i =>
      have := ih i (by simpa using hi)
      simp [at'] at this ⊢
      omega
theorem sumP_le (s : List L) (H : Nat) (h : ∀ i, i < s.length → M.pot (at' s i) ≤ H) : sumP M s ≤ s.length * H := by
  unfold sumP
  induction s with
  | nil => simp
  | cons a s ih =>
    have h0 := h 0 (by simp)
    have h1 := ih (fun i hi => h (i + 1) (by simpa using hi))
    simp [at'] at h0
    simp only [List.map_cons, List.sum_cons, List.length_cons, Nat.add_mul, Nat.one_mul]
    omega
/-- where the work stands: s is what each has come to, q are those that wait -/
structure St (M : Semi L) (S : Sys L) (s : List L) (q : List Nat) : Prop where
  len : s.length = S.C.length
  ok : ∀ i, i < S.C.length → M.ok (at' s i)
  low : ∀ i, i < S.C.length → le M (at' S.C i) (at' s i)
  high : ∀ t, Bnd M S t → ∀ i, i < S.C.length → le M (at' s i) (at' t i)
  nodup : q.Nodup
  lt : ∀ v ∈ q, v < S.C.length
  told : ∀ v, v < S.C.length → v ∉ q → ∀ i, i < S.C.length → v ∈ S.nd i → le M (at' s v) (at' s i)
theorem st_start {S : Sys L} (h : SysOk M S) {q : List Nat} (hn : q.Nodup) (hq : ∀ v, v ∈ q ↔ v < S.C.length) : St M S S.C q :=
  ⟨rfl, h.ok, fun i hi => le_refl (h.ok i hi), fun t ht i hi => ht.base i hi, hn, fun v hv => (hq v).1 hv, fun v hv hnq => absurd ((hq v).2 hv) hnq⟩
theorem st_end {S : Sys L} (h : SysOk M S) {s : List L} (g : St M S s []) : Least M S s :=
  ⟨⟨g.len, g.ok, g.low, fun i hi j hj => g.told j (h.lt i hi j hj) (by simp) i hi hj⟩, g.high⟩
/-- while v is telling: r are those that it still has to tell -/
structure Mid (M : Semi L) (S : Sys L) (v : Nat) (s : List L) (q r : List Nat) : Prop where
  len : s.length = S.C.length
  ok : ∀ i, i < S.C.length → M.ok (at' s i)
  low : ∀ i, i < S.C.length → le M (at' S.C i) (at' s i)
  high : ∀ t, Bnd M S t → ∀ i, i < S.C.length → le M (at' s i) (at' t i)
  nodup : q.Nodup
  lt : ∀ v ∈ q, v < S.C.length
  vlt : v < S.C.length
  vq : v ∉ q
  told : ∀ u, u < S.C.length → u ∉ q → u ≠ v → ∀ i, i < S.C.length → u ∈ S.nd i → le M (at' s u) (at' s i)
  mine : ∀ i, i < S.C.length → v ∈ S.nd i → i ∈ r ∨ le M (at' s v) (at' s i)
  rest : ∀ o ∈ r, o < S.C.length ∧ v ∈ S.nd o
theorem mid_start {S : Sys L} {s : List L} {q q' r : List Nat} {v : Nat} (h : St M S s q) (hq : q.Perm (v :: q')) (hr : ∀ o, o ∈ r ↔ o < S.C.length ∧ v ∈ S.nd o) : Mid M S v s q' r := by
  have hn : (v :: q').Nodup := hq.nodup_iff.1 h.nodup
  have hm : ∀ u, u ∈ q ↔ u = v ∨ u ∈ q' := fun u => by rw [hq.mem_iff, List.mem_cons]
  rw [List.nodup_cons] at hn
  exact ⟨h.len, h.ok, h.low, h.high, hn.2, fun u hu => h.lt u ((hm u).2 (.inr hu)), h.lt v ((hm v).2 (.inl rfl)), hn.1, fun u hu hnq hne i hi hui => h.told u hu (fun e => ((hm u).1 e).elim hne hnq) i hi hui, fun i hi hv => .inl ((hr i).2 ⟨hi, hv⟩), fun o ho => (hr o).1 ho⟩
theorem mid_end {S : Sys L} {s : List L} {q : List Nat} {v : Nat} (h : Mid M S v s q []) : St M S s q :=
  ⟨h.len, h.ok, h.low, h.high, h.nodup, h.lt, fun u hu hnq i hi hui => by
    by_cases e : u = v
    · subst e
      exact (h.mine i hi hui).elim (fun hm => by simp at hm) id
    · exact h.told u hu hnq e i hi hui⟩
theorem mid_skip {S : Sys L} {s : List L} {q r : List Nat} {v o : Nat} (h : Mid M S v s q (o :: r)) (e : M.join (at' s o) (at' s v) = at' s o) : Mid M S v s q r :=
  ⟨h.len, h.ok, h.low, h.high, h.nodup, h.lt, h.vlt, h.vq, h.told, fun i hi hv => by
    rcases h.mine i hi hv with hm | hm
    · rcases List.mem_cons.1 hm with rfl | hm
      · exact .inr (le_of_same (h.ok _ hi) (h.ok _ h.vlt) e)
      · exact .inl hm
    · exact .inr hm, fun o ho => h.rest o (List.mem_cons_of_mem _ ho)⟩
theorem mid_grow {S : Sys L} {s : List L} {q q' r : List Nat} {v o : Nat} (hS : SysOk M S) (h : Mid M S v s q (o :: r)) (e : M.join (at' s o) (at' s v) ≠ at' s o) (hn : q'.Nodup) (hq : ∀ u, u ∈ q' ↔ u = o ∨ u ∈ q) : Mid M S v (s.set o (M.join (at' s o) (at' s v))) q' r := by
  obtain ⟨ho, hvo⟩ := h.rest o (List.mem_cons_self ..)
  have hok := h.ok o ho
  have hvk := h.ok v h.vlt
  have hol : o < s.length := by have := h.len; omega
  have hne : o ≠ v := fun e1 => e (by rw [e1]; exact M.idem hvk)
  have hup : ∀ i, i < S.C.length → le M (at' s i) (at' (s.set o (M.join (at' s o) (at' s v))) i) := fun i hi => by
    rw [at_set _ _ _ _ hol]
    by_cases e1 : i = o
    · rw [if_pos e1, e1]; exact le_left hok hvk
    · rw [if_neg e1]; exact le_refl (h.ok i hi)
  have hk : ∀ i, i < S.C.length → M.ok (at' (s.set o (M.join (at' s o) (at' s v))) i) := fun i hi => by
    rw [at_set _ _ _ _ hol]
    by_cases e1 : i = o
    · rw [if_pos e1]; exact M.cl hok hvk
    · rw [if_neg e1]; exact h.ok i hi
  have hsame : ∀ i, i ≠ o → at' (s.set o (M.join (at' s o) (at' s v))) i = at' s i := fun i hi => by rw [at_set _ _ _ _ hol, if_neg hi]
  have hthere : at' (s.set o (M.join (at' s o) (at' s v))) o = M.join (at' s o) (at' s v) := by rw [at_set _ _ _ _ hol, if_pos rfl]
  refine ⟨by rw [List.length_set]; exact h.len, hk, ?_, ?_, hn, ?_, h.vlt, ?_, ?_, ?_, fun o' ho' => h.rest o' (List.mem_cons_of_mem _ ho')⟩
  · intro i hi
    exact le_trans (hS.ok i hi) (h.ok i hi) (hk i hi) (h.low i hi) (hup i hi)
  · intro t ht i hi
    by_cases e1 : i = o
    · subst e1
      rw [hthere]
      exact le_lub hok hvk (ht.ok i hi) (h.high t ht i hi) (le_trans hvk (ht.ok v h.vlt) (ht.ok i hi) (h.high t ht v h.vlt) (ht.need i hi v hvo))
    · rw [hsame i e1]; exact h.high t ht i hi
  · intro u hu
    exact ((hq u).1 hu).elim (fun e1 => e1 ▸ ho) (h.lt u)
  · intro hv
    exact ((hq v).1 hv).elim (fun e1 => hne e1.symm) h.vq
  · intro u hu hnq hnv i hi hui
    have hno : u ≠ o := fun e1 => hnq ((hq u).2 (.inl e1))
    have hnq2 : u ∉ q := fun e1 => hnq ((hq u).2 (.inr e1))
    rw [hsame u hno]
    exact le_trans (h.ok u hu) (h.ok i hi) (hk i hi) (h.told u hu hnq2 hnv i hi hui) (hup i hi)
  · intro i hi hvi
    rw [hsame v (fun e1 => hne e1.symm)]
    rcases h.mine i hi hvi with hm | hm
    · rcases List.mem_cons.1 hm with rfl | hm
      · refine .inr ?_
        rw [hthere]
        exact le_right hok hvk
      · exact .inl hm
    · exact .inr (le_trans hvk (h.ok i hi) (hk i hi) hm (hup i hi))
/-- what is left to do -/
def mu (M : Semi L) (s : List L) (q : List Nat) : Nat := q.length + sumP M s
theorem mu_grow {S : Sys L} {s : List L} {q q' r : List Nat} {v o : Nat} (h : Mid M S v s q (o :: r)) (e : M.join (at' s o) (at' s v) ≠ at' s o) (hq : q'.length ≤ q.length + 1) : mu M (s.set o (M.join (at' s o) (at' s v))) q' ≤ mu M s q := by
  obtain ⟨ho, hvo⟩ := h.rest o (List.mem_cons_self ..)
  have h1 := sumP_set (M := M) s o (M.join (at' s o) (at' s v)) (by have := h.len; omega)
  have h2 := M.drop (h.ok o ho) (h.ok v h.vlt) e
  unfold mu
  omega
end
end SV
end Go.Proofs.YtkoofibhddkpiaaDoor

/-! solve, plain: labels as what can be joined, and how the program keeps them -/
namespace Go.Proofs.YtkoofibhddkpiaaDoor
namespace SV
open LL
/-- a level's number and a mask -/
abbrev Lab := Nat × Int
def lok (xs : List Int) (a : Lab) : Prop := a.1 < xs.length ∧ 0 ≤ a.2 ∧ a.2 ≤ 18446744073709551615
def ljoin (xs : List Int) (a b : Lab) : Lab := (joinN xs a.1 b.1, bits .or .u64 a.2 b.2)
def pop (m : Int) : Nat := (List.range 64).countP (fun (k : Nat) => MM.hasB m (k : Int))
def lpot (xs : List Int) (a : Lab) : Nat := longL xs a.1 + (64 - pop a.2)
theorem pop_le (m : Int) : pop m ≤ 64 := by
  unfold pop
  exact Nat.le_trans List.countP_le_length (by simp)
theorem or_comm5 (x y : Int) (x0 : 0 ≤ x) (x1 : x ≤ 18446744073709551615) (y0 : 0 ≤ y) (y1 : y ≤ 18446744073709551615) : bits .or .u64 x y = bits .or .u64 y x := by
  rw [or_nat x y x0 x1 y0 y1, or_nat y x y0 y1 x0 x1, Nat.or_comm]
theorem or_self5 (x : Int) (x0 : 0 ≤ x) (x1 : x ≤ 18446744073709551615) : bits .or .u64 x x = x := by
  rw [or_nat x x x0 x1 x0 x1, Nat.or_self]
  omega
theorem or_assoc5 (x y z : Int) (x0 : 0 ≤ x) (x1 : x ≤ 18446744073709551615) (y0 : 0 ≤ y) (y1 : y ≤ 18446744073709551615) (z0 : 0 ≤ z) (z1 : z ≤ 18446744073709551615) : bits .or .u64 (bits .or .u64 x y) z = bits .or .u64 x (bits .or .u64 y z) := by
  have h1 := or_bd5 x y x0 x1 y0 y1
  have h2 := or_bd5 y z y0 y1 z0 z1
  rw [or_nat _ z h1.1 h1.2 z0 z1, or_nat x _ x0 x1 h2.1 h2.2, or_nat x y x0 x1 y0 y1, or_nat y z y0 y1 z0 z1, Int.toNat_natCast, Int.toNat_natCast, Nat.or_assoc]
theorem join_self5 {xs : List Int} (h : rightB xs = true) {a : Nat} (ha : a < xs.length) : joinN xs a a = a :=
  one_join h (joinN_is h ha ha).1 ⟨ha, le_refl5 h ha, le_refl5 h ha, fun _ _ e _ => e⟩
theorem ljoin_drop {xs : List Int} (h : rightB xs = true) (hw : Wide xs) {a b : Lab} (ha : lok xs a) (hb : lok xs b) (e : ljoin xs a b ≠ a) : lpot xs (ljoin xs a b) < lpot xs a := by
  obtain ⟨a1, m⟩ := a
  obtain ⟨b1, k⟩ := b
  obtain ⟨ha1, m0, m1⟩ := ha
  obtain ⟨hb1, k0, k1⟩ := hb
  simp only at ha1 m0 m1 hb1 k0 k1
  have hj := (joinN_is h ha1 hb1).1
  have hmono : ∀ x ∈ List.range 64, MM.hasB m (x : Int) = true → MM.hasB (bits .or .u64 m k) (x : Int) = true := fun x _ hx => by
    rw [or_has m k x m0 m1 k0 k1, hx, Bool.true_or]
  have hle : pop m ≤ pop (bits .or .u64 m k) := List.countP_mono_left hmono
  have h64 := pop_le (bits .or .u64 m k)
  unfold lpot ljoin
  simp only
  by_cases e1 : joinN xs a1 b1 = a1
  · have e2 : bits .or .u64 m k ≠ m := fun e2 => e (by unfold ljoin; simp only; rw [e1, e2])
    have hbd := or_bd5 m k m0 m1 k0 k1
    have hex : ∃ x : Nat, MM.hasB (bits .or .u64 m k) (x : Int) ≠ MM.hasB m (x : Int) := by
      refine Classical.byContradiction fun hn => e2 ?_
      refine mask_ext _ _ hbd.1 hbd.2 m0 m1 fun x => ?_
      exact Classical.byContradiction fun hx => hn ⟨x, hx⟩
    obtain ⟨x, hx⟩ := hex
    have hmx : MM.hasB m (x : Int) = false := by
      cases hc : MM.hasB m (x : Int) with
      | false => rfl
      | true => rw [or_has m k x m0 m1 k0 k1, hc] at hx; simp at hx
    have hox : MM.hasB (bits .or .u64 m k) (x : Int) = true := by
      cases hc : MM.hasB (bits .or .u64 m k) (x : Int) with
      | true => rfl
      | false => rw [hc, hmx] at hx; simp at hx
    have hlt : pop m < pop (bits .or .u64 m k) := by
      unfold pop
      rw [List.countP_eq_length_filter, List.countP_eq_length_filter]
      exact LL.filter_lt (l := List.range 64) (p := fun (z : Nat) => MM.hasB (bits .or .u64 m k) (z : Int)) hmono (List.mem_range.2 (has_lt hox)) hox hmx
    rw [e1]
    omega
  · have hs : st xs a1 (joinN xs a1 b1) = true := by
      unfold st
      rw [hj.2.1, Bool.and_true, bne_iff_ne]
      exact fun e2 => e1 e2.symm
    have := long_le (right_ord h) hw ha1 hs
    omega
/-- labels over a lattice -/
def labs (xs : List Int) (h : rightB xs = true) (hw : Wide xs) : Semi Lab where
  join := ljoin xs
  ok := lok xs
  pot := lpot xs
  cl := fun {a b} ha hb => ⟨(joinN_is h ha.1 hb.1).1.1, or_bd5 _ _ ha.2.1 ha.2.2 hb.2.1 hb.2.2⟩
  comm := fun {a b} ha hb => by
    unfold ljoin
    rw [join_comm h ha.1 hb.1, or_comm5 _ _ ha.2.1 ha.2.2 hb.2.1 hb.2.2]
  assoc := fun {a b c} ha hb hc => by
    unfold ljoin
    simp only
    rw [join_assoc h hw ha.1 hb.1 hc.1, or_assoc5 _ _ _ ha.2.1 ha.2.2 hb.2.1 hb.2.2 hc.2.1 hc.2.2]
  idem := fun {a} ha => by
    unfold ljoin
    rw [join_self5 h ha.1, or_self5 _ ha.2.1 ha.2.2]
  drop := ljoin_drop h hw
theorem pot_le (xs : List Int) {a : Lab} (h : a.1 < xs.length) : lpot xs a ≤ heightN xs + 64 := by
  have : longL xs a.1 ≤ heightN xs := maxUp_le h
  unfold lpot
  omega
/-- what stands above two levels is what stands above their join -/
theorem both_join {xs : List Int} (h : rightB xs = true) (hw : Wide xs) {a b : Nat} (ha : a < xs.length) (hb : b < xs.length) : bits .and .u64 (xs[a]?.getD 0) (xs[b]?.getD 0) = xs[joinN xs a b]?.getD 0 := by
  have hj := (joinN_is h ha hb).1
  have hbd := and_bd _ _ (hw.at a).1 (hw.at a).2 (hw.at b).1 (hw.at b).2
  refine mask_ext _ _ hbd.1 hbd.2 (hw.at _).1 (hw.at _).2 fun k => ?_
  rw [and_has _ _ k (hw.at a).1 (hw.at a).2 (hw.at b).1 (hw.at b).2]
  show (ab xs a k && ab xs b k) = ab xs (joinN xs a b) k
  by_cases hk : k < xs.length
  · exact (join_bound h hw ha hb hk).symm
  · have n1 : ab xs a k = false := by
      cases hc : ab xs a k with
      | false => rfl
      | true => exact absurd (le_lt5 h ha hc) hk
    have n2 : ab xs (joinN xs a b) k = false := by
      cases hc : ab xs (joinN xs a b) k with
      | false => rfl
      | true => exact absurd (le_lt5 h hj.1 hc) hk
    rw [n1, n2, Bool.false_and]
theorem above_one {xs : List Int} (h : rightB xs = true) {a b : Nat} (ha : a < xs.length) (hb : b < xs.length) (e : xs[a]?.getD 0 = xs[b]?.getD 0) : a = b := by
  have h1 : ab xs a b = true := by
    have := le_refl5 h hb
    unfold ab at this ⊢
    rw [e]; exact this
  have h2 : ab xs b a = true := by
    have := le_refl5 h ha
    unfold ab at this ⊢
    rw [← e]; exact this
  exact LL.le_anti h ha h1 h2
/-- what the program keeps for a label -/
def sumOf (xs : List Int) (a : Lab) : Int × Int := (xs[a.1]?.getD 0, a.2)
theorem sumOf_join {xs : List Int} (h : rightB xs = true) (hw : Wide xs) {a b : Lab} (ha : lok xs a) (hb : lok xs b) : sumOf xs (ljoin xs a b) = (bits .and .u64 (sumOf xs a).1 (sumOf xs b).1, bits .or .u64 (sumOf xs a).2 (sumOf xs b).2) := by
  unfold sumOf ljoin
  simp only
  rw [both_join h hw ha.1 hb.1]
theorem sumOf_one {xs : List Int} (h : rightB xs = true) {a b : Lab} (ha : lok xs a) (hb : lok xs b) (e : sumOf xs a = sumOf xs b) : a = b := by
  unfold sumOf at e
  simp only [Prod.mk.injEq] at e
  exact Prod.ext (above_one h ha.1 hb.1 e.1) e.2
end SV
end Go.Proofs.YtkoofibhddkpiaaDoor

/-! solve, plain: who needs whom, the order, the looks, and the way by rounds -/
namespace Go.Proofs.YtkoofibhddkpiaaDoor
namespace SV
/-- those that need j, in the first i rows and k of the next -/
def askT (N : List (List Nat)) (i k j : Nat) : List Nat := (List.range i).flatMap (fun a => ((N[a]?.getD []).filter (· == j)).map (fun _ => a)) ++ (((N[i]?.getD []).take k).filter (· == j)).map (fun _ => i)
def ask (N : List (List Nat)) (j : Nat) : List Nat := askT N N.length 0 j
theorem askT_zero (N : List (List Nat)) (j : Nat) : askT N 0 0 j = [] := by simp [askT]
theorem askT_step {N : List (List Nat)} {i k j x : Nat} (h : (N[i]?.getD [])[k]? = some x) : askT N i (k + 1) j = askT N i k j ++ if x = j then [i] else [] := by
  unfold askT
  obtain ⟨hk, e⟩ := List.getElem?_eq_some_iff.1 h
  rw [List.take_succ_eq_append_getElem hk, List.filter_append, List.map_append, e, List.append_assoc]
  congr 2
  by_cases hx : x = j
  · simp [hx]
  · simp [hx]
theorem askT_row {N : List (List Nat)} {i k j : Nat} (h : (N[i]?.getD []).length ≤ k) : askT N i k j = askT N (i + 1) 0 j := by
  unfold askT
  rw [List.take_of_length_le h, List.range_succ, List.flatMap_append]
  simp
theorem mem_ask {N : List (List Nat)} {i j : Nat} : i ∈ ask N j ↔ i < N.length ∧ j ∈ N[i]?.getD [] := by
  unfold ask askT
  simp only [List.mem_append, List.mem_flatMap, List.mem_range, List.mem_map, List.mem_filter, beq_iff_eq, List.take_zero, List.not_mem_nil, false_and, exists_false, or_false]
  constructor
  · rintro ⟨a, ha, x, ⟨hx, rfl⟩, rfl⟩
    exact ⟨ha, hx⟩
  · rintro ⟨h1, h2⟩
    exact ⟨i, h1, j, ⟨h2, rfl⟩, rfl⟩
/-- the order in which values are looked at -/
def ordL (adj : Nat → List Nat) (n : Nat) : List Nat := (GG.runF (n + 1) adj (List.range n)).2
theorem ord_is {adj : Nat → List Nat} {n : Nat} (ha : ∀ x, ∀ j ∈ adj x, j < n) : (ordL adj n).Nodup ∧ ∀ v, v ∈ ordL adj n ↔ v < n := by
  obtain ⟨new, hw, hj⟩ := GG.walks ha (List.range n) (fun j hj => List.mem_range.1 hj) (f := n + 1) (by omega)
  have e : ordL adj n = new := by
    have := hw.out
    rwa [List.nil_append] at this
  rw [e]
  refine ⟨hw.once, fun v => ⟨fun hv => ?_, fun hv => ?_⟩⟩
  · obtain ⟨i, hi, hr⟩ := hw.from_ v hv
    exact hr.lt ha (List.mem_range.1 hi)
  · have := (hw.been v).1 (hj v (List.mem_range.2 hv))
    simpa using this
theorem ord_len {adj : Nat → List Nat} {n : Nat} (ha : ∀ x, ∀ j ∈ adj x, j < n) : (ordL adj n).length = n := by
  have h := ord_is ha
  have := GG.same_len h.1 List.nodup_range (fun x => by rw [h.2 x, List.mem_range])
  simpa using this
section
variable {L : Type} [Inhabited L] [DecidableEq L] {M : Semi L}
/-- while v is telling, k of r0 are told -/
def TellI (M : Semi L) (S : Sys L) (v : Nat) (r0 : List Nat) (s0 : List L) (q0 : List Nat) (k : Nat) (s : List L) (q : List Nat) : Prop :=
  Mid M S v s q (r0.drop k) ∧ mu M s q ≤ mu M s0 q0 ∧ q0.length ≤ q.length ∧ (r0 = [] → q = q0)
theorem tell_start {S : Sys L} {s : List L} {q q' : List Nat} {v : Nat} (h : St M S s q) (hS : SysOk M S) (hq : q.Perm (v :: q')) : TellI M S v (ask S.N v) s q' 0 s q' :=
  ⟨mid_start h hq (fun o => by rw [List.drop_zero, mem_ask, hS.len]; rfl), Nat.le_refl _, Nat.le_refl _, fun _ => rfl⟩
theorem tell_skip {S : Sys L} {s s0 : List L} {q q0 r0 : List Nat} {v k o : Nat} (h : TellI M S v r0 s0 q0 k s q) (ho : r0[k]? = some o) (e : M.join (at' s o) (at' s v) = at' s o) : TellI M S v r0 s0 q0 (k + 1) s q := by
  obtain ⟨hk, e1⟩ := List.getElem?_eq_some_iff.1 ho
  have h1 := h.1
  rw [List.drop_eq_getElem_cons hk, e1] at h1
  exact ⟨mid_skip h1 e, h.2⟩
theorem tell_grow {S : Sys L} {s s0 : List L} {q q' q0 r0 : List Nat} {v k o : Nat} (hS : SysOk M S) (h : TellI M S v r0 s0 q0 k s q) (ho : r0[k]? = some o) (e : M.join (at' s o) (at' s v) ≠ at' s o) (hn : q'.Nodup) (hq : ∀ u, u ∈ q' ↔ u = o ∨ u ∈ q) (hl : q.length ≤ q'.length ∧ q'.length ≤ q.length + 1) : TellI M S v r0 s0 q0 (k + 1) (s.set o (M.join (at' s o) (at' s v))) q' := by
  obtain ⟨hk, e1⟩ := List.getElem?_eq_some_iff.1 ho
  have h1 := h.1
  rw [List.drop_eq_getElem_cons hk, e1] at h1
  exact ⟨mid_grow hS h1 e hn hq, Nat.le_trans (mu_grow h1 e hl.2) h.2.1, Nat.le_trans h.2.2.1 hl.1, fun e2 => by subst e2; simp at hk⟩
/-- the looks: k are done -/
def LoopI (M : Semi L) (S : Sys L) (k : Nat) (s : List L) (q : List Nat) : Prop :=
  St M S s q ∧ S.C.length ≤ k + q.length ∧ k + mu M s q ≤ S.C.length + sumP M S.C ∧ ((∀ i, S.nd i = []) → k + q.length = S.C.length)
theorem loop_start {S : Sys L} (h : SysOk M S) {q : List Nat} (hn : q.Nodup) (hq : ∀ v, v ∈ q ↔ v < S.C.length) : LoopI M S 0 S.C q := by
  have hl : q.length = S.C.length := by
    have := GG.same_len hn List.nodup_range (fun x => by rw [hq x, List.mem_range])
    simpa using this
  exact ⟨st_start h hn hq, by omega, by unfold mu; omega, fun _ => by omega⟩
theorem loop_step {S : Sys L} {k : Nat} {s s' : List L} {q q' q2 : List Nat} {v : Nat} (hS : SysOk M S) (h : LoopI M S k s q) (hq : q.Perm (v :: q')) (g : TellI M S v (ask S.N v) s q' (ask S.N v).length s' q2) : LoopI M S (k + 1) s' q2 ∧ mu M s' q2 < mu M s q := by
  have hl : q.length = q'.length + 1 := by rw [hq.length_eq]; rfl
  have h1 := g.1
  rw [List.drop_length] at h1
  have h2 := g.2.1
  have h3 := g.2.2.1
  have h4 := h.2.2.1
  have h5 := h.2.1
  refine ⟨⟨mid_end h1, by omega, ?_, fun hN => ?_⟩, ?_⟩
  · unfold mu at *; omega
  · have e0 : ask S.N v = [] := by
      rw [List.eq_nil_iff_forall_not_mem]
      intro i hi
      have := (mem_ask.1 hi).2
      have e1 := hN i
      unfold Sys.nd at e1
      rw [e1] at this
      simp at this
    rw [g.2.2.2 e0]
    have := h.2.2.2 hN
    omega
  · unfold mu at *; omega
theorem loop_end {S : Sys L} (hS : SysOk M S) {k : Nat} {s : List L} (h : LoopI M S k s []) : Least M S s ∧ S.C.length ≤ k ∧ k ≤ S.C.length + sumP M S.C ∧ ((∀ i, S.nd i = []) → k = S.C.length) := by
  refine ⟨st_end hS h.1, by simpa using h.2.1, ?_, fun hN => by simpa using h.2.2.2 hN⟩
  have := h.2.2.1
  unfold mu at this
  simp at this
  omega
/-- what an equation says -/
def valT (M : Semi L) (S : Sys L) (l : List L) (i k : Nat) : L := ((S.nd i).take k).foldl (fun v j => M.join v (at' l j)) (at' S.C i)
def val (M : Semi L) (S : Sys L) (l : List L) (i : Nat) : L := (S.nd i).foldl (fun v j => M.join v (at' l j)) (at' S.C i)
theorem valT_zero (S : Sys L) (l : List L) (i : Nat) : valT M S l i 0 = at' S.C i := by simp [valT]
theorem valT_step {S : Sys L} {l : List L} {i k j : Nat} (h : (S.nd i)[k]? = some j) : valT M S l i (k + 1) = M.join (valT M S l i k) (at' l j) := by
  obtain ⟨hk, e⟩ := List.getElem?_eq_some_iff.1 h
  unfold valT
  rw [List.take_succ_eq_append_getElem hk, List.foldl_append, e]
  rfl
theorem valT_all {S : Sys L} {l : List L} {i k : Nat} (h : (S.nd i).length ≤ k) : valT M S l i k = val M S l i := by
  unfold valT val
  rw [List.take_of_length_le h]
theorem fold_val (l : List L) (js : List Nat) : ∀ (v : L), M.ok v → (∀ j ∈ js, M.ok (at' l j)) → M.ok (js.foldl (fun v j => M.join v (at' l j)) v) ∧ le M v (js.foldl (fun v j => M.join v (at' l j)) v) ∧ (∀ j ∈ js, le M (at' l j) (js.foldl (fun v j => M.join v (at' l j)) v)) ∧ ∀ x, M.ok x → le M v x → (∀ j ∈ js, le M (at' l j) x) → le M (js.foldl (fun v j => M.join v (at' l j)) v) x := by
  induction js with
  | nil => intro v hv _; exact ⟨hv, le_refl hv, fun j hj => by simp at hj, fun x _ h _ => h⟩
  | cons j js ih =>
    intro v hv hl
    have hj := hl j (List.mem_cons_self ..)
    obtain ⟨h1, h2, h3, h4⟩ := ih (M.join v (at' l j)) (M.cl hv hj) (fun i hi => hl i (List.mem_cons_of_mem _ hi))
    refine ⟨h1, le_trans hv (M.cl hv hj) h1 (le_left hv hj) h2, ?_, ?_⟩
    · intro i hi
      rcases List.mem_cons.1 hi with rfl | hi
      · exact le_trans hj (M.cl hv hj) h1 (le_right hv hj) h2
      · exact h3 i hi
    · intro x hx hvx hall
      exact h4 x hx (le_lub hv hj hx hvx (hall j (List.mem_cons_self ..))) (fun i hi => hall i (List.mem_cons_of_mem _ hi))
theorem val_is {S : Sys L} (hS : SysOk M S) {l : List L} (hl : ∀ i, i < S.C.length → M.ok (at' l i)) {i : Nat} (hi : i < S.C.length) : M.ok (val M S l i) ∧ le M (at' S.C i) (val M S l i) ∧ (∀ j ∈ S.nd i, le M (at' l j) (val M S l i)) ∧ ∀ x, M.ok x → le M (at' S.C i) x → (∀ j ∈ S.nd i, le M (at' l j) x) → le M (val M S l i) x :=
  fold_val l (S.nd i) _ (hS.ok i hi) (fun j hj => hl j (hS.lt i hi j hj))
/-- which labels bound, by what the equations say -/
theorem bnd_iff {S : Sys L} (hS : SysOk M S) {t : List L} (hl : t.length = S.C.length) (hk : ∀ i, i < S.C.length → M.ok (at' t i)) : Bnd M S t ↔ ∀ i, i < S.C.length → le M (val M S t i) (at' t i) := by
  constructor
  · intro h i hi
    exact (val_is hS hk hi).2.2.2 _ (hk i hi) (h.base i hi) (h.need i hi)
  · intro h
    refine ⟨hl, hk, fun i hi => ?_, fun i hi j hj => ?_⟩
    · have hv := val_is hS hk hi
      exact le_trans (hS.ok i hi) hv.1 (hk i hi) hv.2.1 (h i hi)
    · have hv := val_is hS hk hi
      exact le_trans (hk j (hS.lt i hi j hj)) hv.1 (hk i hi) (hv.2.2.1 j hj) (h i hi)
/-- the way by rounds -/
structure Way (M : Semi L) (S : Sys L) (l : List L) : Prop where
  len : l.length = S.C.length
  ok : ∀ i, i < S.C.length → M.ok (at' l i)
  low : ∀ i, i < S.C.length → le M (at' S.C i) (at' l i)
  high : ∀ t, Bnd M S t → ∀ i, i < S.C.length → le M (at' l i) (at' t i)
  up : ∀ i, i < S.C.length → le M (at' l i) (val M S l i)
theorem way_start {S : Sys L} (hS : SysOk M S) : Way M S S.C :=
  ⟨rfl, hS.ok, fun i hi => le_refl (hS.ok i hi), fun t ht i hi => ht.base i hi, fun i hi => (val_is hS hS.ok hi).2.1⟩
theorem way_step {S : Sys L} (hS : SysOk M S) {l : List L} (h : Way M S l) {i : Nat} (hi : i < S.C.length) (e : val M S l i ≠ at' l i) : Way M S (l.set i (val M S l i)) ∧ sumP M (l.set i (val M S l i)) < sumP M l := by
  have hv := val_is hS h.ok hi
  have hil : i < l.length := by have := h.len; omega
  have hthere : at' (l.set i (val M S l i)) i = val M S l i := by rw [at_set _ _ _ _ hil, if_pos rfl]
  have hsame : ∀ j, j ≠ i → at' (l.set i (val M S l i)) j = at' l j := fun j hj => by rw [at_set _ _ _ _ hil, if_neg hj]
  have hk : ∀ j, j < S.C.length → M.ok (at' (l.set i (val M S l i)) j) := fun j hj => by
    by_cases e1 : j = i
    · rw [e1, hthere]; exact hv.1
    · rw [hsame j e1]; exact h.ok j hj
  have hup : ∀ j, j < S.C.length → le M (at' l j) (at' (l.set i (val M S l i)) j) := fun j hj => by
    by_cases e1 : j = i
    · rw [e1, hthere]; exact h.up i hi
    · rw [hsame j e1]; exact le_refl (h.ok j hj)
  have hval : ∀ j, j < S.C.length → le M (val M S l j) (val M S (l.set i (val M S l i)) j) := fun j hj => by
    have h2 := val_is hS hk hj
    exact (val_is hS h.ok hj).2.2.2 _ h2.1 h2.2.1 (fun m hm => le_trans (h.ok m (hS.lt j hj m hm)) (hk m (hS.lt j hj m hm)) h2.1 (hup m (hS.lt j hj m hm)) (h2.2.2.1 m hm))
  refine ⟨⟨by rw [List.length_set]; exact h.len, hk, fun j hj => le_trans (hS.ok j hj) (h.ok j hj) (hk j hj) (h.low j hj) (hup j hj), ?_, ?_⟩, ?_⟩
  · intro t ht j hj
    by_cases e1 : j = i
    · rw [e1, hthere]
      exact hv.2.2.2 _ (ht.ok i hi) (ht.base i hi) (fun m hm => le_trans (h.ok m (hS.lt i hi m hm)) (ht.ok m (hS.lt i hi m hm)) (ht.ok i hi) (h.high t ht m (hS.lt i hi m hm)) (ht.need i hi m hm))
    · rw [hsame j e1]; exact h.high t ht j hj
  · intro j hj
    have h2 := val_is hS hk hj
    by_cases e1 : j = i
    · rw [e1, hthere]; exact hval i hi
    · rw [hsame j e1]
      exact le_trans (h.ok j hj) (val_is hS h.ok hj).1 h2.1 (h.up j hj) (hval j hj)
  · have hj : M.join (at' l i) (val M S l i) = val M S l i := h.up i hi
    have hd := M.drop (h.ok i hi) hv.1 (by rw [hj]; exact e)
    rw [hj] at hd
    have := sumP_set (M := M) l i (val M S l i) hil
    omega
theorem way_end {S : Sys L} (hS : SysOk M S) {l : List L} (h : Way M S l) (e : ∀ i, i < S.C.length → val M S l i = at' l i) : Least M S l := by
  refine ⟨(bnd_iff hS h.len h.ok).2 fun i hi => ?_, h.high⟩
  rw [e i hi]
  exact le_refl (h.ok i hi)
end
/-- how often v is needed -/
def cntN (N : List (List Nat)) (v : Nat) : Nat := (N.map (fun r => r.count v)).sum
def fanN (N : List (List Nat)) : Nat := LL.maxUp (cntN N) N.length
theorem cnt_some {N : List (List Nat)} {i v : Nat} (h : v ∈ N[i]?.getD []) : 1 ≤ cntN N v := by
  unfold cntN
  induction N generalizing i with
  | nil => simp at h
  | cons r N ih =>
    rw [List.map_cons, List.sum_cons]
    cases i with
    | zero =>
      simp at h
      have := List.count_pos_iff.2 h
      omega
    | succ i =>
      have := ih (i := i) (by simpa using h)
      omega
theorem fan_some {N : List (List Nat)} {i v : Nat} (hv : v < N.length) (h : v ∈ N[i]?.getD []) : 1 ≤ fanN N :=
  Nat.le_trans (cnt_some h) (LL.maxUp_le hv)
/-- the looks are as many as may be -/
theorem looks_le {xs : List Int} (hr : LL.rightB xs = true) (hw : Wide xs) {S : Sys Lab} (hS : SysOk (labs xs hr hw) S) {k : Nat} (h1 : k ≤ S.C.length + sumP (labs xs hr hw) S.C) (h2 : (∀ i, S.nd i = []) → k = S.C.length) : k ≤ S.C.length + S.C.length * fanN S.N * (LL.heightN xs + 64) := by
  by_cases hN : ∀ i, S.nd i = []
  · rw [h2 hN]; omega
  · obtain ⟨i, hi⟩ : ∃ i, S.nd i ≠ [] := Classical.byContradiction fun hn => hN fun i => Classical.byContradiction fun hne => hn ⟨i, hne⟩
    obtain ⟨j, hj⟩ : ∃ j, j ∈ S.nd i := List.exists_mem_of_ne_nil _ hi
    have hiN : i < S.N.length := Classical.byContradiction fun hn => hi (by unfold Sys.nd; rw [List.getElem?_eq_none (by omega)]; rfl)
    have hf := fan_some (N := S.N) (i := i) (v := j) (by rw [hS.len]; exact hS.lt i (by rw [← hS.len]; exact hiN) j hj) hj
    have hs := sumP_le (M := labs xs hr hw) S.C (LL.heightN xs + 64) (fun i hi => pot_le xs (hS.ok i hi).1)
    have : S.C.length * (LL.heightN xs + 64) ≤ S.C.length * fanN S.N * (LL.heightN xs + 64) := by
      rw [Nat.mul_assoc]
      exact Nat.mul_le_mul_left _ (Nat.le_mul_of_pos_left _ hf)
    omega
end SV
end Go.Proofs.YtkoofibhddkpiaaDoor
