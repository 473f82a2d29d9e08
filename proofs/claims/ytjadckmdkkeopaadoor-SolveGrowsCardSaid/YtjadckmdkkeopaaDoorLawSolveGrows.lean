import Derived.Test.YtjadckmdkkeopaaDoorOpenM
import Derived.Test.YtjadckmdkkeopaaDoorSolY
set_option linter.unusedSimpArgs false
set_option linter.unusedVariables false
/-! SolveGrows, walked -/
namespace Go.Proofs.YtjadckmdkkeopaaDoor
open Go.RowKit
open SV (Lab SysOk Least labs sumOf mu sumP at' natsL askT askI fanN lok Bnd val valT)
namespace SV
variable {L : Type} [Inhabited L] [DecidableEq L] {M : Semi L}
/-- with more in it, a system has no lower labels -/
theorem grows_le {S T : Sys L} (hS : SysOk M S) (hT : SysOk M T) (hlen : T.C.length = S.C.length) (hC : ∀ i, i < S.C.length → le M (at' S.C i) (at' T.C i)) (hN : ∀ i, i < S.C.length → ∀ j ∈ S.nd i, j ∈ T.nd i) {l m : List L} (h : Least M S l) (g : Least M T m) :
    ∀ i, i < S.C.length → le M (at' l i) (at' m i) :=
  h.2 m ⟨g.1.len.trans hlen, fun i hi => g.1.ok i (by rw [hlen]; exact hi), fun i hi => le_trans (hS.ok i hi) (hT.ok i (by rw [hlen]; exact hi)) (g.1.ok i (by rw [hlen]; exact hi)) (hC i hi) (g.1.base i (by rw [hlen]; exact hi)), fun i hi j hj => g.1.need i (by rw [hlen]; exact hi) j (hN i hi j hj)⟩
end SV
theorem labV_set {l : List (Int × Int)} {q : Nat} (hq : q < l.length) (p : Int × Int) : ((labV l).set (q * 2) (.int .i64 p.1)).set (q * 2 + 1) (.int .u64 p.2) = labV (l.set q p) := by
  induction l generalizing q with
  | nil => simp at hq
  | cons e l ih =>
    cases q with
    | zero => simp [labV]
    | succ q =>
      have := ih (q := q) (by simpa using hq)
      have e1 : (q + 1) * 2 = q * 2 + 2 := by omega
      rw [e1]
      unfold labV at this ⊢
      rw [List.flatMap_cons, List.set_cons_succ, List.flatMap_cons]
      simpa using this
section
variable {xs : List Int} {c : List (Int × Int)} {tq : List (List Int)} {q nd : Nat} {a : Nat} {m : Int}
theorem set_mem {α : Type} {l : List α} {i : Nat} {x y : α} (h : y ∈ l.set i x) : y ∈ l ∨ y = x := List.mem_or_eq_of_mem_set h
/-- what is joined to the q-th label -/
def newL (xs : List Int) (c : List (Int × Int)) (q a : Nat) (m : Int) : Lab := SV.ljoin xs (at' (natL c) q) (a, m)
theorem newL_ok (hr : LL.rightB xs = true) (hw : Wide xs) (hq : lok xs (at' (natL c) q)) (ha : a < xs.length) (hm : 0 ≤ m ∧ m ≤ 18446744073709551615) : lok xs (newL xs c q a m) :=
  (labs xs hr hw).cl hq (show lok xs (a, m) from ⟨ha, hm⟩)
/-- the system with one label higher, and one need more -/
def cN (xs : List Int) (c : List (Int × Int)) (q a : Nat) (m : Int) : List (Int × Int) := c.set q (((newL xs c q a m).1 : Int), (newL xs c q a m).2)
def tN (tq : List (List Int)) (q nd : Nat) : List (List Int) := tq.set q (tq[q]?.getD [] ++ [(nd : Int)])
theorem cN_len : (cN xs c q a m).length = c.length := by unfold cN; simp
theorem tN_len : (tN tq q nd).length = tq.length := by unfold tN; simp
theorem tN_row (j : Nat) : (tN tq q nd)[j]?.getD [] = if j = q ∧ q < tq.length then tq[q]?.getD [] ++ [(nd : Int)] else tq[j]?.getD [] := by
  unfold tN
  rw [List.getElem?_set]
  by_cases h : q = j
  · subst h
    by_cases h2 : q < tq.length
    · simp [h2]
    · simp [h2]
  · rw [if_neg h, if_neg (fun e => h e.1.symm)]
theorem tN_few (h : ∀ j : Nat, (tq[j]?.getD []).length ≤ 60) (j : Nat) : ((tN tq q nd)[j]?.getD []).length ≤ 1000000 := by
  rw [tN_row]
  split
  · have := h q
    rw [List.length_append]
    simp only [List.length_cons, List.length_nil]
    omega
  · have := h j
    omega
theorem natL_cN : natL (cN xs c q a m) = (natL c).set q (newL xs c q a m) := by
  unfold cN natL
  rw [List.map_set]
  simp
theorem wide_cN (hr : LL.rightB xs = true) (hw : Wide xs) (hc : WideL c) (hq : lok xs (at' (natL c) q)) (ha : a < xs.length) (hm : 0 ≤ m ∧ m ≤ 18446744073709551615) : WideL (cN xs c q a m) := by
  intro p hp
  rcases set_mem hp with h | h
  · exact hc p h
  · rw [h]; exact (newL_ok hr hw hq ha hm).2
theorem sys_grown (hs : sysB xs c tq = true) (hw : Wide xs) (hq : lok xs (at' (natL c) q)) (hn : nd < c.length) (ha : a < xs.length) (hm : 0 ≤ m ∧ m ≤ 18446744073709551615) : sysB xs (cN xs c q a m) (tN tq q nd) = true := by
  unfold sysB at hs ⊢
  simp only [Bool.and_eq_true, decide_eq_true_eq, List.all_eq_true, cN_len, tN_len] at hs ⊢
  obtain ⟨⟨⟨⟨h1, h2⟩, h3⟩, h4⟩, h5⟩ := hs
  refine ⟨⟨⟨⟨h1, h2⟩, h3⟩, fun p hp => ?_⟩, fun r hr => ?_⟩
  · rcases set_mem hp with h | h
    · exact h4 p h
    · have h6 := (newL_ok h3 hw hq ha hm).1
      rw [h]
      unfold labOk
      simp only [decide_eq_true_eq]
      omega
  · rcases set_mem hr with h | h
    · exact h5 r h
    · rw [h]
      unfold rowIn
      rw [List.all_append, Bool.and_eq_true]
      refine ⟨?_, by simp; omega⟩
      by_cases h7 : q < tq.length
      · exact h5 _ (GG.getD_mem h7)
      · rw [List.getElem?_eq_none (by omega)]; rfl
theorem grown_le (hr : LL.rightB xs = true) (hw : Wide xs) (hs : SysOk (labs xs hr hw) (sysL c tq)) (hs2 : SysOk (labs xs hr hw) (sysL (cN xs c q a m) (tN tq q nd))) (hq : q < c.length) (ha : a < xs.length) (hm : 0 ≤ m ∧ m ≤ 18446744073709551615) {l r : List Lab} (h : Least (labs xs hr hw) (sysL c tq) l) (g : Least (labs xs hr hw) (sysL (cN xs c q a m) (tN tq q nd)) r) :
    ∀ i, i < c.length → SV.le (labs xs hr hw) (at' l i) (at' r i) := by
  have e0 : (sysL c tq).C.length = c.length := natL_len c
  have e1 : (sysL (cN xs c q a m) (tN tq q nd)).C.length = c.length := (natL_len _).trans cN_len
  have hok : lok xs (at' (natL c) q) := hs.ok q (by rw [e0]; exact hq)
  intro i hi
  refine SV.grows_le hs hs2 (e1.trans e0.symm) (fun i hi => ?_) (fun i hi j hj => ?_) h g i (by rw [e0]; exact hi)
  · show SV.le _ (at' (natL c) i) (at' (natL (cN xs c q a m)) i)
    rw [natL_cN, SV.at_set _ _ _ _ (by rw [natL_len]; exact hq)]
    by_cases e : i = q
    · rw [if_pos e, e]
      exact SV.le_left (M := labs xs hr hw) hok (show lok xs (a, m) from ⟨ha, hm⟩)
    · rw [if_neg e]
      exact SV.le_refl (M := labs xs hr hw) (hs.ok i hi)
  · rw [nd_at] at hj ⊢
    rw [tN_row]
    split
    · rename_i e
      rw [e.1] at hj
      rw [List.map_append]
      exact List.mem_append_left _ hj
    · exact hj
end
def XAt (W : World) (cs : Array Value) (w : World) : Prop := Below W.heap.size W w ∧ W.heap.size < w.heap.size ∧ w.heap[W.heap.size]? = some (.cells cs 48)
theorem xat_start (W : World) (cs : Array Value) : XAt W cs (W.alloc (.cells cs 48)) :=
  ⟨(Below.refl _ _).alloc (Nat.le_refl _) _, by simp, heap_alloc_new _ _⟩
theorem XAt.on {W w w' : World} {cs : Array Value} (h : XAt W cs w) (hb : Below w.heap.size w w') : XAt W cs w' :=
  ⟨h.1.trans (hb.mono h.1.size), Nat.lt_of_lt_of_le h.2.1 hb.size, (hb.block _ h.2.1).trans h.2.2⟩
theorem XAt.drewN {W w : World} {cs : Array Value} (h : XAt W cs w) (d : Nat) : XAt W cs (w.drewN d) := h.on ⟨rfl, rfl, rfl, Nat.le_refl _, fun _ _ => rfl⟩
theorem XAt.all {W w : World} {v0 v1 v2 v3 v4 v5 v6 : Value} (h : XAt W #[v0, v1, v2, v3, v4, v5, v6] w) :
    w.cell? ⟨W.heap.size, 0, none⟩ = some v0 ∧ w.cell? ⟨W.heap.size, 1, none⟩ = some v1 ∧ w.cell? ⟨W.heap.size, 2, none⟩ = some v2 ∧ w.cell? ⟨W.heap.size, 3, none⟩ = some v3 ∧ w.cell? ⟨W.heap.size, 4, none⟩ = some v4 ∧ w.cell? ⟨W.heap.size, 5, none⟩ = some v5 ∧ w.cell? ⟨W.heap.size, 6, none⟩ = some v6 :=
  ⟨cell_of_row _ _ 0 _ _ _ h.2.2, cell_of_row _ _ 1 _ _ _ h.2.2, cell_of_row _ _ 2 _ _ _ h.2.2, cell_of_row _ _ 3 _ _ _ h.2.2, cell_of_row _ _ 4 _ _ _ h.2.2, cell_of_row _ _ 5 _ _ _ h.2.2, cell_of_row _ _ 6 _ _ _ h.2.2⟩
/-- the copy of a system in memory of its own, its box among it -/
structure GrowS (w5 : World) (T cb cs gb gs n k : Nat) (cells vs : List Value) (tq : List (List Int)) (w : World) : Prop where
  b : Below w5.heap.size w5 w
  c : w.ownsRow w5.heap.size 43 2 (.slice (some ⟨cb, 0, none⟩) n cs) n cells
  g : w.ownsRow w5.heap.size 50 1 (.slice (some ⟨gb, 0, none⟩) k gs) k vs
  r : GG.Rows w5.heap.size w vs tq
  t : w.heap[T]? = some (.cells #[.slice (some ⟨cb, 0, none⟩) n cs, .slice (some ⟨gb, 0, none⟩) k gs] 26)
  l : w5.heap.size ≤ T ∧ T < w.heap.size
  d : cb ≠ T ∧ gb ≠ T ∧ ∀ (j b : Nat) (r : Value), vs[j]? = some r → r.ownBlock = some b → b ≠ T
theorem GrowS.on {w5 w w' : World} {T cb cs gb gs n k : Nat} {cells vs : List Value} {tq : List (List Int)} (h : GrowS w5 T cb cs gb gs n k cells vs tq w) (hb : Below w.heap.size w w') : GrowS w5 T cb cs gb gs n k cells vs tq w' :=
  ⟨h.b.trans (hb.mono h.b.size), SS.own_of_block h.c (fun j e => hb.block j (h.c.lt j e).2), SS.own_of_block h.g (fun j e => hb.block j (h.g.lt j e).2), rows_blocks h.r (fun j _ hj => hb.block j hj), (hb.block _ h.l.2).trans h.t, ⟨h.l.1, Nat.lt_of_lt_of_le h.l.2 hb.size⟩, h.d⟩
theorem GrowS.drewN {w5 w : World} {T cb cs gb gs n k : Nat} {cells vs : List Value} {tq : List (List Int)} (h : GrowS w5 T cb cs gb gs n k cells vs tq w) (d : Nat) : GrowS w5 T cb cs gb gs n k cells vs tq (w.drewN d) := h.on ⟨rfl, rfl, rfl, Nat.le_refl _, fun _ _ => rfl⟩
/-- .. with one label written -/
theorem GrowS.put {w5 w : World} {T cb cs gb gs n k q : Nat} {c : List (Int × Int)} {vs : List Value} {tq : List (List Int)} (h : GrowS w5 T cb cs gb gs n k (labV c) vs tq w) (hq : q < c.length) (x y : Int) :
    GrowS w5 T cb cs gb gs n k (labV (c.set q (x, y))) vs tq ((w.setCell ⟨cb, q * 2, none⟩ (.int .i64 x)).setCell ⟨cb, q * 2 + 1, none⟩ (.int .u64 y)) := by
  have hB : w5.heap.size ≤ cb := (h.c.lt cb rfl).1
  have hk : ∀ j, j ≠ cb → ((w.setCell ⟨cb, q * 2, none⟩ (.int .i64 x)).setCell ⟨cb, q * 2 + 1, none⟩ (.int .u64 y)).heap[j]? = w.heap[j]? := fun j hj => (Below.heap_setCell _ _ _ _ hj).trans (Below.heap_setCell _ _ _ _ hj)
  have q1 := World.ownsRow.stored h.c (q * 2) (.int .i64 x)
  have q2 := (World.ownsRow.stored q1.1 (q * 2 + 1) (.int .u64 y)).1
  rw [labV_set hq (x, y)] at q2
  refine ⟨(h.b.setCell (p := ⟨cb, q * 2, none⟩) hB _).setCell (p := ⟨cb, q * 2 + 1, none⟩) hB _, q2, SS.own_of_block h.g (fun j e => hk j ?_), ⟨h.r.1, fun j hj => ?_⟩, (hk T (fun e => h.d.1 e.symm)).trans h.t, ⟨h.l.1, ?_⟩, h.d⟩
  · rcases GG.own_types h.g h.c (by decide) with e1 | e1
    · rw [e] at e1; cases e1
    · rw [e] at e1; exact fun e2 => e1 (by rw [e2]; rfl)
  · obtain ⟨r, e, g⟩ := h.r.2 j hj
    refine ⟨r, e, SS.own_of_block g (fun i ei => hk i ?_)⟩
    rcases GG.own_types g h.c (by decide) with e1 | e1
    · rw [ei] at e1; cases e1
    · rw [ei] at e1; exact fun e2 => e1 (by rw [e2]; rfl)
  · have := h.l.2
    simpa using this
/-- .. with one need more -/
theorem GrowS.app {w5 w w' : World} {T cb cs gb gs n q nd : Nat} {cells vs : List Value} {tq : List (List Int)} (h : GrowS w5 T cb cs gb gs n tq.length cells vs tq w) (hap : Apart vs) (hq : q < tq.length) {u v' : Value} (hu : vs[q]? = some u)
    (ho : w'.ownsRow w5.heap.size 3 1 v' ((tq[q]?.getD []).length + 1) (intsV (tq[q]?.getD []) ++ [.int .i64 (nd : Int)])) (hg : w.grownBy w' u.ownBlock) :
    Below w5.heap.size w5 (w'.setCell ⟨gb, q, none⟩ v') ∧ (w'.setCell ⟨gb, q, none⟩ v').ownsRow w5.heap.size 43 2 (.slice (some ⟨cb, 0, none⟩) n cs) n cells ∧ (w'.setCell ⟨gb, q, none⟩ v').ownsRow w5.heap.size 50 1 (.slice (some ⟨gb, 0, none⟩) tq.length gs) tq.length (vs.set q v') ∧
      GG.Rows w5.heap.size (w'.setCell ⟨gb, q, none⟩ v') (vs.set q v') (tN tq q nd) ∧ (w'.setCell ⟨gb, q, none⟩ v').heap[T]? = some (.cells #[.slice (some ⟨cb, 0, none⟩) n cs, .slice (some ⟨gb, 0, none⟩) tq.length gs] 26) := by
  have hB : w5.heap.size ≤ gb := (h.g.lt gb rfl).1
  obtain ⟨u2, hu2, hou⟩ := h.r.2 q hq
  rw [hu] at hu2
  cases hu2
  have hub : ∀ k, u.ownBlock = some k → w5.heap.size ≤ k := fun k e => (hou.lt k e).1
  have hk : ∀ j, j ≠ gb → (w'.setCell ⟨gb, q, none⟩ v').heap[j]? = w'.heap[j]? := fun j hj => Below.heap_setCell _ _ _ _ hj
  have g1 := h.g.kept hg (GG.own_types h.g hou (by decide))
  have c1 := h.c.kept hg (GG.own_types h.c hou (by decide))
  have q1 := (World.ownsRow.stored g1 q v').1
  have int_gb : ∀ {r : Value} {m : Nat} {ys : List Value}, w'.ownsRow w5.heap.size 3 1 r m ys → ∀ i, r.ownBlock = some i → i ≠ gb := by
    intro r m ys hr i ei
    rcases GG.own_types hr g1 (by decide) with e1 | e1
    · rw [ei] at e1; cases e1
    · rw [ei] at e1; exact fun e2 => e1 (by rw [e2]; rfl)
  refine ⟨(h.b.grown hg h.b.size hub).setCell (p := ⟨gb, q, none⟩) hB _, SS.own_of_block c1 (fun i ei => hk i ?_), q1, ⟨by rw [List.length_set, tN_len]; exact h.r.1, fun j hj => ?_⟩, (hk T (fun e => h.d.2.1 e.symm)).trans ((hg.block T h.l.2 (fun e => h.d.2.2 q T u hu e.symm rfl)).trans h.t)⟩
  · rcases GG.own_types c1 g1 (by decide) with e1 | e1
    · rw [ei] at e1; cases e1
    · rw [ei] at e1; exact fun e2 => e1 (by rw [e2]; rfl)
  · rw [tN_len] at hj
    rw [tN_row]
    have hvl : q < vs.length := by rw [h.r.1]; exact hq
    by_cases e : j = q
    · subst e
      rw [if_pos ⟨rfl, hq⟩]
      refine ⟨v', by rw [List.getElem?_set_self hvl], ?_⟩
      have e3 : intsV (tq[j]?.getD [] ++ [(nd : Int)]) = intsV (tq[j]?.getD []) ++ [.int .i64 (nd : Int)] := by simp [intsV]
      rw [e3, List.length_append]
      exact SS.own_of_block ho (fun i ei => hk i (int_gb ho i ei))
    · rw [if_neg (fun h => e h.1)]
      obtain ⟨r, hr, hor⟩ := h.r.2 j hj
      have hkept := hor.kept hg (by
        cases hb : r.ownBlock with
        | none => exact .inl rfl
        | some b => exact .inr (fun e4 => hap j q r u b e hr hu hb e4.symm))
      exact ⟨r, by rw [List.getElem?_set_ne (fun h => e h.symm)]; exact hr, SS.own_of_block hkept (fun i ei => hk i (int_gb hkept i ei))⟩
theorem sys_okS {xs : List Int} {c : List (Int × Int)} {tq : List (List Int)} (hr : LL.rightB xs = true) (hw : Wide xs) (hc : WideL c) (h : sysB xs c tq = true) : SysOk (labs xs hr hw) (sysL c tq) := by
  obtain ⟨_, h2, _, h4, h5⟩ := sys_parts h
  exact sys_ok hr hw hc h2 h4 h5
theorem all_of {xs : List Int} {c : List (Int × Int)} {tq : List (List Int)} (h : sysB xs c tq = true) : c.all (labOk xs.length) = true := by
  unfold sysB at h
  simp only [Bool.and_eq_true] at h
  exact h.1.2
theorem mod_nat (y : Int) (n : Nat) (h : 0 < n) : ∃ q : Nat, (IntKind.u64.wrap y).tmod (n : Int) = (q : Int) ∧ q < n := by
  have h1 : 0 ≤ IntKind.u64.wrap y := by rw [IntKind.wrap_u64]; omega
  have h2 : 0 ≤ IntKind.u64.wrap y % (n : Int) := Int.emod_nonneg _ (by omega)
  have h3 : IntKind.u64.wrap y % (n : Int) < n := Int.emod_lt_of_pos _ (by omega)
  refine ⟨(IntKind.u64.wrap y % (n : Int)).toNat, ?_, by omega⟩
  rw [Int.tmod_eq_emod_of_nonneg h1]
  omega
theorem u64_nat (n : Nat) (h : (n : Int) ≤ 17592186044416) : IntKind.u64.wrap (n : Int) = (n : Int) := by rw [IntKind.wrap_u64]; omega
theorem i64_nat (n : Nat) (h : (n : Int) ≤ 17592186044416) : IntKind.i64.wrap (n : Int) = (n : Int) := by rw [IntKind.wrap_i64]; omega
set_option maxRecDepth 100000 in
set_option maxHeartbeats 12800000 in
theorem solveGrows_walk {ua : Option Addr} {uc : Nat} {cv nv : Value} {xs : List Int} {c : List (Int × Int)} {tq : List (List Int)} {aq ne lv lm : Int} (W : World) (hu : Nums .u64 W.heap.size W (.slice ua xs.length uc) xs) (hx : Wide xs) (hxl : xs.length ≤ big5) (hT : Tz W) (hv : LabRow W.heap.size W cv c) (hwc : WideL c) (hg : GraphM W.heap.size W nv tq) (hs : Small tq) (hcl : c.length ≤ 17592186044416) (hlm : 0 ≤ lm ∧ lm ≤ 18446744073709551615) :
    Calls Tryd.prog 6 #[.agg #[.slice ua xs.length uc, cv, nv, .int .i64 aq, .int .i64 ne, .int .i64 lv, .int .u64 lm]] W fun e V => e = .returned (.bool true) ∧ Below W.heap.size W V := by
  obtain ⟨ca, cc, rfl⟩ := hv.form
  obtain ⟨na, nc, rfl⟩ := hg.form
  obtain ⟨i9, hi9, hi90, hi91, hi92⟩ := info_parts Tryd.infoGInt
  have HU := Lib.hid hu
  have HX := Lib.hid hx
  have HXL := Lib.hid hxl
  have HT := Lib.hid hT
  have HC := Lib.hid hv
  have HWC := Lib.hid hwc
  have HG := Lib.hid hg
  have HSM := Lib.hid hs
  have HLM := Lib.hid hlm
  have HS0 := Lib.hid (xat_start W #[.slice ua xs.length uc, .slice ca c.length cc, .slice na tq.length nc, .int .i64 aq, .int .i64 ne, .int .i64 lv, .int .u64 lm])
  have HFEW := Lib.hid (few_any (ca := ca) (cc := cc) (l := c) _ ((HG.out.below HS0.out.1).mono HS0.out.1.size) hcl hs)
  have HAW := Lib.hid (fun w (hb : Below W.heap.size W w) => awake17_any w (hT.on hb))
  have HSV := Lib.hid (fun (hf : fewB c tq = true) w (hb : Below W.heap.size W w) => solve_any w ((HU.out.below hb).mono hb.size) hx hxl (hT.on hb) ((HC.out.below hb).mono hb.size) hwc ((HG.out.below hb).mono hb.size) (by omega) (by have := (few_parts hf).2.1; omega) (fun a => by have := (few_parts hf).2.2 a; omega))
  have b0 : (c.length : Int) ≤ 17592186044416 := by omega
  have b2 : (xs.length : Int) ≤ 17592186044416 := by have := hxl; unfold big5 at this; omega
  obtain ⟨z, ez⟩ : ∃ z, z = fewB c tq := ⟨_, rfl⟩
  have HZ := Lib.hid ez
  clear hu hx hxl hT hv hwc hg hs hcl hlm ez
  cases z with
  | false =>
    go_enter Tryd.func6, Tryd.ntmps6
    go_wp2_with (go_at_call 15; refine HFEW.out.mono ?_; rintro e w2 ⟨rfl, hb2⟩; rw [← HZ.out]; have HS2 := Lib.hid (HS0.out.on hb2); clear hb2; obtain ⟨hc0, hc1, hc2, hc3, hc4, hc5, hc6⟩ := HS2.out.all)
    go_ret
    exact ⟨rfl, HS2.out.1⟩
  | true =>
    by_cases h8 : (8 : Int) < xs.length
    · go_enter Tryd.func6, Tryd.ntmps6
      go_wp2_with (go_at_call 15; refine HFEW.out.mono ?_; rintro e w2 ⟨rfl, hb2⟩; rw [← HZ.out]; have HS2 := Lib.hid (HS0.out.on hb2); clear hb2; obtain ⟨hc0, hc1, hc2, hc3, hc4, hc5, hc6⟩ := HS2.out.all)
      go_ret
      exact ⟨rfl, HS2.out.1⟩
    · cases hsy : sysB xs c tq with
      | false =>
        have HSY := Lib.hid hsy
        clear hsy
        go_enter Tryd.func6, Tryd.ntmps6
        go_wp2_with (first
          | (go_at_call 15; refine HFEW.out.mono ?_; rintro e w2 ⟨rfl, hb2⟩; rw [← HZ.out]; have HS2 := Lib.hid (HS0.out.on hb2); clear hb2; obtain ⟨hc0, hc1, hc2, hc3, hc4, hc5, hc6⟩ := HS2.out.all)
          | (go_at_call 16; refine (HSV.out HZ.out.symm _ HS2.out.1).mono ?_; intro e w3 hse; obtain ⟨hb3, rfl⟩ := solveE_no hse HSY.out; have HS3 := Lib.hid (HS2.out.on hb3); clear hse hb3 hc0 hc1 hc2 hc3 hc4 hc5 hc6)
          | (go_at_call 21; refine (HAW.out _ HS3.out.1).mono ?_; rintro e w5 ⟨rfl, hb5⟩; have HS5 := Lib.hid (HS3.out.on hb5); clear hb5))
        go_ret
        exact ⟨rfl, HS5.out.1⟩
      | true =>
        have HSY := Lib.hid hsy
        obtain ⟨hln, htn, hr, hin, hti⟩ := sys_parts hsy
        have HRB := Lib.hid hr
        have HTN := Lib.hid htn
        have HALL := Lib.hid (all_of hsy)
        clear hsy hln htn hr hin hti
        by_cases h0 : c.length = 0
        · have hz0 : ((c.length : Int) == 0) = true := by rw [h0]; rfl
          clear h0
          go_enter Tryd.func6, Tryd.ntmps6
          go_wp2_with (first
            | (go_at_call 15; refine HFEW.out.mono ?_; rintro e w2 ⟨rfl, hb2⟩; rw [← HZ.out]; have HS2 := Lib.hid (HS0.out.on hb2); clear hb2; obtain ⟨hc0, hc1, hc2, hc3, hc4, hc5, hc6⟩ := HS2.out.all)
            | (go_at_call 16; refine (HSV.out HZ.out.symm _ HS2.out.1).mono ?_; intro e w3 hse; obtain ⟨hb3, sol, kk, ma, mc, rfl, hown, hL, hsl, hok, hk1, hk2⟩ := solveE_yes hse HSY.out HRB.out HX.out; have HS3 := Lib.hid (HS2.out.on hb3); have HM := Lib.hid (lab_own (by rw [hsl]; exact hown)); have HLS := Lib.hid hL; have HSL := Lib.hid hsl; have HOK := Lib.hid hok; clear hse hb3 hown hL hsl hok hk1 hk2; clear hc0 hc1 hc2 hc3 hc4 hc5 hc6; obtain ⟨hc0, hc1, hc2, hc3, hc4, hc5, hc6⟩ := HS3.out.all)
            | (go_at_call 21; refine (HAW.out _ HS3.out.1).mono ?_; rintro e w5 ⟨rfl, hb5⟩; have HS5 := Lib.hid (HS3.out.on hb5); clear hb5))
          go_ret
          exact ⟨rfl, HS5.out.1⟩
        · have hz0 : ((c.length : Int) == 0) = false := by simpa using h0
          have HN0 := Lib.hid (show 0 < c.length by omega)
          clear h0
          obtain ⟨y, ey⟩ : ∃ y, y = labOk xs.length (lv, lm) := ⟨_, rfl⟩
          have HY := Lib.hid ey
          clear ey
          cases y with
          | false =>
            go_enter Tryd.func6, Tryd.ntmps6
            go_wp2_with (first
              | (go_at_call 15; refine HFEW.out.mono ?_; rintro e w2 ⟨rfl, hb2⟩; rw [← HZ.out]; have HS2 := Lib.hid (HS0.out.on hb2); clear hb2; obtain ⟨hc0, hc1, hc2, hc3, hc4, hc5, hc6⟩ := HS2.out.all)
              | (go_at_call 16; refine (HSV.out HZ.out.symm _ HS2.out.1).mono ?_; intro e w3 hse; obtain ⟨hb3, sol, kk, ma, mc, rfl, hown, hL, hsl, hok, hk1, hk2⟩ := solveE_yes hse HSY.out HRB.out HX.out; have HS3 := Lib.hid (HS2.out.on hb3); have HM := Lib.hid (lab_own (by rw [hsl]; exact hown)); have HLS := Lib.hid hL; have HSL := Lib.hid hsl; have HOK := Lib.hid hok; clear hse hb3 hown hL hsl hok hk1 hk2; clear hc0 hc1 hc2 hc3 hc4 hc5 hc6; obtain ⟨hc0, hc1, hc2, hc3, hc4, hc5, hc6⟩ := HS3.out.all)
              | (go_at_call 26; refine (rgood17_any _ _ _ _ _ _).mono ?_; rintro e w4 ⟨rfl, hb4⟩; rw [← HY.out]; have HS4 := Lib.hid (HS3.out.on hb4); have HM4 := Lib.hid ((HM.out.below hb4).mono hb4.size); clear hb4; clear hc0 hc1 hc2 hc3 hc4 hc5 hc6; obtain ⟨hc0, hc1, hc2, hc3, hc4, hc5, hc6⟩ := HS4.out.all)
              | (go_at_call 21; refine (HAW.out _ HS4.out.1).mono ?_; rintro e w5 ⟨rfl, hb5⟩; have HS5 := Lib.hid (HS4.out.on hb5); clear hb5))
            go_ret
            exact ⟨rfl, HS5.out.1⟩
          | true =>
            have hy := HY.out.symm
            unfold labOk at hy
            simp only [decide_eq_true_eq] at hy
            obtain ⟨al, rfl⟩ := Int.eq_ofNat_of_zero_le hy.1
            have HAL := Lib.hid (show al < xs.length by omega)
            clear hy
            go_enter Tryd.func6, Tryd.ntmps6
            go_upto_region 6 with (first
              | (go_at_call 15; refine HFEW.out.mono ?_; rintro e w2 ⟨rfl, hb2⟩; rw [← HZ.out]; have HS2 := Lib.hid (HS0.out.on hb2); clear hb2; obtain ⟨hc0, hc1, hc2, hc3, hc4, hc5, hc6⟩ := HS2.out.all)
              | (go_at_call 16; refine (HSV.out HZ.out.symm _ HS2.out.1).mono ?_; intro e w3 hse; obtain ⟨hb3, sol, kk, ma, mc, rfl, hown, hL, hsl, hok, hk1, hk2⟩ := solveE_yes hse HSY.out HRB.out HX.out; have HS3 := Lib.hid (HS2.out.on hb3); have HM := Lib.hid (lab_own (by rw [hsl]; exact hown)); have HLS := Lib.hid hL; have HSL := Lib.hid hsl; have HOK := Lib.hid hok; clear hse hb3 hown hL hsl hok hk1 hk2; clear hc0 hc1 hc2 hc3 hc4 hc5 hc6; obtain ⟨hc0, hc1, hc2, hc3, hc4, hc5, hc6⟩ := HS3.out.all)
              | (go_at_call 26; refine (rgood17_any _ _ _ _ _ _).mono ?_; rintro e w4 ⟨rfl, hb4⟩; rw [← HY.out]; have HS4 := Lib.hid (HS3.out.on hb4); have HM4 := Lib.hid ((HM.out.below hb4).mono hb4.size); clear hb4; clear hc0 hc1 hc2 hc3 hc4 hc5 hc6; obtain ⟨hc0, hc1, hc2, hc3, hc4, hc5, hc6⟩ := HS4.out.all))
            obtain ⟨q, q1, hq⟩ := mod_nat aq c.length HN0.out
            obtain ⟨nd, q2, hnd⟩ := mod_nat ne c.length HN0.out
            have HQ := Lib.hid (show q < c.length ∧ nd < c.length from ⟨hq, hnd⟩)
            have u0 := u64_nat c.length (by omega)
            have q5 := i64_nat q (by omega)
            have q6 := i64_nat nd (by omega)
            have q7 : ¬ (c.length : Int) = 0 := by omega
            have q11 : ¬ c = [] := by intro e; have h1 := HN0.out; rw [e] at h1; exact absurd h1 (by decide)
            clear hq hnd
            have HS4d := Lib.hid (show XAt W _ w4.drew from HS4.out.drewN 1)
            have HM4d := Lib.hid (show LabRow w4.drew.heap.size w4.drew _ _ from HM4.out.drewN 1)
            refine wp_region_held_drew (S := (fun V => V.cell? ⟨W.heap.size, 3, none⟩ = some (.int .i64 aq) ∧ V.cell? ⟨W.heap.size, 4, none⟩ = some (.int .i64 ne))) (by kernel_rfl) ?_ (fun hHeld => ?_)
            · exact ⟨hc3, hc4⟩
            clear hc0 hc1 hc2 hc3 hc4 hc5 hc6
            generalize w4.drew = w5 at HS4d HM4d hHeld ⊢
            refine wpAnyH_take (i := 0) (v := .pointer (some ⟨W.heap.size, 3, none⟩)) rfl (by kernel_rfl) (by kernel_rfl) (by kernel_rfl) (fun _ _ _ h => h) (Or.inl ⟨by rfl, fun W hSW => ?_⟩) hHeld ?_
            · ((try dsimp only at hSW); go_split_ands; go_simp <;> with_reducible rfl)
            try simp only [List.getElem_toArray, List.getElem_cons_succ, List.getElem_cons_zero, Act.put, List.setIfInBounds_toArray, List.set_cons_zero, List.set_cons_succ]
            refine wpAnyH_take (i := 1) (v := .int .i64 aq) rfl (by kernel_rfl) (by kernel_rfl) (by kernel_rfl) (fun _ _ _ h => h) (Or.inl ⟨by rfl, fun W hSW => ?_⟩) hHeld ?_
            · ((try dsimp only at hSW); go_split_ands; go_simp <;> with_reducible rfl)
            try simp only [List.getElem_toArray, List.getElem_cons_succ, List.getElem_cons_zero, Act.put, List.setIfInBounds_toArray, List.set_cons_zero, List.set_cons_succ]
            refine wpAnyH_take (i := 2) (v := .int .u64 (IntKind.u64.wrap aq)) rfl (by kernel_rfl) (by kernel_rfl) (by kernel_rfl) (fun _ _ _ h => h) (Or.inl ⟨by rfl, fun W hSW => ?_⟩) hHeld ?_
            · ((try dsimp only at hSW); go_split_ands; go_simp <;> with_reducible rfl)
            try simp only [List.getElem_toArray, List.getElem_cons_succ, List.getElem_cons_zero, Act.put, List.setIfInBounds_toArray, List.set_cons_zero, List.set_cons_succ]
            refine wpAnyH_take (i := 3) (v := .slice ma c.length mc) rfl (by kernel_rfl) (by kernel_rfl) (by kernel_rfl) (fun _ _ _ h => h) (Or.inl ⟨by rfl, fun W hSW => ?_⟩) hHeld ?_
            · ((try dsimp only at hSW); go_split_ands; go_simp <;> with_reducible rfl)
            try simp only [List.getElem_toArray, List.getElem_cons_succ, List.getElem_cons_zero, Act.put, List.setIfInBounds_toArray, List.set_cons_zero, List.set_cons_succ]
            refine wpAnyH_take (i := 4) (v := .int .i64 c.length) rfl (by kernel_rfl) (by kernel_rfl) (by kernel_rfl) (fun _ _ _ h => h) (Or.inl ⟨by rfl, fun W hSW => ?_⟩) hHeld ?_
            · ((try dsimp only at hSW); go_split_ands; go_simp <;> with_reducible rfl)
            try simp only [List.getElem_toArray, List.getElem_cons_succ, List.getElem_cons_zero, Act.put, List.setIfInBounds_toArray, List.set_cons_zero, List.set_cons_succ]
            refine wpAnyH_take (i := 5) (v := .int .u64 c.length) rfl (by kernel_rfl) (by kernel_rfl) (by kernel_rfl) (fun _ _ _ h => h) (Or.inl ⟨by rfl, fun W hSW => ?_⟩) hHeld ?_
            · ((try dsimp only at hSW); go_split_ands; go_simp <;> with_reducible rfl)
            try simp only [List.getElem_toArray, List.getElem_cons_succ, List.getElem_cons_zero, Act.put, List.setIfInBounds_toArray, List.set_cons_zero, List.set_cons_succ]
            refine wpAnyH_take (i := 6) (v := .int .u64 q) rfl (by kernel_rfl) (by kernel_rfl) (by kernel_rfl) (fun _ _ _ h => h) (Or.inl ⟨by rfl, fun W hSW => ?_⟩) hHeld ?_
            · ((try dsimp only at hSW); go_split_ands; go_simp <;> with_reducible rfl)
            try simp only [List.getElem_toArray, List.getElem_cons_succ, List.getElem_cons_zero, Act.put, List.setIfInBounds_toArray, List.set_cons_zero, List.set_cons_succ]
            refine wpAnyH_take (i := 7) (v := .int .i64 q) rfl (by kernel_rfl) (by kernel_rfl) (by kernel_rfl) (fun _ _ _ h => h) (Or.inl ⟨by rfl, fun W hSW => ?_⟩) hHeld ?_
            · ((try dsimp only at hSW); go_split_ands; go_simp <;> with_reducible rfl)
            try simp only [List.getElem_toArray, List.getElem_cons_succ, List.getElem_cons_zero, Act.put, List.setIfInBounds_toArray, List.set_cons_zero, List.set_cons_succ]
            refine wpAnyH_take (i := 8) (v := .pointer (some ⟨W.heap.size, 4, none⟩)) rfl (by kernel_rfl) (by kernel_rfl) (by kernel_rfl) (fun _ _ _ h => h) (Or.inl ⟨by rfl, fun W hSW => ?_⟩) hHeld ?_
            · ((try dsimp only at hSW); go_split_ands; go_simp <;> with_reducible rfl)
            try simp only [List.getElem_toArray, List.getElem_cons_succ, List.getElem_cons_zero, Act.put, List.setIfInBounds_toArray, List.set_cons_zero, List.set_cons_succ]
            refine wpAnyH_take (i := 9) (v := .int .i64 ne) rfl (by kernel_rfl) (by kernel_rfl) (by kernel_rfl) (fun _ _ _ h => h) (Or.inl ⟨by rfl, fun W hSW => ?_⟩) hHeld ?_
            · ((try dsimp only at hSW); go_split_ands; go_simp <;> with_reducible rfl)
            try simp only [List.getElem_toArray, List.getElem_cons_succ, List.getElem_cons_zero, Act.put, List.setIfInBounds_toArray, List.set_cons_zero, List.set_cons_succ]
            refine wpAnyH_take (i := 10) (v := .int .u64 (IntKind.u64.wrap ne)) rfl (by kernel_rfl) (by kernel_rfl) (by kernel_rfl) (fun _ _ _ h => h) (Or.inl ⟨by rfl, fun W hSW => ?_⟩) hHeld ?_
            · ((try dsimp only at hSW); go_split_ands; go_simp <;> with_reducible rfl)
            try simp only [List.getElem_toArray, List.getElem_cons_succ, List.getElem_cons_zero, Act.put, List.setIfInBounds_toArray, List.set_cons_zero, List.set_cons_succ]
            refine wpAnyH_take (i := 11) (v := .slice ma c.length mc) rfl (by kernel_rfl) (by kernel_rfl) (by kernel_rfl) (fun _ _ _ h => h) (Or.inl ⟨by rfl, fun W hSW => ?_⟩) hHeld ?_
            · ((try dsimp only at hSW); go_split_ands; go_simp <;> with_reducible rfl)
            try simp only [List.getElem_toArray, List.getElem_cons_succ, List.getElem_cons_zero, Act.put, List.setIfInBounds_toArray, List.set_cons_zero, List.set_cons_succ]
            refine wpAnyH_take (i := 12) (v := .int .i64 c.length) rfl (by kernel_rfl) (by kernel_rfl) (by kernel_rfl) (fun _ _ _ h => h) (Or.inl ⟨by rfl, fun W hSW => ?_⟩) hHeld ?_
            · ((try dsimp only at hSW); go_split_ands; go_simp <;> with_reducible rfl)
            try simp only [List.getElem_toArray, List.getElem_cons_succ, List.getElem_cons_zero, Act.put, List.setIfInBounds_toArray, List.set_cons_zero, List.set_cons_succ]
            refine wpAnyH_take (i := 13) (v := .int .u64 c.length) rfl (by kernel_rfl) (by kernel_rfl) (by kernel_rfl) (fun _ _ _ h => h) (Or.inl ⟨by rfl, fun W hSW => ?_⟩) hHeld ?_
            · ((try dsimp only at hSW); go_split_ands; go_simp <;> with_reducible rfl)
            try simp only [List.getElem_toArray, List.getElem_cons_succ, List.getElem_cons_zero, Act.put, List.setIfInBounds_toArray, List.set_cons_zero, List.set_cons_succ]
            refine wpAnyH_take (i := 14) (v := .int .u64 nd) rfl (by kernel_rfl) (by kernel_rfl) (by kernel_rfl) (fun _ _ _ h => h) (Or.inl ⟨by rfl, fun W hSW => ?_⟩) hHeld ?_
            · ((try dsimp only at hSW); go_split_ands; go_simp <;> with_reducible rfl)
            try simp only [List.getElem_toArray, List.getElem_cons_succ, List.getElem_cons_zero, Act.put, List.setIfInBounds_toArray, List.set_cons_zero, List.set_cons_succ]
            refine wpAnyH_take (i := 15) (v := .int .i64 nd) rfl (by kernel_rfl) (by kernel_rfl) (by kernel_rfl) (fun _ _ _ h => h) (Or.inl ⟨by rfl, fun W hSW => ?_⟩) hHeld ?_
            · ((try dsimp only at hSW); go_split_ands; go_simp <;> with_reducible rfl)
            try simp only [List.getElem_toArray, List.getElem_cons_succ, List.getElem_cons_zero, Act.put, List.setIfInBounds_toArray, List.set_cons_zero, List.set_cons_succ]
            refine wpAnyH_take (i := 16) (v := .int .i64 q) rfl (by kernel_rfl) (by kernel_rfl) (by kernel_rfl) (fun _ _ _ h => h) (Or.inl ⟨by rfl, fun W hSW => ?_⟩) hHeld ?_
            · ((try dsimp only at hSW); go_split_ands; go_simp <;> with_reducible rfl)
            try simp only [List.getElem_toArray, List.getElem_cons_succ, List.getElem_cons_zero, Act.put, List.setIfInBounds_toArray, List.set_cons_zero, List.set_cons_succ]
            refine wpAnyH_take (i := 17) (v := .int .i64 nd) rfl (by kernel_rfl) (by kernel_rfl) (by kernel_rfl) (fun _ _ _ h => h) (Or.inl ⟨by rfl, fun W hSW => ?_⟩) hHeld ?_
            · ((try dsimp only at hSW); go_split_ands; go_simp <;> with_reducible rfl)
            try simp only [List.getElem_toArray, List.getElem_cons_succ, List.getElem_cons_zero, Act.put, List.setIfInBounds_toArray, List.set_cons_zero, List.set_cons_succ]
            refine wpAnyH_done (by kernel_rfl) ?_ _
            clear hHeld
            obtain ⟨hc0, hc1, hc2, hc3, hc4, hc5, hc6⟩ := HS4d.out.all
            have FW := Lib.hid (few_parts HZ.out.symm)
            go_upto_region 8 with (go_at_call 17; refine (copied_anyA w5 ((HC.out.below HS4d.out.1).mono HS4d.out.1.size) ((HG.out.below HS4d.out.1).mono HS4d.out.1.size) HSM.out (by have := FW.out.1; omega) (by have := FW.out.2.1; omega)).mono ?_; rintro e w6 ⟨sa, cs, ga, gs, vs, rfl, hco, hgo, hgr, hb, hap⟩; have HS6 := Lib.hid (HS4d.out.on hb); have HM6 := Lib.hid ((HM4d.out.below hb).mono hb.size); have HCO := Lib.hid hco; have HGO := Lib.hid hgo; have HGR := Lib.hid hgr; have HAP := Lib.hid hap; have HB6 := Lib.hid hb; clear hco hgo hgr hap hb hc0 hc1 hc2 hc3 hc4 hc5 hc6)
            obtain ⟨cb, cs2, e⟩ := SS.own_some HCO.out HN0.out
            cases e
            obtain ⟨gb, gs2, e⟩ := SS.own_some HGO.out (by have h1 := HN0.out; have h2 := HTN.out; omega)
            cases e
            have HG7 := Lib.hid (show GrowS w5 w6.heap.size cb cs gb gs c.length tq.length (labV c) vs tq (w6.alloc (Obj.cells #[.slice (some ⟨cb, 0, none⟩) c.length cs, .slice (some ⟨gb, 0, none⟩) tq.length gs] 26)) from
              ⟨HB6.out.alloc HB6.out.size _, HCO.out.alloc _, HGO.out.alloc _, HGR.out.alloc _, heap_alloc_new _ _, ⟨HB6.out.size, by simp⟩, ⟨by have h1 := (HCO.out.lt cb rfl).2; omega, by have h1 := (HGO.out.lt gb rfl).2; omega, fun j b r h1 h2 => by have h3 := (rows_lt HGR.out h1 h2).2; omega⟩⟩)
            generalize w6.alloc (Obj.cells #[.slice (some ⟨cb, 0, none⟩) c.length cs, .slice (some ⟨gb, 0, none⟩) tq.length gs] 26) = w7 at HG7 ⊢
            have HTB := Lib.hid (show w5.heap.size ≤ w6.heap.size from HB6.out.size)
            clear HCO HGO HGR HB6 HS6 HM6
            generalize w6.heap.size = T at HG7 HTB ⊢
            have HOQ := Lib.hid (show lok xs (at' (natL c) q) from lok_at HWC.out HALL.out HQ.out.1)
            have HOQL := Lib.hid HOQ.out
            obtain ⟨⟨a0, m0⟩, ep⟩ : ∃ p, p = at' (natL c) q := ⟨_, rfl⟩
            have HNL := Lib.hid (show newL xs c q al lm = (LL.joinN xs a0 al, bits .or .u64 m0 lm) by unfold newL; rw [← ep]; rfl)
            have hlv := labV_at (s := c) HQ.out.1
            have hpa := natL_at HQ.out.1
            have hpb := lab_yes2 HALL.out HQ.out.1
            rw [← ep] at hpa HOQ
            have hpc : (c[q]?.getD s0).1 = (a0 : Int) := by have h1 := congrArg Prod.fst hpa; simp only at h1; omega
            have hpd : (c[q]?.getD s0).2 = m0 := (congrArg Prod.snd hpa).symm
            rw [hpc, hpd] at hlv
            have HJ1 := Lib.hid (show LL.joinI xs a0 al = ((newL xs c q al lm).1 : Int) by rw [HNL.out]; exact (LL.joinN_is HRB.out HOQ.out.1 HAL.out).2)
            have HJ2 := Lib.hid (show bits .or .u64 m0 lm = (newL xs c q al lm).2 by rw [HNL.out])
            obtain ⟨J1, ej1⟩ : ∃ J1 : Int, J1 = ((newL xs c q al lm).1 : Int) := ⟨_, rfl⟩
            obtain ⟨J2, ej2⟩ : ∃ J2 : Int, J2 = (newL xs c q al lm).2 := ⟨_, rfl⟩
            rw [← ej1] at HJ1
            rw [← ej2] at HJ2
            have HCN := Lib.hid (show cN xs c q al lm = c.set q (J1, J2) by unfold cN; rw [← ej1, ← ej2])
            have HLV := Lib.hid hlv
            clear ep hpa hpb hpc hpd ej1 ej2 hlv
            have i1 : (0 : Int) ≤ q ∧ (q : Int) < c.length := by have h1 := HQ.out.1; omega
            have HG7d := Lib.hid (show GrowS w5 T cb cs gb gs c.length tq.length (labV c) vs tq w7.drew from HG7.out.drewN 1)
            refine wp_region_held_drew (S := (fun V => V.cell? ⟨W.heap.size, 0, none⟩ = some (.slice ua xs.length uc) ∧ V.cell? ⟨W.heap.size, 5, none⟩ = some (.int .i64 al) ∧ V.cell? ⟨W.heap.size, 6, none⟩ = some (.int .u64 lm) ∧ V.cell? ⟨T, 0, none⟩ = some (.slice (some ⟨cb, 0, none⟩) c.length cs))) (by kernel_rfl) ?_ (fun hHeld => ?_)
            · have h1 := (HS4d.out.on HG7d.out.b).all
              exact ⟨h1.1, h1.2.2.2.2.2.1, h1.2.2.2.2.2.2, cell_of_row _ _ 0 _ _ _ HG7d.out.t⟩
            clear HG7
            generalize w7.drew = y0 at HG7d hHeld ⊢
            have hl1 : y0.cell? ⟨cb, q * 2, none⟩ = some (.int .i64 a0) := own_cellZ HG7d.out.c HLV.out.1
            have hl2 : y0.cell? ⟨cb, q * 2 + 1, none⟩ = some (.int .u64 m0) := own_cellZ HG7d.out.c HLV.out.2
            refine wpAnyH_take (i := 0) (v := .pointer (some ⟨T, 0, none⟩)) rfl (by kernel_rfl) (by kernel_rfl) (by kernel_rfl) (fun _ _ _ h => h) (Or.inl ⟨by rfl, fun W hSW => ?_⟩) hHeld ?_
            · ((try dsimp only at hSW); go_split_ands; go_simp <;> with_reducible rfl)
            try simp only [List.getElem_toArray, List.getElem_cons_succ, List.getElem_cons_zero, Act.put, List.setIfInBounds_toArray, List.set_cons_zero, List.set_cons_succ]
            refine wpAnyH_take (i := 1) (v := .slice (some ⟨cb, 0, none⟩) c.length cs) rfl (by kernel_rfl) (by kernel_rfl) (by kernel_rfl) (fun _ _ _ h => h) (Or.inl ⟨by rfl, fun W hSW => ?_⟩) hHeld ?_
            · ((try dsimp only at hSW); go_split_ands; go_simp <;> with_reducible rfl)
            try simp only [List.getElem_toArray, List.getElem_cons_succ, List.getElem_cons_zero, Act.put, List.setIfInBounds_toArray, List.set_cons_zero, List.set_cons_succ]
            refine wpAnyH_take (i := 2) (v := .int .i64 q) rfl (by kernel_rfl) (by kernel_rfl) (by kernel_rfl) (fun _ _ _ h => h) (Or.inl ⟨by rfl, fun W hSW => ?_⟩) hHeld ?_
            · ((try dsimp only at hSW); go_split_ands; go_simp <;> with_reducible rfl)
            try simp only [List.getElem_toArray, List.getElem_cons_succ, List.getElem_cons_zero, Act.put, List.setIfInBounds_toArray, List.set_cons_zero, List.set_cons_succ]
            refine wpAnyH_take (i := 3) (v := .pointer (some ⟨W.heap.size, 0, none⟩)) rfl (by kernel_rfl) (by kernel_rfl) (by kernel_rfl) (fun _ _ _ h => h) (Or.inl ⟨by rfl, fun W hSW => ?_⟩) hHeld ?_
            · ((try dsimp only at hSW); go_split_ands; go_simp <;> with_reducible rfl)
            try simp only [List.getElem_toArray, List.getElem_cons_succ, List.getElem_cons_zero, Act.put, List.setIfInBounds_toArray, List.set_cons_zero, List.set_cons_succ]
            refine wpAnyH_take (i := 4) (v := .slice ua xs.length uc) rfl (by kernel_rfl) (by kernel_rfl) (by kernel_rfl) (fun _ _ _ h => h) (Or.inl ⟨by rfl, fun W hSW => ?_⟩) hHeld ?_
            · ((try dsimp only at hSW); go_split_ands; go_simp <;> with_reducible rfl)
            try simp only [List.getElem_toArray, List.getElem_cons_succ, List.getElem_cons_zero, Act.put, List.setIfInBounds_toArray, List.set_cons_zero, List.set_cons_succ]
            refine wpAnyH_take (i := 5) (v := .pointer (some ⟨T, 0, none⟩)) rfl (by kernel_rfl) (by kernel_rfl) (by kernel_rfl) (fun _ _ _ h => h) (Or.inl ⟨by rfl, fun W hSW => ?_⟩) hHeld ?_
            · ((try dsimp only at hSW); go_split_ands; go_simp <;> with_reducible rfl)
            try simp only [List.getElem_toArray, List.getElem_cons_succ, List.getElem_cons_zero, Act.put, List.setIfInBounds_toArray, List.set_cons_zero, List.set_cons_succ]
            refine wpAnyH_take (i := 6) (v := .slice (some ⟨cb, 0, none⟩) c.length cs) rfl (by kernel_rfl) (by kernel_rfl) (by kernel_rfl) (fun _ _ _ h => h) (Or.inl ⟨by rfl, fun W hSW => ?_⟩) hHeld ?_
            · ((try dsimp only at hSW); go_split_ands; go_simp <;> with_reducible rfl)
            try simp only [List.getElem_toArray, List.getElem_cons_succ, List.getElem_cons_zero, Act.put, List.setIfInBounds_toArray, List.set_cons_zero, List.set_cons_succ]
            refine wpAnyH_take (i := 7) (v := .int .i64 q) rfl (by kernel_rfl) (by kernel_rfl) (by kernel_rfl) (fun _ _ _ h => h) (Or.inl ⟨by rfl, fun W hSW => ?_⟩) hHeld ?_
            · ((try dsimp only at hSW); go_split_ands; go_simp <;> with_reducible rfl)
            try simp only [List.getElem_toArray, List.getElem_cons_succ, List.getElem_cons_zero, Act.put, List.setIfInBounds_toArray, List.set_cons_zero, List.set_cons_succ]
            refine wpAnyH_take (i := 8) (v := .pointer (some ⟨cb, q * 2, none⟩)) rfl (by kernel_rfl) (by kernel_rfl) (by kernel_rfl) (fun _ _ _ h => h) (Or.inl ⟨by rfl, fun W hSW => ?_⟩) hHeld ?_
            · ((try dsimp only at hSW); go_split_ands; go_simp <;> with_reducible rfl)
            try simp only [List.getElem_toArray, List.getElem_cons_succ, List.getElem_cons_zero, Act.put, List.setIfInBounds_toArray, List.set_cons_zero, List.set_cons_succ]
            refine wpAnyH_take (i := 10) (v := .pointer (some ⟨W.heap.size, 5, none⟩)) rfl (by kernel_rfl) (by kernel_rfl) (by kernel_rfl) (fun _ _ _ h => h) (Or.inl ⟨by rfl, fun W hSW => ?_⟩) hHeld ?_
            · ((try dsimp only at hSW); go_split_ands; go_simp <;> with_reducible rfl)
            try simp only [List.getElem_toArray, List.getElem_cons_succ, List.getElem_cons_zero, Act.put, List.setIfInBounds_toArray, List.set_cons_zero, List.set_cons_succ]
            refine wpAnyH_take (i := 11) (v := .agg #[.int .i64 al, .int .u64 lm]) rfl (by kernel_rfl) (by kernel_rfl) (by kernel_rfl) (fun _ _ _ h => h) (Or.inl ⟨by rfl, fun W hSW => ?_⟩) hHeld ?_
            · ((try dsimp only at hSW); go_split_ands; go_simp <;> with_reducible rfl)
            try simp only [List.getElem_toArray, List.getElem_cons_succ, List.getElem_cons_zero, Act.put, List.setIfInBounds_toArray, List.set_cons_zero, List.set_cons_succ]
            refine wpAnyH_ready (rs := [9]) (by kernel_rfl) (by simp) ?_
            refine AllReadyH.cons rfl (fun K hK => ?_) AllReadyH.nil
            try simp only [List.getElem_toArray, List.getElem_cons_succ, List.getElem_cons_zero]
            go_simp
            try go_wp2_with fail
            refine hK.out _ _ ?_ (fun hHeld => ?_)
            · exact hHeld
            clear hK K
            try simp only [List.getElem_toArray, List.getElem_cons_succ, List.getElem_cons_zero, Act.put, List.setIfInBounds_toArray, List.set_cons_zero, List.set_cons_succ]
            clear hl1 hl2
            refine wpAnyH_ready (rs := [12]) (by kernel_rfl) (by simp) ?_
            refine AllReadyH.cons rfl (fun K hK => ?_) AllReadyH.nil
            try simp only [List.getElem_toArray, List.getElem_cons_succ, List.getElem_cons_zero]
            go_simp
            (go_at_call 30; refine (rjoin17_any _ xs y0.heap.size a0 al m0 lm y0 ((HU.out.below (HS4d.out.on HG7d.out.b).1).mono (HS4d.out.on HG7d.out.b).1.size) (Nat.le_refl _) HX.out (by omega) HOQ.out.1 HAL.out).mono ?_; rintro e y1 ⟨rfl, hb⟩; rw [HJ1.out, HJ2.out]; have HG8 := Lib.hid (HG7d.out.on hb); clear hb)
            try go_wp2_with fail
            refine hK.out _ _ ?_ (fun hHeld => ?_)
            · (have h1 := (HS4d.out.on HG8.out.b).all; exact ⟨h1.1, h1.2.2.2.2.2.1, h1.2.2.2.2.2.2, cell_of_row _ _ 0 _ _ _ HG8.out.t⟩)
            clear hK K
            try simp only [List.getElem_toArray, List.getElem_cons_succ, List.getElem_cons_zero, Act.put, List.setIfInBounds_toArray, List.set_cons_zero, List.set_cons_succ]
            have hl1 : y1.cell? ⟨cb, q * 2, none⟩ = some (.int .i64 a0) := own_cellZ HG8.out.c HLV.out.1
            have hl2 : y1.cell? ⟨cb, q * 2 + 1, none⟩ = some (.int .u64 m0) := own_cellZ HG8.out.c HLV.out.2
            have hf1 : y1.frozen? ⟨cb, q * 2, none⟩ = false := own_freeZ HG8.out.c _
            have hf2 : y1.frozen? ⟨cb, q * 2 + 1, none⟩ = false := own_freeZ HG8.out.c _
            have HG9 := Lib.hid (HG8.out.put HQ.out.1 J1 J2)
            refine wpAnyH_take (i := 13) (v := .pointer (some ⟨cb, q * 2, none⟩)) rfl (by kernel_rfl) (by kernel_rfl) (by kernel_rfl) (fun _ _ _ h => h) (Or.inl ⟨by rfl, fun W hSW => ?_⟩) hHeld ?_
            · ((try dsimp only at hSW); go_split_ands; go_simp <;> with_reducible rfl)
            try simp only [List.getElem_toArray, List.getElem_cons_succ, List.getElem_cons_zero, Act.put, List.setIfInBounds_toArray, List.set_cons_zero, List.set_cons_succ]
            refine wpAnyH_ready (rs := [14]) (by kernel_rfl) (by simp) ?_
            refine AllReadyH.cons rfl (fun K hK => ?_) AllReadyH.nil
            try simp only [List.getElem_toArray, List.getElem_cons_succ, List.getElem_cons_zero]
            go_simp
            try go_wp2_with fail
            refine hK.out _ _ ?_ (fun hHeld => ?_)
            · (have h1 := (HS4d.out.on HG9.out.b).all; exact ⟨h1.1, h1.2.2.2.2.2.1, h1.2.2.2.2.2.2, cell_of_row _ _ 0 _ _ _ HG9.out.t⟩)
            clear hK K
            try simp only [List.getElem_toArray, List.getElem_cons_succ, List.getElem_cons_zero, Act.put, List.setIfInBounds_toArray, List.set_cons_zero, List.set_cons_succ]
            refine wpAnyH_done (by kernel_rfl) ?_ _
            clear hHeld hl1 hl2 hf1 hf2
            generalize (y1.setCell ⟨cb, q * 2, none⟩ (.int .i64 J1)).setCell ⟨cb, q * 2 + 1, none⟩ (.int .u64 J2) = y2 at HG9 ⊢
            clear HG8 HG7d
            go_upto_region 9 with fail
            have HTQ := Lib.hid (show q < tq.length by have h1 := HQ.out.1; have h2 := HTN.out; omega)
            have FWR := Lib.hid (FW.out.2.2 q)
            go_cut [8] from 81 (fun s8 w9 => s8 = .pointer (some ⟨T, 0, none⟩) ∧ ∃ vs2, Below w5.heap.size w5 w9 ∧ w9.ownsRow w5.heap.size 43 2 (.slice (some ⟨cb, 0, none⟩) c.length cs) c.length (labV (c.set q (J1, J2))) ∧ w9.ownsRow w5.heap.size 50 1 (.slice (some ⟨gb, 0, none⟩) tq.length gs) tq.length vs2 ∧
                GG.Rows w5.heap.size w9 vs2 (tN tq q nd) ∧ w9.heap[T]? = some (.cells #[.slice (some ⟨cb, 0, none⟩) c.length cs, .slice (some ⟨gb, 0, none⟩) tq.length gs] 26))
            case first =>
              obtain ⟨u, hu, hou⟩ := HG9.out.r.2 q HTQ.out
              obtain ⟨r, er⟩ : ∃ r, r = tq[q]?.getD [] := ⟨_, rfl⟩
              have HR0 := Lib.hid er
              rw [← er] at hou
              obtain ⟨ra, rc, rfl⟩ := GG.own_slice hou
              have HUQ := Lib.hid hu
              have HRL := Lib.hid (show r.length ≤ 60 by rw [er]; exact FWR.out)
              have HOU9 := Lib.hid (show y2.drew.ownsRow w5.heap.size 3 1 (.slice ra r.length rc) r.length (intsV r) from hou)
              clear er hu hou
              have i2 : (0 : Int) ≤ q ∧ (q : Int) < tq.length := by have h1 := HTQ.out; omega
              have HG9d := Lib.hid (show GrowS w5 T cb cs gb gs c.length tq.length (labV (c.set q (J1, J2))) vs tq y2.drew from HG9.out.drewN 1)
              refine wp_region_held_drew (S := (fun V => V.cell? ⟨T, 1, none⟩ = some (.slice (some ⟨gb, 0, none⟩) tq.length gs))) (by kernel_rfl) ?_ (fun hHeld => ?_)
              · exact cell_of_row _ _ 1 _ _ _ HG9d.out.t
              clear HG9
              generalize y2.drew = z0 at HG9d HOU9 hHeld ⊢
              refine wpAnyH_take (i := 0) (v := .pointer (some ⟨T, 1, none⟩)) rfl (by kernel_rfl) (by kernel_rfl) (by kernel_rfl) (fun _ _ _ h => h) (Or.inl ⟨by rfl, fun W hSW => ?_⟩) hHeld ?_
              · ((try dsimp only at hSW); go_split_ands; go_simp <;> with_reducible rfl)
              try simp only [List.getElem_toArray, List.getElem_cons_succ, List.getElem_cons_zero, Act.put, List.setIfInBounds_toArray, List.set_cons_zero, List.set_cons_succ]
              refine wpAnyH_take (i := 1) (v := .slice (some ⟨gb, 0, none⟩) tq.length gs) rfl (by kernel_rfl) (by kernel_rfl) (by kernel_rfl) (fun _ _ _ h => h) (Or.inl ⟨by rfl, fun W hSW => ?_⟩) hHeld ?_
              · ((try dsimp only at hSW); go_split_ands; go_simp <;> with_reducible rfl)
              try simp only [List.getElem_toArray, List.getElem_cons_succ, List.getElem_cons_zero, Act.put, List.setIfInBounds_toArray, List.set_cons_zero, List.set_cons_succ]
              refine wpAnyH_take (i := 2) (v := .int .i64 q) rfl (by kernel_rfl) (by kernel_rfl) (by kernel_rfl) (fun _ _ _ h => h) (Or.inl ⟨by rfl, fun W hSW => ?_⟩) hHeld ?_
              · ((try dsimp only at hSW); go_split_ands; go_simp <;> with_reducible rfl)
              try simp only [List.getElem_toArray, List.getElem_cons_succ, List.getElem_cons_zero, Act.put, List.setIfInBounds_toArray, List.set_cons_zero, List.set_cons_succ]
              refine wpAnyH_take (i := 3) (v := .pointer (some ⟨T, 1, none⟩)) rfl (by kernel_rfl) (by kernel_rfl) (by kernel_rfl) (fun _ _ _ h => h) (Or.inl ⟨by rfl, fun W hSW => ?_⟩) hHeld ?_
              · ((try dsimp only at hSW); go_split_ands; go_simp <;> with_reducible rfl)
              try simp only [List.getElem_toArray, List.getElem_cons_succ, List.getElem_cons_zero, Act.put, List.setIfInBounds_toArray, List.set_cons_zero, List.set_cons_succ]
              refine wpAnyH_take (i := 4) (v := .slice (some ⟨gb, 0, none⟩) tq.length gs) rfl (by kernel_rfl) (by kernel_rfl) (by kernel_rfl) (fun _ _ _ h => h) (Or.inl ⟨by rfl, fun W hSW => ?_⟩) hHeld ?_
              · ((try dsimp only at hSW); go_split_ands; go_simp <;> with_reducible rfl)
              try simp only [List.getElem_toArray, List.getElem_cons_succ, List.getElem_cons_zero, Act.put, List.setIfInBounds_toArray, List.set_cons_zero, List.set_cons_succ]
              refine wpAnyH_take (i := 5) (v := .int .i64 q) rfl (by kernel_rfl) (by kernel_rfl) (by kernel_rfl) (fun _ _ _ h => h) (Or.inl ⟨by rfl, fun W hSW => ?_⟩) hHeld ?_
              · ((try dsimp only at hSW); go_split_ands; go_simp <;> with_reducible rfl)
              try simp only [List.getElem_toArray, List.getElem_cons_succ, List.getElem_cons_zero, Act.put, List.setIfInBounds_toArray, List.set_cons_zero, List.set_cons_succ]
              refine wpAnyH_take (i := 6) (v := .pointer (some ⟨gb, q, none⟩)) rfl (by kernel_rfl) (by kernel_rfl) (by kernel_rfl) (fun _ _ _ h => h) (Or.inl ⟨by rfl, fun W hSW => ?_⟩) hHeld ?_
              · ((try dsimp only at hSW); go_split_ands; go_simp <;> with_reducible rfl)
              try simp only [List.getElem_toArray, List.getElem_cons_succ, List.getElem_cons_zero, Act.put, List.setIfInBounds_toArray, List.set_cons_zero, List.set_cons_succ]
              refine wpAnyH_take (i := 8) (v := .int .i64 nd) rfl (by kernel_rfl) (by kernel_rfl) (by kernel_rfl) (fun _ _ _ h => h) (Or.inl ⟨by rfl, fun W hSW => ?_⟩) hHeld ?_
              · ((try dsimp only at hSW); go_split_ands; go_simp <;> with_reducible rfl)
              try simp only [List.getElem_toArray, List.getElem_cons_succ, List.getElem_cons_zero, Act.put, List.setIfInBounds_toArray, List.set_cons_zero, List.set_cons_succ]
              have hb := (Below.refl z0.heap.size z0).alloc (Nat.le_refl _) (.cells #[.int .i64 (nd : Int)] 3)
              have HG10 := Lib.hid (HG9d.out.on hb)
              have HOU10 := Lib.hid (SS.own_of_block HOU9.out (fun k e => hb.block k (HOU9.out.lt k e).2))
              have HSRC := Lib.hid (GG.cell_one z0 (.int .i64 (nd : Int)) 3)
              have hr1 : z0.cell? ⟨gb, q, none⟩ = some (.slice ra r.length rc) := own_cellZ HG9d.out.g HUQ.out
              have HR2 := Lib.hid (show (z0.alloc (.cells #[.int .i64 (nd : Int)] 3)).cell? ⟨gb, q, none⟩ = some (.slice ra r.length rc) from own_cellZ HG10.out.g HUQ.out)
              have HT10 := Lib.hid (show (z0.alloc (.cells #[.int .i64 (nd : Int)] 3)).cell? ⟨T, 1, none⟩ = some (.slice (some ⟨gb, 0, none⟩) tq.length gs) from cell_of_row _ _ 1 _ _ _ HG10.out.t)
              clear hb
              refine wpAnyH_ready (rs := [7, 9]) (by kernel_rfl) (by simp) ?_
              refine AllReadyH.cons rfl (fun K hK => ?_) (AllReadyH.cons rfl (fun K hK => ?_) AllReadyH.nil)
              · try simp only [List.getElem_toArray, List.getElem_cons_succ, List.getElem_cons_zero]
                go_simp
                refine hK.out _ _ ?_ (fun hHeld => ?_)
                · exact hHeld
                clear hK K hr1
                try simp only [List.getElem_toArray, List.getElem_cons_succ, List.getElem_cons_zero, Act.put, List.setIfInBounds_toArray, List.set_cons_zero, List.set_cons_succ]
                refine wpAnyH_ready (rs := [9]) (by kernel_rfl) (by simp) ?_
                refine AllReadyH.cons rfl (fun K hK => ?_) AllReadyH.nil
                try simp only [List.getElem_toArray, List.getElem_cons_succ, List.getElem_cons_zero]
                go_simp
                try go_wp2_with fail
                refine hK.out _ _ ?_ (fun hHeld => ?_)
                · exact HT10.out
                clear hK K
                try simp only [List.getElem_toArray, List.getElem_cons_succ, List.getElem_cons_zero, Act.put, List.setIfInBounds_toArray, List.set_cons_zero, List.set_cons_succ]
                generalize z0.alloc (.cells #[.int .i64 (nd : Int)] 3) = z1 at HG10 HOU10 HSRC HR2 HT10 hHeld ⊢
                have h10 : z1.cell? ⟨T, 1, none⟩ = some (.slice (some ⟨gb, 0, none⟩) tq.length gs) := cell_of_row _ _ 1 _ _ _ HG10.out.t
                refine wpAnyH_ready (rs := [10]) (by kernel_rfl) (by simp) ?_
                refine AllReadyH.cons rfl (fun K hK => ?_) AllReadyH.nil
                refine step_append_anyS rfl (.tmp 88) (.tmp 90) 50 rfl w5.heap.size 3 i9 (.int .i64 0) 1 8 Tryd.underlying50 hi9 hi90 hi91 hi92 rfl (by decide) (.slice ra r.length rc) r.length (intsV r) (by rfl) HOU10.out (.slice (some ⟨z0.heap.size, 0, none⟩) 1 1) 1 [.int .i64 (nd : Int)] (by rfl) rfl (.inr ⟨_, _, rfl, HSRC.out⟩) (by intro u hu; rw [List.mem_singleton.1 hu]; rfl) (by have := HRL.out; unfold maxLen; omega) (by have := HRL.out; omega) HG10.out.b.size ?_
                intro v2 z2 ho hg
                obtain ⟨va, vc, rfl⟩ := GG.own_slice ho
                have HA := Lib.hid (HG10.out.app HAP.out HTQ.out HUQ.out (by rw [← HR0.out]; exact ho) hg)
                have g1 := HG10.out.g.kept hg (GG.own_types HG10.out.g HOU10.out (by decide))
                have hT2 : z2.cell? ⟨T, 1, none⟩ = some (.slice (some ⟨gb, 0, none⟩) tq.length gs) := cell_of_row _ _ 1 _ _ _ ((hg.block T HG10.out.l.2 (fun e => HG10.out.d.2.2 q T _ HUQ.out e.symm rfl)).trans HG10.out.t)
                have hl1 : z2.cell? ⟨gb, q, none⟩ = some (.slice ra r.length rc) := own_cellZ g1 HUQ.out
                have hf1 : z2.frozen? ⟨gb, q, none⟩ = false := own_freeZ g1 _
                clear g1 ho hg
                refine hK.out _ _ ?_ (fun hHeld => ?_)
                · exact hT2
                clear hK K
                try simp only [List.getElem_toArray, List.getElem_cons_succ, List.getElem_cons_zero, Act.put, List.setIfInBounds_toArray, List.set_cons_zero, List.set_cons_succ]
                refine wpAnyH_take (i := 11) (v := .pointer (some ⟨gb, q, none⟩)) rfl (by kernel_rfl) (by kernel_rfl) (by kernel_rfl) (fun _ _ _ h => h) (Or.inl ⟨by rfl, fun W hSW => ?_⟩) hHeld ?_
                · ((try dsimp only at hSW); go_split_ands; go_simp <;> with_reducible rfl)
                try simp only [List.getElem_toArray, List.getElem_cons_succ, List.getElem_cons_zero, Act.put, List.setIfInBounds_toArray, List.set_cons_zero, List.set_cons_succ]
                refine wpAnyH_ready (rs := [12]) (by kernel_rfl) (by simp) ?_
                refine AllReadyH.cons rfl (fun K hK => ?_) AllReadyH.nil
                try simp only [List.getElem_toArray, List.getElem_cons_succ, List.getElem_cons_zero]
                go_simp
                try go_wp2_with fail
                refine hK.out _ _ ?_ (fun hHeld => ?_)
                · exact cell_of_row _ _ 1 _ _ _ HA.out.2.2.2.2
                clear hK K
                try simp only [List.getElem_toArray, List.getElem_cons_succ, List.getElem_cons_zero, Act.put, List.setIfInBounds_toArray, List.set_cons_zero, List.set_cons_succ]
                refine wpAnyH_done (by kernel_rfl) ?_ _
                clear hHeld
                go_wp2_with fail
                go_meet
                case rel => exact ⟨rfl, _, HA.out⟩
              · try simp only [List.getElem_toArray, List.getElem_cons_succ, List.getElem_cons_zero]
                go_simp
                refine hK.out _ _ ?_ (fun hHeld => ?_)
                · exact HT10.out
                clear hK K hr1
                try simp only [List.getElem_toArray, List.getElem_cons_succ, List.getElem_cons_zero, Act.put, List.setIfInBounds_toArray, List.set_cons_zero, List.set_cons_succ]
                generalize z0.alloc (.cells #[.int .i64 (nd : Int)] 3) = z1 at HG10 HOU10 HSRC HR2 HT10 hHeld ⊢
                have hr1 := HR2.out
                refine wpAnyH_ready (rs := [7]) (by kernel_rfl) (by simp) ?_
                refine AllReadyH.cons rfl (fun K hK => ?_) AllReadyH.nil
                try simp only [List.getElem_toArray, List.getElem_cons_succ, List.getElem_cons_zero]
                go_simp
                try go_wp2_with fail
                refine hK.out _ _ ?_ (fun hHeld => ?_)
                · exact HT10.out
                clear hK K
                try simp only [List.getElem_toArray, List.getElem_cons_succ, List.getElem_cons_zero, Act.put, List.setIfInBounds_toArray, List.set_cons_zero, List.set_cons_succ]
                clear hr1
                have h10 : z1.cell? ⟨T, 1, none⟩ = some (.slice (some ⟨gb, 0, none⟩) tq.length gs) := cell_of_row _ _ 1 _ _ _ HG10.out.t
                refine wpAnyH_ready (rs := [10]) (by kernel_rfl) (by simp) ?_
                refine AllReadyH.cons rfl (fun K hK => ?_) AllReadyH.nil
                refine step_append_anyS rfl (.tmp 88) (.tmp 90) 50 rfl w5.heap.size 3 i9 (.int .i64 0) 1 8 Tryd.underlying50 hi9 hi90 hi91 hi92 rfl (by decide) (.slice ra r.length rc) r.length (intsV r) (by rfl) HOU10.out (.slice (some ⟨z0.heap.size, 0, none⟩) 1 1) 1 [.int .i64 (nd : Int)] (by rfl) rfl (.inr ⟨_, _, rfl, HSRC.out⟩) (by intro u hu; rw [List.mem_singleton.1 hu]; rfl) (by have := HRL.out; unfold maxLen; omega) (by have := HRL.out; omega) HG10.out.b.size ?_
                intro v2 z2 ho hg
                obtain ⟨va, vc, rfl⟩ := GG.own_slice ho
                have HA := Lib.hid (HG10.out.app HAP.out HTQ.out HUQ.out (by rw [← HR0.out]; exact ho) hg)
                have g1 := HG10.out.g.kept hg (GG.own_types HG10.out.g HOU10.out (by decide))
                have hT2 : z2.cell? ⟨T, 1, none⟩ = some (.slice (some ⟨gb, 0, none⟩) tq.length gs) := cell_of_row _ _ 1 _ _ _ ((hg.block T HG10.out.l.2 (fun e => HG10.out.d.2.2 q T _ HUQ.out e.symm rfl)).trans HG10.out.t)
                have hl1 : z2.cell? ⟨gb, q, none⟩ = some (.slice ra r.length rc) := own_cellZ g1 HUQ.out
                have hf1 : z2.frozen? ⟨gb, q, none⟩ = false := own_freeZ g1 _
                clear g1 ho hg
                refine hK.out _ _ ?_ (fun hHeld => ?_)
                · exact hT2
                clear hK K
                try simp only [List.getElem_toArray, List.getElem_cons_succ, List.getElem_cons_zero, Act.put, List.setIfInBounds_toArray, List.set_cons_zero, List.set_cons_succ]
                refine wpAnyH_take (i := 11) (v := .pointer (some ⟨gb, q, none⟩)) rfl (by kernel_rfl) (by kernel_rfl) (by kernel_rfl) (fun _ _ _ h => h) (Or.inl ⟨by rfl, fun W hSW => ?_⟩) hHeld ?_
                · ((try dsimp only at hSW); go_split_ands; go_simp <;> with_reducible rfl)
                try simp only [List.getElem_toArray, List.getElem_cons_succ, List.getElem_cons_zero, Act.put, List.setIfInBounds_toArray, List.set_cons_zero, List.set_cons_succ]
                refine wpAnyH_ready (rs := [12]) (by kernel_rfl) (by simp) ?_
                refine AllReadyH.cons rfl (fun K hK => ?_) AllReadyH.nil
                try simp only [List.getElem_toArray, List.getElem_cons_succ, List.getElem_cons_zero]
                go_simp
                try go_wp2_with fail
                refine hK.out _ _ ?_ (fun hHeld => ?_)
                · exact cell_of_row _ _ 1 _ _ _ HA.out.2.2.2.2
                clear hK K
                try simp only [List.getElem_toArray, List.getElem_cons_succ, List.getElem_cons_zero, Act.put, List.setIfInBounds_toArray, List.set_cons_zero, List.set_cons_succ]
                refine wpAnyH_done (by kernel_rfl) ?_ _
                clear hHeld
                go_wp2_with fail
                go_meet
                case rel => exact ⟨rfl, _, HA.out⟩
            case rest =>
              obtain ⟨rfl, vs2, b1, b2, b3, b4, b5⟩ := hcut
              obtain ⟨w8, ew8⟩ : ∃ w8 : World, w8 = wc := ⟨_, rfl⟩
              rw [← ew8]
              rw [← ew8] at b1 b2 b3 b4 b5
              clear ew8 HG9
              have HB8 := Lib.hid b1
              have HLR := Lib.hid (lab_ownV (s := cN xs c q al lm) (by rw [HCN.out, List.length_set]; exact b2))
              have HGR2 := Lib.hid (b4.graph (by rw [tN_len]; exact b3))
              have ht0 : w8.cell? ⟨T, 0, none⟩ = some (.slice (some ⟨cb, 0, none⟩) c.length cs) := cell_of_row _ _ 0 _ _ _ b5
              have ht1 : w8.cell? ⟨T, 1, none⟩ = some (.slice (some ⟨gb, 0, none⟩) tq.length gs) := cell_of_row _ _ 1 _ _ _ b5
              have HS8 := Lib.hid (HS4d.out.on b1)
              have HTW := Lib.hid (HT.out.on HS8.out.1)
              clear b1 b2 b3 b4 b5
              obtain ⟨hc0, hc1, hc2, hc3, hc4, hc5, hc6⟩ := HS8.out.all
              have HSG := Lib.hid (sys_grown (q := q) (nd := nd) (a := al) (m := lm) HSY.out HX.out HOQL.out HQ.out.2 HAL.out HLM.out)
              have hq2 : ((c.length : Int) != (c.length : Int)) = false := bne_self_eq_false _
              go_wp2_with (go_at_call 16; refine (solve_any w8 ((HU.out.below HS8.out.1).mono HS8.out.1.size) HX.out HXL.out HTW.out HLR.out (wide_cN HRB.out HX.out HWC.out HOQL.out HAL.out HLM.out) HGR2.out (by rw [cN_len]; omega) (by rw [tN_len]; have := FW.out.2.1; omega) (tN_few FW.out.2.2)).mono ?_; intro e w10 hse; obtain ⟨hb, sol2, kk2, ma2, mc2, he, hown, hL, hsl, hok, _, _⟩ := solveE_yes hse HSG.out HRB.out HX.out; rw [cN_len] at he hown hsl hok; subst he; have HB10 := Lib.hid (HB8.out.trans (hb.mono HB8.out.size)); have HM10 := Lib.hid (lab_own (by rw [hsl]; exact hown)); have HSL2 := Lib.hid hsl; have HOK2 := Lib.hid hok; have HL2 := Lib.hid hL; clear hse hb hown hL hsl hok hc0 hc1 hc2 hc3 hc4 hc5 hc6 ht0 ht1)
              have HLE := Lib.hid (fun i (hi : i < c.length) => (le_iff HRB.out HX.out (HOK.out i hi) (HOK2.out i hi)).1 (grown_le HRB.out HX.out (sys_okS HRB.out HX.out HWC.out HSY.out) (sys_okS HRB.out HX.out (wide_cN HRB.out HX.out HWC.out HOQL.out HAL.out HLM.out) HSG.out) HQ.out.1 HAL.out HLM.out HLS.out HL2.out i hi))
              have HS10 := Lib.hid (HS4d.out.on HB10.out)
              go_loopw [12] (fun k wr => ∃ j : Nat, j ≤ c.length ∧ k = .int .i64 (j : Int) ∧ Below w10.heap.size w10 wr) (fun k _ => c.length - (intOf k).toNat)
              case atStart => exact ⟨0, Nat.zero_le _, rfl, Below.refl _ _⟩
              case round =>
                obtain ⟨j, hj, rfl, hb⟩ := hrel
                have HB := Lib.hid hb
                have HBR := Lib.hid (HB10.out.trans (hb.mono HB10.out.size))
                have HS11 := Lib.hid (HS10.out.on hb)
                clear hb
                by_cases hjt : j < c.length
                · obtain ⟨mb, mo, rfl, _, hm1, hm2⟩ := ((HM4d.out.below HBR.out).mono HBR.out.size).at (show j < (labI sol).length by rw [labI_len, HSL.out]; exact hjt)
                  obtain ⟨lb, lo, rfl, _, hl1, hl2⟩ := ((HM10.out.below HB.out).mono HB.out.size).at (show j < (labI sol2).length by rw [labI_len, HSL2.out]; exact hjt)
                  have i2 : (0 : Int) ≤ j ∧ (j : Int) < c.length := by omega
                  have HAX := Lib.hid (HOK.out j hjt).1
                  have HLJ := Lib.hid (HLE.out j hjt)
                  have e1 := labI_at (s := sol) (i := j) (by rw [HSL.out]; exact hjt)
                  have e2 := labI_at (s := sol2) (i := j) (by rw [HSL2.out]; exact hjt)
                  rw [e1] at hm1 hm2
                  rw [e2] at hl1 hl2
                  simp only at hm1 hm2 hl1 hl2
                  clear e1 e2
                  obtain ⟨⟨p1, p2⟩, ep⟩ : ∃ p, p = at' sol j := ⟨_, rfl⟩
                  obtain ⟨⟨r1, r2⟩, er⟩ : ∃ r, r = at' sol2 j := ⟨_, rfl⟩
                  rw [← ep] at hm1 hm2 HAX HLJ
                  rw [← er] at hl1 hl2 HLJ
                  clear ep er
                  simp only at hm1 hm2 hl1 hl2
                  go_upto_region 16 with fail
                  have HB12 := Lib.hid (show Below w10.heap.size w10 wr.drew from HB.out.drew)
                  have HS12 := Lib.hid (show XAt W _ wr.drew from HS11.out.drewN 1)
                  have hh : wr.drew.cell? ⟨W.heap.size, 0, none⟩ = some (.slice ua xs.length uc) ∧ wr.drew.cell? ⟨mb, mo + j * 2, none⟩ = some (.int .i64 p1) ∧ wr.drew.cell? ⟨mb, mo + j * 2 + 1, none⟩ = some (.int .u64 p2) ∧ wr.drew.cell? ⟨lb, lo + j * 2, none⟩ = some (.int .i64 r1) ∧ wr.drew.cell? ⟨lb, lo + j * 2 + 1, none⟩ = some (.int .u64 r2) := ⟨HS12.out.all.1, hm1, hm2, hl1, hl2⟩
                  have HMB := Lib.hid (show mb < wr.drew.heap.size from by assumption)
                  have HLB := Lib.hid (show lb < wr.drew.heap.size from by assumption)
                  refine wp_region_held_drew (S := (fun V => V.cell? ⟨W.heap.size, 0, none⟩ = some (.slice ua xs.length uc) ∧ V.cell? ⟨mb, mo + j * 2, none⟩ = some (.int .i64 p1) ∧ V.cell? ⟨mb, mo + j * 2 + 1, none⟩ = some (.int .u64 p2) ∧ V.cell? ⟨lb, lo + j * 2, none⟩ = some (.int .i64 r1) ∧ V.cell? ⟨lb, lo + j * 2 + 1, none⟩ = some (.int .u64 r2))) (by kernel_rfl) ?_ (fun hHeld => ?_)
                  · exact hh
                  clear hm1 hm2 hl1 hl2 hh
                  generalize wr.drew = w12 at HB12 HMB HLB HS12 hHeld ⊢
                  refine wpAnyH_take (i := 0) (v := .pointer (some ⟨W.heap.size, 0, none⟩)) rfl (by kernel_rfl) (by kernel_rfl) (by kernel_rfl) (fun _ _ _ h => h) (Or.inl ⟨by rfl, fun W hSW => ?_⟩) hHeld ?_
                  · ((try dsimp only at hSW); go_split_ands; go_simp <;> with_reducible rfl)
                  try simp only [List.getElem_toArray, List.getElem_cons_succ, List.getElem_cons_zero, Act.put, List.setIfInBounds_toArray, List.set_cons_zero, List.set_cons_succ]
                  refine wpAnyH_take (i := 1) (v := .slice ua xs.length uc) rfl (by kernel_rfl) (by kernel_rfl) (by kernel_rfl) (fun _ _ _ h => h) (Or.inl ⟨by rfl, fun W hSW => ?_⟩) hHeld ?_
                  · ((try dsimp only at hSW); go_split_ands; go_simp <;> with_reducible rfl)
                  try simp only [List.getElem_toArray, List.getElem_cons_succ, List.getElem_cons_zero, Act.put, List.setIfInBounds_toArray, List.set_cons_zero, List.set_cons_succ]
                  refine wpAnyH_take (i := 2) (v := .slice (some ⟨mb, mo, none⟩) c.length mc) rfl (by kernel_rfl) (by kernel_rfl) (by kernel_rfl) (fun _ _ _ h => h) (Or.inl ⟨by rfl, fun W hSW => ?_⟩) hHeld ?_
                  · ((try dsimp only at hSW); go_split_ands; go_simp <;> with_reducible rfl)
                  try simp only [List.getElem_toArray, List.getElem_cons_succ, List.getElem_cons_zero, Act.put, List.setIfInBounds_toArray, List.set_cons_zero, List.set_cons_succ]
                  refine wpAnyH_take (i := 3) (v := .int .i64 j) rfl (by kernel_rfl) (by kernel_rfl) (by kernel_rfl) (fun _ _ _ h => h) (Or.inl ⟨by rfl, fun W hSW => ?_⟩) hHeld ?_
                  · ((try dsimp only at hSW); go_split_ands; go_simp <;> with_reducible rfl)
                  try simp only [List.getElem_toArray, List.getElem_cons_succ, List.getElem_cons_zero, Act.put, List.setIfInBounds_toArray, List.set_cons_zero, List.set_cons_succ]
                  refine wpAnyH_take (i := 4) (v := .pointer (some ⟨mb, mo + j * 2, none⟩)) rfl (by kernel_rfl) (by kernel_rfl) (by kernel_rfl) (fun _ _ _ h => h) (Or.inl ⟨by rfl, fun W hSW => ?_⟩) hHeld ?_
                  · ((try dsimp only at hSW); go_split_ands; go_simp <;> with_reducible rfl)
                  try simp only [List.getElem_toArray, List.getElem_cons_succ, List.getElem_cons_zero, Act.put, List.setIfInBounds_toArray, List.set_cons_zero, List.set_cons_succ]
                  refine wpAnyH_take (i := 5) (v := .agg #[.int .i64 p1, .int .u64 p2]) rfl (by kernel_rfl) (by kernel_rfl) (by kernel_rfl) (fun _ _ _ h => h) (Or.inl ⟨by rfl, fun W hSW => ?_⟩) hHeld ?_
                  · ((try dsimp only at hSW); go_split_ands; go_simp <;> with_reducible rfl)
                  try simp only [List.getElem_toArray, List.getElem_cons_succ, List.getElem_cons_zero, Act.put, List.setIfInBounds_toArray, List.set_cons_zero, List.set_cons_succ]
                  refine wpAnyH_take (i := 6) (v := .slice (some ⟨lb, lo, none⟩) c.length mc2) rfl (by kernel_rfl) (by kernel_rfl) (by kernel_rfl) (fun _ _ _ h => h) (Or.inl ⟨by rfl, fun W hSW => ?_⟩) hHeld ?_
                  · ((try dsimp only at hSW); go_split_ands; go_simp <;> with_reducible rfl)
                  try simp only [List.getElem_toArray, List.getElem_cons_succ, List.getElem_cons_zero, Act.put, List.setIfInBounds_toArray, List.set_cons_zero, List.set_cons_succ]
                  refine wpAnyH_take (i := 7) (v := .int .i64 j) rfl (by kernel_rfl) (by kernel_rfl) (by kernel_rfl) (fun _ _ _ h => h) (Or.inl ⟨by rfl, fun W hSW => ?_⟩) hHeld ?_
                  · ((try dsimp only at hSW); go_split_ands; go_simp <;> with_reducible rfl)
                  try simp only [List.getElem_toArray, List.getElem_cons_succ, List.getElem_cons_zero, Act.put, List.setIfInBounds_toArray, List.set_cons_zero, List.set_cons_succ]
                  refine wpAnyH_take (i := 8) (v := .pointer (some ⟨lb, lo + j * 2, none⟩)) rfl (by kernel_rfl) (by kernel_rfl) (by kernel_rfl) (fun _ _ _ h => h) (Or.inl ⟨by rfl, fun W hSW => ?_⟩) hHeld ?_
                  · ((try dsimp only at hSW); go_split_ands; go_simp <;> with_reducible rfl)
                  try simp only [List.getElem_toArray, List.getElem_cons_succ, List.getElem_cons_zero, Act.put, List.setIfInBounds_toArray, List.set_cons_zero, List.set_cons_succ]
                  refine wpAnyH_take (i := 9) (v := .agg #[.int .i64 r1, .int .u64 r2]) rfl (by kernel_rfl) (by kernel_rfl) (by kernel_rfl) (fun _ _ _ h => h) (Or.inl ⟨by rfl, fun W hSW => ?_⟩) hHeld ?_
                  · ((try dsimp only at hSW); go_split_ands; go_simp <;> with_reducible rfl)
                  try simp only [List.getElem_toArray, List.getElem_cons_succ, List.getElem_cons_zero, Act.put, List.setIfInBounds_toArray, List.set_cons_zero, List.set_cons_succ]
                  refine wpAnyH_ready (rs := [10]) (by kernel_rfl) (by simp) ?_
                  refine AllReadyH.cons rfl (fun K hK => ?_) AllReadyH.nil
                  try simp only [List.getElem_toArray, List.getElem_cons_succ, List.getElem_cons_zero]
                  go_simp
                  (go_at_call 27; refine (rleq17_any _ xs w12.heap.size p1 r1 p2 r2 w12 ((HU.out.below HS12.out.1).mono HS12.out.1.size) (Nat.le_refl _) HX.out HAX.out).mono ?_; rintro e w13 ⟨rfl, hb8⟩; rw [HLJ.out])
                  try go_wp2_with fail
                  refine hK.out _ _ ?_ (fun hHeld => ?_)
                  · exact ⟨(hb8.cell (p := ⟨W.heap.size, 0, none⟩) HS12.out.2.1).trans hHeld.1, (hb8.cell (p := ⟨mb, mo + j * 2, none⟩) HMB.out).trans hHeld.2.1, (hb8.cell (p := ⟨mb, mo + j * 2 + 1, none⟩) HMB.out).trans hHeld.2.2.1, (hb8.cell (p := ⟨lb, lo + j * 2, none⟩) HLB.out).trans hHeld.2.2.2.1, (hb8.cell (p := ⟨lb, lo + j * 2 + 1, none⟩) HLB.out).trans hHeld.2.2.2.2⟩
                  clear hK K
                  try simp only [List.getElem_toArray, List.getElem_cons_succ, List.getElem_cons_zero, Act.put, List.setIfInBounds_toArray, List.set_cons_zero, List.set_cons_succ]
                  have HB13 := Lib.hid (HB12.out.trans (hb8.mono HB12.out.size))
                  refine wpAnyH_take (i := 11) (v := .bool false) rfl (by kernel_rfl) (by kernel_rfl) (by kernel_rfl) (fun _ _ _ h => h) (Or.inl ⟨by rfl, fun W hSW => ?_⟩) hHeld ?_
                  · ((try dsimp only at hSW); go_split_ands; go_simp <;> with_reducible rfl)
                  try simp only [List.getElem_toArray, List.getElem_cons_succ, List.getElem_cons_zero, Act.put, List.setIfInBounds_toArray, List.set_cons_zero, List.set_cons_succ]
                  refine wpAnyH_done (by kernel_rfl) ?_ _
                  clear hHeld hb8
                  go_wp2_with fail
                  go_roundw
                  case rel => exact ⟨j + 1, by omega, by go_num, HB13.out⟩
                  case measure => simp [intOf]; omega
                · have hjz : ¬ ((j : Int) < c.length) := by omega
                  go_wp2_with (go_at_call 21; refine (HAW.out _ HS11.out.1).mono ?_; rintro e w14 ⟨rfl, hb6⟩; have HS14 := Lib.hid (HS11.out.on hb6); clear hb6)
                  go_ret
                  exact ⟨rfl, HS14.out.1⟩
theorem solveGrows_all {uv cv nv : Value} {xs : List Int} {c : List (Int × Int)} {tq : List (List Int)} {aq ne lv lm : Int} (W : World) (hu : Nums .u64 W.heap.size W uv xs) (hx : Wide xs) (hxl : xs.length ≤ big5) (hT : Tz W) (hv : LabRow W.heap.size W cv c) (hwc : WideL c) (hg : GraphM W.heap.size W nv tq) (hs : Small tq) (hcl : c.length ≤ 17592186044416) (hlm : 0 ≤ lm ∧ lm ≤ 18446744073709551615) :
    Calls Tryd.prog 6 #[.agg #[uv, cv, nv, .int .i64 aq, .int .i64 ne, .int .i64 lv, .int .u64 lm]] W fun e V => e = .returned (.bool true) ∧ Below W.heap.size W V := by
  obtain ⟨ua, uc, rfl⟩ := hu.form
  exact solveGrows_walk W hu hx hxl hT hv hwc hg hs hcl hlm
end Go.Proofs.YtjadckmdkkeopaaDoor
