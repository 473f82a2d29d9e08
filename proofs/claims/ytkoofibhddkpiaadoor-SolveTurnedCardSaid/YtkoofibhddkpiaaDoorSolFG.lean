import Derived.Test.YtkoofibhddkpiaaDoorSolOD
import Derived.Test.YtkoofibhddkpiaaDoorSolAS
set_option linter.unusedSimpArgs false
set_option linter.unusedVariables false
/-! solve: what begin lays ahead of its loops -/
namespace Go.Proofs.YtkoofibhddkpiaaDoor
open Go.RowKit
open SV (askI Tab OwnG)
theorem mk_map (n : Int) (w : World) : (Instr.makeMap 41 (some (.int .i64 n))).run Tryd.prog w = .ok (.map (some w.heap.size)) (w.alloc (.map #[] 0)) := by
  have hu : Tryd.prog.underlying 41 = some (.map 3 66) := Tryd.underlying41
  simp [Instr.makeMap, run_underlying hu, asInt, asIntOf, Result.andThen]
theorem set_new (w : World) : SetP (w.alloc (.map #[] 0)) w.heap.size [] :=
  ⟨.map [], World.ownsMap_made w _ _ _, fun v _ => rfl, rfl⟩
theorem zeros_row (w : World) (base n : Nat) (hb : base ≤ w.heap.size) (hn : n ≤ 1000000) : (w.alloc (.cells (madeCells #[.int .i64 0] n) 3)).ownsRow base 3 1 (.slice (some ⟨w.heap.size, 0, none⟩) n n) n (intsV (List.replicate n 0)) := by
  refine ⟨by simp [intsV], .inr ⟨w.heap.size, n, madeCells #[.int .i64 0] n, rfl, hb, heap_alloc_new _ _, Nat.le_refl _, by unfold maxLen; omega, by rw [size_madeCells]; omega, ?_⟩⟩
  apply List.ext_getElem?
  intro i
  by_cases hi : i < n
  · rw [List.getElem?_take_of_lt (by omega)]
    simp [madeCells, intsV, hi, Nat.mod_one]
  · rw [List.getElem?_eq_none (by rw [List.length_take]; omega), List.getElem?_eq_none (by simp [intsV]; omega)]
/-- what is there ahead of the loops: the sums, who needs whom, the order, the places, those that wait -/
structure BegP (B0 : Nat) (V : World) (n : Nat) (rows : Nat → List Int) (sv : Value) (ss : List (Int × Int)) (ab : Nat) (vs : Nat → Value) (ov : Value) (ol : List Int) (pb : Nat) (pl : List Int) (mb : Nat) (q : List Nat) : Prop where
  sums : V.ownsRow B0 55 2 sv ss.length (sumC ss)
  tab : V.rowIs ab 29 n vs
  own : ∀ j, j < n → V.ownsRow B0 3 1 (vs j) (rows j).length (intsV (rows j))
  abge : B0 ≤ ab
  ord : V.ownsRow B0 3 1 ov ol.length (intsV ol)
  place : V.ownsRow B0 3 1 (.slice (some ⟨pb, 0, none⟩) n n) n (intsV pl)
  set : SetP V mb q
  mge : B0 ≤ mb
  mlt : mb < V.heap.size
  d1 : ∀ k, ov.ownBlock = some k → k ≠ pb
  d2 : ∀ j, j < n → ∀ k, (vs j).ownBlock = some k → k ≠ pb
theorem BegP.below {B0 n ab pb mb : Nat} {V V' : World} {rows : Nat → List Int} {sv ov : Value} {ss : List (Int × Int)} {vs : Nat → Value} {ol pl : List Int} {q : List Nat} (h : BegP B0 V n rows sv ss ab vs ov ol pb pl mb q) (hb : Below V.heap.size V V') : BegP B0 V' n rows sv ss ab vs ov ol pb pl mb q :=
  ⟨SS.own_of_block h.sums (fun k e => hb.block k (h.sums.lt k e).2), h.tab.of_block (hb.block _ h.tab.lt), fun j hj => SS.own_of_block (h.own j hj) (fun k e => hb.block k ((h.own j hj).lt k e).2), h.abge, SS.own_of_block h.ord (fun k e => hb.block k (h.ord.lt k e).2), SS.own_of_block h.place (fun k e => hb.block k (h.place.lt k e).2), h.set.of (hb.block _ h.mlt), h.mge, Nat.lt_of_lt_of_le h.mlt hb.size, h.d1, h.d2⟩
/-- what begin's second region leaves -/
def BegQ (W : World) (n : Nat) (rows : Nat → List Int) (ss : List (Int × Int)) (ol : List Int) (s6 : Value) (V : World) : Prop :=
  ∃ (wb ab pb mb : Nat) (sv ov : Value) (vs : Nat → Value), s6 = .pointer (some ⟨wb, 0, none⟩) ∧ Below W.heap.size W V ∧ W.heap.size ≤ wb ∧
    WorkB V wb sv (.slice (some ⟨ab, 0, none⟩) n n) ov (.slice (some ⟨pb, 0, none⟩) n n) (.slice none 0 0) (.map (some mb)) ∧ BegP W.heap.size V n rows sv ss ab vs ov ol pb (List.replicate n 0) mb []
/-- .. put together out of the five parts, made in any order -/
theorem begq_mk {W X xs xa xo xp xm : World} {n : Nat} {rows : Nat → List Int} {ss : List (Int × Int)} {ol : List Int} {sv ov : Value} {vs : Nat → Value} {bs ab bo pb mb ba : Nat}
    (hX : Below W.heap.size W X) (hs : xs.ownsRow bs 55 2 sv ss.length (sumC ss)) (hs1 : W.heap.size ≤ bs) (hs2 : Below xs.heap.size xs X)
    (ht : xa.rowIs ab 29 n vs) (ho : ∀ j, j < n → xa.ownsRow ba 3 1 (vs j) (rows j).length (intsV (rows j))) (ha1 : W.heap.size ≤ ab) (ha2 : W.heap.size ≤ ba) (ha3 : Below xa.heap.size xa X)
    (hr : xo.ownsRow bo 3 1 ov ol.length (intsV ol)) (hr1 : W.heap.size ≤ bo) (hr2 : Below xo.heap.size xo X)
    (hp : xp.ownsRow pb 3 1 (.slice (some ⟨pb, 0, none⟩) n n) n (intsV (List.replicate n 0))) (hp1 : W.heap.size ≤ pb) (hp2 : Below xp.heap.size xp X)
    (hm : SetP xm mb []) (hm1 : W.heap.size ≤ mb) (hm2 : Below xm.heap.size xm X) (hm3 : mb < xm.heap.size)
    (d1 : pb < bo ∨ xo.heap.size ≤ pb) (d2 : pb < ba ∨ xa.heap.size ≤ pb) :
    BegQ W n rows ss ol (.pointer (some ⟨X.heap.size, 0, none⟩)) (X.alloc (.cells #[sv, .slice (some ⟨ab, 0, none⟩) n n, ov, .slice (some ⟨pb, 0, none⟩) n n, .slice none 0 0, .map (some mb)] 43)) := by
  have hlow : W.heap.size ≤ X.heap.size := hX.size
  refine ⟨X.heap.size, ab, pb, mb, sv, ov, vs, rfl, hX.alloc hlow _, hlow, SS.new_at rfl, BegP.below (V := X) ⟨?_, ?_, fun j hj => ?_, ha1, ?_, ?_, hm.of (hm2.block _ hm3), hm1, Nat.lt_of_lt_of_le hm3 hm2.size, fun k e => ?_, fun j hj k e => ?_⟩ ((Below.refl _ _).alloc (Nat.le_refl _) _)⟩
  · exact SS.own_lower hs1 (SS.own_of_block hs (fun k e => hs2.block k (hs.lt k e).2))
  · exact ht.of_block (ha3.block _ ht.lt)
  · exact SS.own_lower ha2 (SS.own_of_block (ho j hj) (fun k e => ha3.block k ((ho j hj).lt k e).2))
  · exact SS.own_lower hr1 (SS.own_of_block hr (fun k e => hr2.block k (hr.lt k e).2))
  · exact SS.own_lower hp1 (SS.own_of_block hp (fun k e => hp2.block k (hp.lt k e).2))
  · have := hr.lt k e
    omega
  · have := (ho j hj).lt k e
    omega
/-- a place is told -/
theorem BegP.put {B0 n ab pb mb : Nat} {V : World} {rows : Nat → List Int} {sv ov : Value} {ss : List (Int × Int)} {vs : Nat → Value} {ol pl : List Int} {q : List Nat} (h : BegP B0 V n rows sv ss ab vs ov ol pb pl mb q) (v : Nat) (x : Int) (hpl : pl.length = n) :
    BegP B0 (V.setCell ⟨pb, v, none⟩ (.int .i64 x)) n rows sv ss ab vs ov ol pb (pl.set v x) mb q := by
  have q1 := World.ownsRow.stored h.place v (.int .i64 x)
  have hg := q1.2
  obtain ⟨cur, hpb⟩ : ∃ cur, V.heap[pb]? = some (.cells cur 3 (0, 0)) := by
    rcases h.place.2 with ⟨e1, _⟩ | ⟨g', cap', cur, e1, hb, hg, hn, hmx, hs, htake⟩
    · cases e1
    · cases e1; exact ⟨cur, hg⟩
  have hty : ∀ {e size m : Nat} {v' : Value} {xs : List Value}, V.ownsRow B0 e size v' m xs → e ≠ 3 → ∀ k, v'.ownBlock = some k → k ≠ pb := fun hh hne k e1 e2 => by
    obtain ⟨_, _, c, hc⟩ := GG.own_block hh e1
    rw [e2, hpb] at hc
    cases hc
    exact hne rfl
  refine ⟨SS.own_of_block h.sums (fun k e => SV.blk_set_other _ _ _ _ (hty h.sums (by decide) k e)), h.tab.of_block (SV.blk_set_other _ _ _ _ ?_), fun j hj => SS.own_of_block (h.own j hj) (fun k e => SV.blk_set_other _ _ _ _ (h.d2 j hj k e)), h.abge, SS.own_of_block h.ord (fun k e => SV.blk_set_other _ _ _ _ (h.d1 k e)), ?_, h.set.of (SV.blk_set_other _ _ _ _ ?_), h.mge, by have := h.mlt; simpa using this, h.d1, h.d2⟩
  · intro e
    obtain ⟨c, hc, _⟩ := h.tab
    rw [show ab = pb from e, hpb] at hc
    cases hc
  · have q2 := q1.1
    have e1 : (intsV pl).set v (.int .i64 x) = intsV (pl.set v x) := by unfold intsV; rw [List.map_set]
    rw [e1] at q2
    exact q2
  · intro e
    obtain ⟨D, ⟨es, clock, hb, _⟩, _⟩ := h.set
    rw [show mb = pb from e, hpb] at hb
    cases hb
/-- a row that tells each of n values once -/
def PermL (n : Nat) (ol : List Int) : Prop := ol.length = n ∧ (∀ k, k < n → ∃ v : Nat, ol[k]?.getD 0 = (v : Int) ∧ v < n) ∧ (∀ j k, j < n → k < n → ol[j]?.getD 0 = ol[k]?.getD 0 → j = k) ∧ ∀ v : Nat, v < n → ∃ k, k < n ∧ ol[k]?.getD 0 = (v : Int)
theorem perm_of {n : Nat} {l : List Nat} (hl : l.length = n) (hd : l.Nodup) (hm : ∀ v, v ∈ l ↔ v < n) : PermL n (l.map Int.ofNat) := by
  have hat : ∀ k, k < n → ∃ h : k < l.length, (l.map Int.ofNat)[k]?.getD 0 = ((l[k] : Nat) : Int) := fun k hk => ⟨by omega, by rw [List.getElem?_map, List.getElem?_eq_getElem (by omega)]; rfl⟩
  refine ⟨by simp [hl], fun k hk => ?_, fun j k hj hk e => ?_, fun v hv => ?_⟩
  · obtain ⟨h, e⟩ := hat k hk
    exact ⟨_, e, (hm _).1 (List.getElem_mem h)⟩
  · obtain ⟨h1, e1⟩ := hat j hj
    obtain ⟨h2, e2⟩ := hat k hk
    rw [e1, e2] at e
    have hp := List.pairwise_iff_getElem.1 hd
    rcases Nat.lt_trichotomy j k with h | h | h
    · exact absurd (by omega) (hp j k h1 h2 h)
    · exact h
    · exact absurd (by omega) (hp k j h2 h1 h)
  · obtain ⟨k, hk, e⟩ := List.mem_iff_getElem.1 ((hm v).2 hv)
    obtain ⟨h1, e1⟩ := hat k (by omega)
    exact ⟨k, by omega, by rw [e1, e]⟩
/-- the first q of a row have their places -/
def Placed (n : Nat) (ol : List Int) (q : Nat) (pl : List Int) : Prop := pl.length = n ∧ ∀ k, k < q → ∀ v : Nat, ol[k]?.getD 0 = (v : Int) → pl[v]?.getD 0 = (k : Int)
theorem placed_zero (n : Nat) (ol : List Int) : Placed n ol 0 (List.replicate n 0) := ⟨by simp, fun k hk => absurd hk (Nat.not_lt_zero _)⟩
theorem placed_step {n q v : Nat} {ol pl : List Int} (hp : PermL n ol) (h : Placed n ol q pl) (hq : q < n) (hv : ol[q]?.getD 0 = (v : Int)) : Placed n ol (q + 1) (pl.set v (q : Int)) := by
  obtain ⟨h1, h2⟩ := h
  refine ⟨by rw [List.length_set]; exact h1, fun k hk u hu => ?_⟩
  obtain ⟨v', e', hv'⟩ := hp.2.1 q hq
  have hvn : v < n := by rw [hv] at e'; omega
  by_cases e : k = q
  · subst e
    have : u = v := by rw [hu] at hv; omega
    subst this
    rw [List.getElem?_set_self (by omega)]
    rfl
  · have hne : v ≠ u := fun e3 => e (hp.2.2.1 k q (by omega) hq (by rw [hu, hv, e3]))
    rw [List.getElem?_set_ne hne]
    exact h2 k (by omega) u hu
theorem placed_all {n : Nat} {ol pl : List Int} (hp : PermL n ol) (h : Placed n ol n pl) : ∀ v, v < n → ∃ k : Nat, pl[v]?.getD 0 = (k : Int) ∧ k < ol.length ∧ ol[k]?.getD 0 = (v : Int) := fun v hv => by
  obtain ⟨k, hk, e⟩ := hp.2.2.2 v hv
  exact ⟨k, h.2 k hk v e, by rw [hp.1]; exact hk, e⟩
/-- the work, as Solve's loop has it -/
structure LoopP (W V : World) (B wb mb sb sc ab n : Nat) (ov pv lv : Value) (pl ol l : List Int) (vs : Nat → Value) (rows : Nat → List Int) (st : List (Int × Int) × List Nat) : Prop where
  tell : TellP V wb B mb sb sc n (.slice (some ⟨ab, 0, none⟩) n n) ov pv lv pl l st
  plen : pl.length = n
  inv : ∀ v, v < n → ∃ k : Nat, pl[v]?.getD 0 = (k : Int) ∧ k < ol.length ∧ ol[k]?.getD 0 = (v : Int)
  ord : V.ownsRow 0 3 1 ov ol.length (intsV ol)
  olt : ∀ k, ov.ownBlock = some k → k < B ∧ k ≠ wb ∧ k ≠ mb ∧ k ≠ sb
  tab : ∀ v, v < n → V.cell? ⟨ab, v, none⟩ = some (vs v)
  abl : ab < B ∧ ab ≠ wb ∧ ab ≠ mb ∧ ab ≠ sb
  own : ∀ v, v < n → V.ownsRow 0 3 1 (vs v) (rows v).length (intsV (rows v))
  oth : ∀ v, v < n → ∀ k, (vs v).ownBlock = some k → k < B ∧ k ≠ wb ∧ k ≠ mb ∧ k ≠ sb
  lo : W.heap.size ≤ wb ∧ W.heap.size ≤ mb ∧ W.heap.size ≤ sb ∧ W.heap.size ≤ B
  below : Below W.heap.size W V
theorem LoopP.step {W V Z : World} {B wb mb sb sc ab n : Nat} {ov pv lv lv' : Value} {pl ol l l' : List Int} {vs : Nat → Value} {rows : Nat → List Int} {st st' : List (Int × Int) × List Nat} (h : LoopP W V B wb mb sb sc ab n ov pv lv pl ol l vs rows st) (hk : SK wb mb sb B V Z) (ht : TellP Z wb B mb sb sc n (.slice (some ⟨ab, 0, none⟩) n n) ov pv lv' pl l' st') : LoopP W Z B wb mb sb sc ab n ov pv lv' pl ol l' vs rows st' :=
  ⟨ht, h.plen, h.inv, SS.own_of_block h.ord (fun k e => hk.block k (h.olt k e).1 (h.olt k e).2.1 (h.olt k e).2.2.1 (h.olt k e).2.2.2), h.olt,
    fun v hv => (cell_blk (hk.block ab h.abl.1 h.abl.2.1 h.abl.2.2.1 h.abl.2.2.2)).trans (h.tab v hv), h.abl,
    fun v hv => SS.own_of_block (h.own v hv) (fun k e => hk.block k (h.oth v hv k e).1 (h.oth v hv k e).2.1 (h.oth v hv k e).2.2.1 (h.oth v hv k e).2.2.2), h.oth, h.lo,
    h.below.trans ⟨hk.os, hk.tape, hk.output, hk.size, fun k hkk => hk.block k (by have := h.lo; omega) (by have := h.lo; omega) (by have := h.lo; omega) (by have := h.lo; omega)⟩⟩
theorem LoopP.drewN {W V : World} {B wb mb sb sc ab n : Nat} {ov pv lv : Value} {pl ol l : List Int} {vs : Nat → Value} {rows : Nat → List Int} {st : List (Int × Int) × List Nat} (h : LoopP W V B wb mb sb sc ab n ov pv lv pl ol l vs rows st) (d : Nat) : LoopP W (V.drewN d) B wb mb sb sc ab n ov pv lv pl ol l vs rows st := h.step (SK.drewN V d) (h.tell.drewN d)
/-- where the second loop begins -/
theorem loopP_start {W V : World} {n wb ab pb mb : Nat} {rows : Nat → List Int} {ss : List (Int × Int)} {ol pl : List Int} {sv ov : Value} {vs : Nat → Value} (hn : 0 < n) (hss : ss.length = n) (hp : PermL n ol) (hpl : Placed n ol n pl)
    (h : BegP W.heap.size V n rows sv ss ab vs ov ol pb pl mb []) (hW : WorkB V wb sv (.slice (some ⟨ab, 0, none⟩) n n) ov (.slice (some ⟨pb, 0, none⟩) n n) (.slice none 0 0) (.map (some mb))) (hwb : W.heap.size ≤ wb) (hb : Below W.heap.size W V) :
    ∃ sb sc, sv = .slice (some ⟨sb, 0, none⟩) n sc ∧ LoopP W V V.heap.size wb mb sb sc ab n ov (.slice (some ⟨pb, 0, none⟩) n n) (.slice none 0 0) pl ol [] vs rows (ss, []) := by
  obtain ⟨sb, sc, rfl⟩ := SS.own_some h.sums (by omega)
  rw [hss] at hW ⊢
  have hsums := h.sums
  rw [hss] at hsums
  have hwl := hW.lt
  -- blocks of rows, the map's and the work's are not the same
  have hrow : ∀ {e size m : Nat} {v' : Value} {xs : List Value}, V.ownsRow W.heap.size e size v' m xs → e ≠ 43 → ∀ k, v'.ownBlock = some k → W.heap.size ≤ k ∧ k < V.heap.size ∧ k ≠ wb ∧ k ≠ mb := fun hh hne k e1 => by
    obtain ⟨h1, h2, c, hc⟩ := GG.own_block hh e1
    refine ⟨h1, h2, fun e2 => ?_, fun e2 => ?_⟩
    · unfold WorkB at hW
      rw [e2, hW] at hc
      cases hc
      exact hne rfl
    · obtain ⟨D, ⟨es, clock, hb, _⟩, _⟩ := h.set
      rw [e2, hb] at hc
      cases hc
  have hsb := hrow hsums (by decide) sb rfl
  have hmw : mb ≠ wb := fun e2 => by
    obtain ⟨D, ⟨es, clock, hb, _⟩, _⟩ := h.set
    unfold WorkB at hW
    rw [e2, hW] at hb
    cases hb
  have hsty : ∀ {e size m : Nat} {v' : Value} {xs : List Value}, V.ownsRow W.heap.size e size v' m xs → e ≠ 55 → ∀ k, v'.ownBlock = some k → k ≠ sb := fun hh hne k e1 e2 => by
    obtain ⟨_, _, c, hc⟩ := GG.own_block hh e1
    obtain ⟨_, _, c2, hc2⟩ := GG.own_block hsums (k := sb) rfl
    rw [e2, hc2] at hc
    cases hc
    exact hne rfl
  have hab : ab < V.heap.size ∧ ab ≠ wb ∧ ab ≠ mb ∧ ab ≠ sb := by
    have hl := h.tab.lt
    obtain ⟨c, hc, _⟩ := h.tab
    refine ⟨hl, fun e2 => ?_, fun e2 => ?_, fun e2 => ?_⟩
    · unfold WorkB at hW
      rw [e2, hW] at hc
      cases hc
    · obtain ⟨D, ⟨es, clock, hb, _⟩, _⟩ := h.set
      rw [e2, hb] at hc
      cases hc
    · obtain ⟨_, _, c2, hc2⟩ := GG.own_block hsums (k := sb) rfl
      rw [e2, hc2] at hc
      cases hc
  refine ⟨sb, sc, rfl, ⟨⟨⟨⟨hW, World.ownsRow_nil _ _ _ _, hwl, Nat.le_refl _⟩, h.set, ?_, h.mlt, hmw, fun k e => ?_⟩, hss, SS.own_lower (Nat.zero_le _) hsums, hsb.2.1, hsb.2.2, fun k e => hsty h.place (by decide) k e, ?_, List.nodup_nil, fun v hv => by simp at hv⟩, hpl.1, placed_all hp hpl, SS.own_lower (Nat.zero_le _) h.ord, fun k e => ?_, fun v hv => h.tab.cell hv, hab, fun v hv => SS.own_lower (Nat.zero_le _) (h.own v hv), fun v hv k e => ?_, ⟨hwb, h.mge, hsb.1, hb.size⟩, hb⟩⟩
  · have := SS.own_lower (Nat.zero_le _) h.place
    rw [hpl.1]
    exact this
  · have := hrow h.place (by decide) k e
    exact ⟨this.2.1, this.2.2⟩
  · exact .refl _
  · have := hrow h.ord (by decide) k e
    exact ⟨this.2.1, this.2.2.1, this.2.2.2, hsty h.ord (by decide) k e⟩
  · have := hrow (h.own v hv) (by decide) k e
    exact ⟨this.2.1, this.2.2.1, this.2.2.2, hsty (h.own v hv) (by decide) k e⟩
/-- what begin leaves -/
def BegE (W : World) (n : Nat) (rows : Nat → List Int) (ss : List (Int × Int)) (ol : List Int) (e : Ending) (V : World) : Prop :=
  ∃ wb, e = .returned (.pointer (some ⟨wb, 0, none⟩)) ∧ Below W.heap.size W V ∧
    ((n = 0 ∧ ∃ sv c1 c2 c3 mv, WorkB V wb sv c1 c2 c3 (.slice none 0 0) mv ∧ V.ownsRow W.heap.size 55 2 sv 0 []) ∨
      (0 < n ∧ ∃ (B mb sb sc ab : Nat) (ov pv lv : Value) (pl l : List Int) (vs : Nat → Value) (q : List Nat), LoopP W V B wb mb sb sc ab n ov pv lv pl ol l vs rows (ss, q) ∧ ∀ v, v ∈ q ↔ v < n))
end Go.Proofs.YtkoofibhddkpiaaDoor

/-! solve: begin's second region -/
namespace Go.Proofs.YtkoofibhddkpiaaDoor
open Go.RowKit
open SV (askI Tab OwnG)
theorem beg_held {b0 b1 : Value} {N : Nat} {A B : World} (h : Below A.heap.size A B) (hN : N < A.heap.size) (g : A.cell? ⟨N, 0, none⟩ = some b0 ∧ A.cell? ⟨N, 1, none⟩ = some b1) : B.cell? ⟨N, 0, none⟩ = some b0 ∧ B.cell? ⟨N, 1, none⟩ = some b1 :=
  ⟨(h.cell (p := ⟨N, 0, none⟩) hN).trans g.1, (h.cell (p := ⟨N, 1, none⟩) hN).trans g.2⟩
def sysCells (cv nv : Value) : Array Value := #[cv, nv]
set_option maxRecDepth 100000 in
set_option maxHeartbeats 25600000 in
theorem begin_any {uv cv nv : Value} {xs : List Int} {l : List (Int × Int)} {to : List (List Int)} (W : World) (hu : Nums .u64 W.heap.size W uv xs) (hv : LabRow W.heap.size W cv l) (hg : GraphM W.heap.size W nv to) (hxl : xs.length ≤ 64) (hl : l.length ≤ 1000000) (hin : ∀ j, j < l.length → 0 ≤ (l[j]?.getD s0).1 ∧ (l[j]?.getD s0).1 < xs.length)
    (hn : to.length = l.length) (hm : ∀ a : Nat, (to[a]?.getD []).length ≤ 1000000) (hti : ∀ a : Nat, ∀ x ∈ to[a]?.getD [], 0 ≤ x ∧ x < to.length) :
    Calls Tryd.prog 11 #[uv, .agg #[cv, nv]] W fun e V => BegE W l.length (fun j => askI to to.length 0 j) (l.map (sumF xs)) ((SV.ordL (GG.adjOf to) to.length).map Int.ofNat) e V := by
  obtain ⟨ca, cc, rfl⟩ := hv.form
  obtain ⟨na, nc, env⟩ := hg.form
  rw [hn] at env
  subst env
  have hmk := run_make_row' (P := Tryd.prog) 29 3 (.int .i64 0) 8 (by kernel_rfl) Tryd.infoGInt rfl .i64 .i64 l.length (by omega) (by omega)
  have hmm := mk_map (l.length : Int)
  have b0 : (l.length : Int) ≤ 1000000 := by omega
  have HPM := Lib.hid (show PermL l.length ((SV.ordL (GG.adjOf to) to.length).map Int.ofNat) from by
    have ha := adj_ltS hti
    have h1 := SV.ord_is ha
    rw [← hn]
    exact perm_of (SV.ord_len ha) h1.1 h1.2)
  have hoe : ((SV.ordL (GG.adjOf to) to.length).map Int.ofNat).length = to.length := by rw [← hn] at HPM; exact HPM.out.1
  obtain ⟨ol, eol⟩ : ∃ ol, ol = (SV.ordL (GG.adjOf to) to.length).map Int.ofNat := ⟨_, rfl⟩
  rw [← eol] at HPM hoe ⊢
  have HOE := Lib.hid eol
  have HON := Lib.hid hoe
  clear eol hoe
  have HU := Lib.hid hu
  have HL := Lib.hid hv
  have HG := Lib.hid hg
  have HXL := Lib.hid hxl
  have HLL := Lib.hid hl
  have HLI := Lib.hid hin
  have HTL := Lib.hid (show to.length ≤ 1000000 by omega)
  have HTM := Lib.hid hm
  have HTI := Lib.hid hti
  have HTN := Lib.hid hn
  clear hu hv hg hxl hl hin hm hti hn
  go_enter Tryd.func11, Tryd.ntmps11
  go_upto_region 2 with fail
  go_cut [6] from 13 (fun s6 w9 => BegQ W l.length (fun j => askI to to.length 0 j) (l.map (sumF xs)) ol s6 w9)
  case first =>
    have HC0 := Lib.hid (show Below W.heap.size W (W.alloc (.cells #[.slice ca l.length cc, .slice na l.length nc] 26)).drew from ((Below.refl _ _).alloc (Nat.le_refl _) _).drew)
    have HBL0 := Lib.hid (show W.heap.size < (W.alloc (.cells #[.slice ca l.length cc, .slice na l.length nc] 26)).drew.heap.size by simp)
    refine wp_region_held_drew (S := (fun V => V.cell? ⟨W.heap.size, 0, none⟩ = some (.slice ca l.length cc) ∧ V.cell? ⟨W.heap.size, 1, none⟩ = some (.slice na l.length nc))) (by kernel_rfl) ?_ (fun hHeld => ?_)
    · exact ⟨cell_of_row _ _ 0 _ _ _ (heap_alloc_new _ _), cell_of_row _ _ 1 _ _ _ (heap_alloc_new _ _)⟩
    generalize (W.alloc (.cells #[.slice ca l.length cc, .slice na l.length nc] 26)).drew = x0 at HC0 HBL0 hHeld ⊢
    refine wpAnyH_take (i := 0) (v := uv) rfl (by kernel_rfl) (by kernel_rfl) (by kernel_rfl) (fun _ _ _ h => h) (Or.inl ⟨by rfl, fun W hSW => ?_⟩) hHeld ?_
    · ((try dsimp only at hSW); go_split_ands; go_simp <;> with_reducible rfl)
    try simp only [List.getElem_toArray, List.getElem_cons_succ, List.getElem_cons_zero, Act.put, List.setIfInBounds_toArray, List.set_cons_zero, List.set_cons_succ]
    refine wpAnyH_take (i := 1) (v := .pointer (some ⟨W.heap.size, 0, none⟩)) rfl (by kernel_rfl) (by kernel_rfl) (by kernel_rfl) (fun _ _ _ h => h) (Or.inl ⟨by rfl, fun W hSW => ?_⟩) hHeld ?_
    · ((try dsimp only at hSW); go_split_ands; go_simp <;> with_reducible rfl)
    try simp only [List.getElem_toArray, List.getElem_cons_succ, List.getElem_cons_zero, Act.put, List.setIfInBounds_toArray, List.set_cons_zero, List.set_cons_succ]
    refine wpAnyH_take (i := 2) (v := .slice ca l.length cc) rfl (by kernel_rfl) (by kernel_rfl) (by kernel_rfl) (fun _ _ _ h => h) (Or.inl ⟨by rfl, fun W hSW => ?_⟩) hHeld ?_
    · ((try dsimp only at hSW); go_split_ands; go_simp <;> with_reducible rfl)
    try simp only [List.getElem_toArray, List.getElem_cons_succ, List.getElem_cons_zero, Act.put, List.setIfInBounds_toArray, List.set_cons_zero, List.set_cons_succ]
    refine wpAnyH_take (i := 4) (v := .pointer (some ⟨W.heap.size, 1, none⟩)) rfl (by kernel_rfl) (by kernel_rfl) (by kernel_rfl) (fun _ _ _ h => h) (Or.inl ⟨by rfl, fun W hSW => ?_⟩) hHeld ?_
    · ((try dsimp only at hSW); go_split_ands; go_simp <;> with_reducible rfl)
    try simp only [List.getElem_toArray, List.getElem_cons_succ, List.getElem_cons_zero, Act.put, List.setIfInBounds_toArray, List.set_cons_zero, List.set_cons_succ]
    refine wpAnyH_take (i := 5) (v := .slice na l.length nc) rfl (by kernel_rfl) (by kernel_rfl) (by kernel_rfl) (fun _ _ _ h => h) (Or.inl ⟨by rfl, fun W hSW => ?_⟩) hHeld ?_
    · ((try dsimp only at hSW); go_split_ands; go_simp <;> with_reducible rfl)
    try simp only [List.getElem_toArray, List.getElem_cons_succ, List.getElem_cons_zero, Act.put, List.setIfInBounds_toArray, List.set_cons_zero, List.set_cons_succ]
    refine wpAnyH_take (i := 7) (v := .pointer (some ⟨W.heap.size, 1, none⟩)) rfl (by kernel_rfl) (by kernel_rfl) (by kernel_rfl) (fun _ _ _ h => h) (Or.inl ⟨by rfl, fun W hSW => ?_⟩) hHeld ?_
    · ((try dsimp only at hSW); go_split_ands; go_simp <;> with_reducible rfl)
    try simp only [List.getElem_toArray, List.getElem_cons_succ, List.getElem_cons_zero, Act.put, List.setIfInBounds_toArray, List.set_cons_zero, List.set_cons_succ]
    refine wpAnyH_take (i := 8) (v := .slice na l.length nc) rfl (by kernel_rfl) (by kernel_rfl) (by kernel_rfl) (fun _ _ _ h => h) (Or.inl ⟨by rfl, fun W hSW => ?_⟩) hHeld ?_
    · ((try dsimp only at hSW); go_split_ands; go_simp <;> with_reducible rfl)
    try simp only [List.getElem_toArray, List.getElem_cons_succ, List.getElem_cons_zero, Act.put, List.setIfInBounds_toArray, List.set_cons_zero, List.set_cons_succ]
    refine wpAnyH_take (i := 10) (v := .int .i64 l.length) rfl (by kernel_rfl) (by kernel_rfl) (by kernel_rfl) (fun _ _ _ h => h) (Or.inl ⟨by rfl, fun W hSW => ?_⟩) hHeld ?_
    · ((try dsimp only at hSW); go_split_ands; go_simp <;> with_reducible rfl)
    try simp only [List.getElem_toArray, List.getElem_cons_succ, List.getElem_cons_zero, Act.put, List.setIfInBounds_toArray, List.set_cons_zero, List.set_cons_succ]
    refine wpAnyH_take (i := 12) (v := .int .i64 l.length) rfl (by kernel_rfl) (by kernel_rfl) (by kernel_rfl) (fun _ _ _ h => h) (Or.inl ⟨by rfl, fun W hSW => ?_⟩) hHeld ?_
    · ((try dsimp only at hSW); go_split_ands; go_simp <;> with_reducible rfl)
    try simp only [List.getElem_toArray, List.getElem_cons_succ, List.getElem_cons_zero, Act.put, List.setIfInBounds_toArray, List.set_cons_zero, List.set_cons_succ]
    refine wpAnyH_ready (rs := [3, 11, 13]) (by kernel_rfl) (by simp) ?_
    refine AllReadyH.cons rfl (fun K hK => ?_) (AllReadyH.cons rfl (fun K hK => ?_) (AllReadyH.cons rfl (fun K hK => ?_) AllReadyH.nil))
    · skip
      try simp only [List.getElem_toArray, List.getElem_cons_succ, List.getElem_cons_zero]
      go_simp
      (go_at_call 17; refine (sums_any _ ((HU.out.below HC0.out).mono HC0.out.size) ((HL.out.below HC0.out).mono HC0.out.size) HXL.out HLL.out HLI.out).mono ?_; rintro e x1 ⟨sv, rfl, hs1, hb1⟩; obtain ⟨sa, sc, rfl⟩ := SS.ownOf hs1; have HS := Lib.hid hs1; have HB1 := Lib.hid hb1; clear hs1 hb1)
      try go_wp2_with fail
      refine hK.out _ _ ?_ (fun hHeld => ?_)
      · exact beg_held HB1.out HBL0.out hHeld
      clear hK K
      try simp only [List.getElem_toArray, List.getElem_cons_succ, List.getElem_cons_zero, Act.put, List.setIfInBounds_toArray, List.set_cons_zero, List.set_cons_succ]
      have HC1 := Lib.hid (HC0.out.trans (HB1.out.mono HC0.out.size))
      have HBL1 := Lib.hid (Nat.lt_of_lt_of_le HBL0.out HB1.out.size)
      refine wpAnyH_ready (rs := [6, 11, 13]) (by kernel_rfl) (by simp) ?_
      refine AllReadyH.cons rfl (fun K hK => ?_) (AllReadyH.cons rfl (fun K hK => ?_) (AllReadyH.cons rfl (fun K hK => ?_) AllReadyH.nil))
      · skip
        try simp only [List.getElem_toArray, List.getElem_cons_succ, List.getElem_cons_zero]
        go_simp
        (go_at_call 18; refine (askers_any _ ((HG.out.below HC1.out).mono HC1.out.size) HTL.out HTM.out HTI.out).mono ?_; rintro e x2 ⟨rfl, vs, hs2⟩; rewrite [HTN.out]; have HA := Lib.hid hs2; have HB2 := Lib.hid hs2.below; clear hs2)
        try go_wp2_with fail
        refine hK.out _ _ ?_ (fun hHeld => ?_)
        · exact beg_held HB2.out HBL1.out hHeld
        clear hK K
        try simp only [List.getElem_toArray, List.getElem_cons_succ, List.getElem_cons_zero, Act.put, List.setIfInBounds_toArray, List.set_cons_zero, List.set_cons_succ]
        have HC2 := Lib.hid (HC1.out.trans (HB2.out.mono HC1.out.size))
        have HBL2 := Lib.hid (Nat.lt_of_lt_of_le HBL1.out HB2.out.size)
        refine wpAnyH_ready (rs := [9, 11, 13]) (by kernel_rfl) (by simp) ?_
        refine AllReadyH.cons rfl (fun K hK => ?_) (AllReadyH.cons rfl (fun K hK => ?_) (AllReadyH.cons rfl (fun K hK => ?_) AllReadyH.nil))
        · skip
          try simp only [List.getElem_toArray, List.getElem_cons_succ, List.getElem_cons_zero]
          go_simp
          (go_at_call 19; refine (order_anyS _ HTL.out HTM.out HTI.out ((HG.out.below HC2.out).mono HC2.out.size)).mono ?_; rintro e x3 ⟨ov, rfl, hs3, hb3⟩; rewrite [← HOE.out, ← HON.out] at hs3; obtain ⟨oa, oc, rfl⟩ := SS.ownOf hs3; have HO := Lib.hid hs3; have HB3 := Lib.hid hb3; clear hs3 hb3)
          try go_wp2_with fail
          refine hK.out _ _ ?_ (fun hHeld => ?_)
          · exact beg_held HB3.out HBL2.out hHeld
          clear hK K
          try simp only [List.getElem_toArray, List.getElem_cons_succ, List.getElem_cons_zero, Act.put, List.setIfInBounds_toArray, List.set_cons_zero, List.set_cons_succ]
          have HC3 := Lib.hid (HC2.out.trans (HB3.out.mono HC2.out.size))
          have HBL3 := Lib.hid (Nat.lt_of_lt_of_le HBL2.out HB3.out.size)
          refine wpAnyH_ready (rs := [11, 13]) (by kernel_rfl) (by simp) ?_
          refine AllReadyH.cons rfl (fun K hK => ?_) (AllReadyH.cons rfl (fun K hK => ?_) AllReadyH.nil)
          · skip
            try simp only [List.getElem_toArray, List.getElem_cons_succ, List.getElem_cons_zero]
            go_simp
            have HB4 := Lib.hid (show Below x3.heap.size x3 (x3.alloc (.cells (madeCells #[.int .i64 0] l.length) 3)) from (Below.refl _ _).alloc (Nat.le_refl _) _)
            have HP := Lib.hid (zeros_row x3 x3.heap.size l.length (Nat.le_refl _) HLL.out)
            generalize (x3.alloc (.cells (madeCells #[.int .i64 0] l.length) 3)) = x4 at HB4 HP ⊢
            try go_wp2_with fail
            refine hK.out _ _ ?_ (fun hHeld => ?_)
            · exact beg_held HB4.out HBL3.out hHeld
            clear hK K
            try simp only [List.getElem_toArray, List.getElem_cons_succ, List.getElem_cons_zero, Act.put, List.setIfInBounds_toArray, List.set_cons_zero, List.set_cons_succ]
            have HC4 := Lib.hid (HC3.out.trans (HB4.out.mono HC3.out.size))
            have HBL4 := Lib.hid (Nat.lt_of_lt_of_le HBL3.out HB4.out.size)
            refine wpAnyH_ready (rs := [13]) (by kernel_rfl) (by simp) ?_
            refine AllReadyH.cons rfl (fun K hK => ?_) AllReadyH.nil
            try simp only [List.getElem_toArray, List.getElem_cons_succ, List.getElem_cons_zero]
            go_simp
            have HB5 := Lib.hid (show Below x4.heap.size x4 (x4.alloc (.map #[] 0)) from (Below.refl _ _).alloc (Nat.le_refl _) _)
            have HM := Lib.hid (set_new x4)
            have HMZ := Lib.hid (show x4.heap.size < (x4.alloc (.map #[] 0)).heap.size by simp)
            generalize (x4.alloc (.map #[] 0)) = x5 at HB5 HM HMZ ⊢
            try go_wp2_with fail
            refine hK.out _ _ ?_ (fun hHeld => ?_)
            · exact beg_held HB5.out HBL4.out hHeld
            clear hK K
            try simp only [List.getElem_toArray, List.getElem_cons_succ, List.getElem_cons_zero, Act.put, List.setIfInBounds_toArray, List.set_cons_zero, List.set_cons_succ]
            have HC5 := Lib.hid (HC4.out.trans (HB5.out.mono HC4.out.size))
            have HBL5 := Lib.hid (Nat.lt_of_lt_of_le HBL4.out HB5.out.size)
            have HPZ := Lib.hid (show x3.heap.size < x4.heap.size from (HP.out.lt _ rfl).2)
            have HF := Lib.hid (begq_mk HC5.out (by rw [List.length_map]; exact HS.out) HC0.out.size (((HB2.out.trans (HB3.out.mono HB2.out.size)).trans (HB4.out.mono (Nat.le_trans HB2.out.size HB3.out.size))).trans (HB5.out.mono (Nat.le_trans (Nat.le_trans HB2.out.size HB3.out.size) HB4.out.size))) (by rw [← HTN.out]; exact HA.out.tab) (fun j hj => HA.out.own j (by rw [HTN.out]; exact hj)) HC1.out.size (Nat.le_trans HC1.out.size (Nat.le_succ _)) ((HB3.out.trans (HB4.out.mono HB3.out.size)).trans (HB5.out.mono (Nat.le_trans HB3.out.size HB4.out.size))) HO.out HC2.out.size (HB4.out.trans (HB5.out.mono HB4.out.size)) HP.out HC3.out.size HB5.out HM.out HC4.out.size (Below.refl _ _) HMZ.out (.inr (by have h2 : x3.heap.size ≤ x3.heap.size := Nat.le_refl _; omega)) (.inr (by have h2 : x2.heap.size ≤ x3.heap.size := HB3.out.size; omega)))
            clear HB1 HB2 HB3 HB4 HB5 HS HA HO HP HM HMZ HPZ
            refine wpAnyH_take (i := 14) (v := .agg #[.slice sa l.length sc, .slice (some ⟨x1.heap.size, 0, none⟩) l.length l.length, .slice oa ol.length oc, .slice (some ⟨x3.heap.size, 0, none⟩) l.length l.length, .slice none 0 0, .map (some x4.heap.size)]) rfl (by kernel_rfl) (by kernel_rfl) (by kernel_rfl) (fun _ _ _ h => h) (Or.inl ⟨by rfl, fun W hSW => ?_⟩) hHeld ?_
            · ((try dsimp only at hSW); go_split_ands; go_simp <;> with_reducible rfl)
            try simp only [List.getElem_toArray, List.getElem_cons_succ, List.getElem_cons_zero, Act.put, List.setIfInBounds_toArray, List.set_cons_zero, List.set_cons_succ]
            refine wpAnyH_ready (rs := [15]) (by kernel_rfl) (by simp) ?_
            refine AllReadyH.cons rfl (fun K hK => ?_) AllReadyH.nil
            try simp only [List.getElem_toArray, List.getElem_cons_succ, List.getElem_cons_zero]
            go_simp
            try go_wp2_with fail
            refine hK.out _ _ ?_ (fun hHeld => ?_)
            · exact beg_held ((Below.refl _ _).alloc (Nat.le_refl _) _) HBL5.out hHeld
            clear hK K
            try simp only [List.getElem_toArray, List.getElem_cons_succ, List.getElem_cons_zero, Act.put, List.setIfInBounds_toArray, List.set_cons_zero, List.set_cons_succ]
            refine wpAnyH_take (i := 16) (v := .pointer (some ⟨x5.heap.size, 0, none⟩)) rfl (by kernel_rfl) (by kernel_rfl) (by kernel_rfl) (fun _ _ _ h => h) (Or.inl ⟨by rfl, fun W hSW => ?_⟩) hHeld ?_
            · ((try dsimp only at hSW); go_split_ands; go_simp <;> with_reducible rfl)
            try simp only [List.getElem_toArray, List.getElem_cons_succ, List.getElem_cons_zero, Act.put, List.setIfInBounds_toArray, List.set_cons_zero, List.set_cons_succ]
            refine wpAnyH_done (by kernel_rfl) ?_ _
            clear hHeld
            go_wp2_with fail
            go_meet
            case rel => exact HF.out
          · skip
            try simp only [List.getElem_toArray, List.getElem_cons_succ, List.getElem_cons_zero]
            go_simp
            have HB4 := Lib.hid (show Below x3.heap.size x3 (x3.alloc (.map #[] 0)) from (Below.refl _ _).alloc (Nat.le_refl _) _)
            have HM := Lib.hid (set_new x3)
            have HMZ := Lib.hid (show x3.heap.size < (x3.alloc (.map #[] 0)).heap.size by simp)
            generalize (x3.alloc (.map #[] 0)) = x4 at HB4 HM HMZ ⊢
            try go_wp2_with fail
            refine hK.out _ _ ?_ (fun hHeld => ?_)
            · exact beg_held HB4.out HBL3.out hHeld
            clear hK K
            try simp only [List.getElem_toArray, List.getElem_cons_succ, List.getElem_cons_zero, Act.put, List.setIfInBounds_toArray, List.set_cons_zero, List.set_cons_succ]
            have HC4 := Lib.hid (HC3.out.trans (HB4.out.mono HC3.out.size))
            have HBL4 := Lib.hid (Nat.lt_of_lt_of_le HBL3.out HB4.out.size)
            refine wpAnyH_ready (rs := [11]) (by kernel_rfl) (by simp) ?_
            refine AllReadyH.cons rfl (fun K hK => ?_) AllReadyH.nil
            try simp only [List.getElem_toArray, List.getElem_cons_succ, List.getElem_cons_zero]
            go_simp
            have HB5 := Lib.hid (show Below x4.heap.size x4 (x4.alloc (.cells (madeCells #[.int .i64 0] l.length) 3)) from (Below.refl _ _).alloc (Nat.le_refl _) _)
            have HP := Lib.hid (zeros_row x4 x4.heap.size l.length (Nat.le_refl _) HLL.out)
            generalize (x4.alloc (.cells (madeCells #[.int .i64 0] l.length) 3)) = x5 at HB5 HP ⊢
            try go_wp2_with fail
            refine hK.out _ _ ?_ (fun hHeld => ?_)
            · exact beg_held HB5.out HBL4.out hHeld
            clear hK K
            try simp only [List.getElem_toArray, List.getElem_cons_succ, List.getElem_cons_zero, Act.put, List.setIfInBounds_toArray, List.set_cons_zero, List.set_cons_succ]
            have HC5 := Lib.hid (HC4.out.trans (HB5.out.mono HC4.out.size))
            have HBL5 := Lib.hid (Nat.lt_of_lt_of_le HBL4.out HB5.out.size)
            have HPZ := Lib.hid (show x4.heap.size < x5.heap.size from (HP.out.lt _ rfl).2)
            have HF := Lib.hid (begq_mk HC5.out (by rw [List.length_map]; exact HS.out) HC0.out.size (((HB2.out.trans (HB3.out.mono HB2.out.size)).trans (HB4.out.mono (Nat.le_trans HB2.out.size HB3.out.size))).trans (HB5.out.mono (Nat.le_trans (Nat.le_trans HB2.out.size HB3.out.size) HB4.out.size))) (by rw [← HTN.out]; exact HA.out.tab) (fun j hj => HA.out.own j (by rw [HTN.out]; exact hj)) HC1.out.size (Nat.le_trans HC1.out.size (Nat.le_succ _)) ((HB3.out.trans (HB4.out.mono HB3.out.size)).trans (HB5.out.mono (Nat.le_trans HB3.out.size HB4.out.size))) HO.out HC2.out.size (HB4.out.trans (HB5.out.mono HB4.out.size)) HP.out HC4.out.size (Below.refl _ _) HM.out HC3.out.size HB5.out HMZ.out (.inr (by have h2 : x3.heap.size ≤ x4.heap.size := HB4.out.size; omega)) (.inr (by have h2 : x2.heap.size ≤ x4.heap.size := (HB3.out.trans (HB4.out.mono HB3.out.size)).size; omega)))
            clear HB1 HB2 HB3 HB4 HB5 HS HA HO HP HM HMZ HPZ
            refine wpAnyH_take (i := 14) (v := .agg #[.slice sa l.length sc, .slice (some ⟨x1.heap.size, 0, none⟩) l.length l.length, .slice oa ol.length oc, .slice (some ⟨x4.heap.size, 0, none⟩) l.length l.length, .slice none 0 0, .map (some x3.heap.size)]) rfl (by kernel_rfl) (by kernel_rfl) (by kernel_rfl) (fun _ _ _ h => h) (Or.inl ⟨by rfl, fun W hSW => ?_⟩) hHeld ?_
            · ((try dsimp only at hSW); go_split_ands; go_simp <;> with_reducible rfl)
            try simp only [List.getElem_toArray, List.getElem_cons_succ, List.getElem_cons_zero, Act.put, List.setIfInBounds_toArray, List.set_cons_zero, List.set_cons_succ]
            refine wpAnyH_ready (rs := [15]) (by kernel_rfl) (by simp) ?_
            refine AllReadyH.cons rfl (fun K hK => ?_) AllReadyH.nil
            try simp only [List.getElem_toArray, List.getElem_cons_succ, List.getElem_cons_zero]
            go_simp
            try go_wp2_with fail
            refine hK.out _ _ ?_ (fun hHeld => ?_)
            · exact beg_held ((Below.refl _ _).alloc (Nat.le_refl _) _) HBL5.out hHeld
            clear hK K
            try simp only [List.getElem_toArray, List.getElem_cons_succ, List.getElem_cons_zero, Act.put, List.setIfInBounds_toArray, List.set_cons_zero, List.set_cons_succ]
            refine wpAnyH_take (i := 16) (v := .pointer (some ⟨x5.heap.size, 0, none⟩)) rfl (by kernel_rfl) (by kernel_rfl) (by kernel_rfl) (fun _ _ _ h => h) (Or.inl ⟨by rfl, fun W hSW => ?_⟩) hHeld ?_
            · ((try dsimp only at hSW); go_split_ands; go_simp <;> with_reducible rfl)
            try simp only [List.getElem_toArray, List.getElem_cons_succ, List.getElem_cons_zero, Act.put, List.setIfInBounds_toArray, List.set_cons_zero, List.set_cons_succ]
            refine wpAnyH_done (by kernel_rfl) ?_ _
            clear hHeld
            go_wp2_with fail
            go_meet
            case rel => exact HF.out
        · skip
          try simp only [List.getElem_toArray, List.getElem_cons_succ, List.getElem_cons_zero]
          go_simp
          have HB3 := Lib.hid (show Below x2.heap.size x2 (x2.alloc (.cells (madeCells #[.int .i64 0] l.length) 3)) from (Below.refl _ _).alloc (Nat.le_refl _) _)
          have HP := Lib.hid (zeros_row x2 x2.heap.size l.length (Nat.le_refl _) HLL.out)
          generalize (x2.alloc (.cells (madeCells #[.int .i64 0] l.length) 3)) = x3 at HB3 HP ⊢
          try go_wp2_with fail
          refine hK.out _ _ ?_ (fun hHeld => ?_)
          · exact beg_held HB3.out HBL2.out hHeld
          clear hK K
          try simp only [List.getElem_toArray, List.getElem_cons_succ, List.getElem_cons_zero, Act.put, List.setIfInBounds_toArray, List.set_cons_zero, List.set_cons_succ]
          have HC3 := Lib.hid (HC2.out.trans (HB3.out.mono HC2.out.size))
          have HBL3 := Lib.hid (Nat.lt_of_lt_of_le HBL2.out HB3.out.size)
          refine wpAnyH_ready (rs := [9, 13]) (by kernel_rfl) (by simp) ?_
          refine AllReadyH.cons rfl (fun K hK => ?_) (AllReadyH.cons rfl (fun K hK => ?_) AllReadyH.nil)
          · skip
            try simp only [List.getElem_toArray, List.getElem_cons_succ, List.getElem_cons_zero]
            go_simp
            (go_at_call 19; refine (order_anyS _ HTL.out HTM.out HTI.out ((HG.out.below HC3.out).mono HC3.out.size)).mono ?_; rintro e x4 ⟨ov, rfl, hs4, hb4⟩; rewrite [← HOE.out, ← HON.out] at hs4; obtain ⟨oa, oc, rfl⟩ := SS.ownOf hs4; have HO := Lib.hid hs4; have HB4 := Lib.hid hb4; clear hs4 hb4)
            try go_wp2_with fail
            refine hK.out _ _ ?_ (fun hHeld => ?_)
            · exact beg_held HB4.out HBL3.out hHeld
            clear hK K
            try simp only [List.getElem_toArray, List.getElem_cons_succ, List.getElem_cons_zero, Act.put, List.setIfInBounds_toArray, List.set_cons_zero, List.set_cons_succ]
            have HC4 := Lib.hid (HC3.out.trans (HB4.out.mono HC3.out.size))
            have HBL4 := Lib.hid (Nat.lt_of_lt_of_le HBL3.out HB4.out.size)
            refine wpAnyH_ready (rs := [13]) (by kernel_rfl) (by simp) ?_
            refine AllReadyH.cons rfl (fun K hK => ?_) AllReadyH.nil
            try simp only [List.getElem_toArray, List.getElem_cons_succ, List.getElem_cons_zero]
            go_simp
            have HB5 := Lib.hid (show Below x4.heap.size x4 (x4.alloc (.map #[] 0)) from (Below.refl _ _).alloc (Nat.le_refl _) _)
            have HM := Lib.hid (set_new x4)
            have HMZ := Lib.hid (show x4.heap.size < (x4.alloc (.map #[] 0)).heap.size by simp)
            generalize (x4.alloc (.map #[] 0)) = x5 at HB5 HM HMZ ⊢
            try go_wp2_with fail
            refine hK.out _ _ ?_ (fun hHeld => ?_)
            · exact beg_held HB5.out HBL4.out hHeld
            clear hK K
            try simp only [List.getElem_toArray, List.getElem_cons_succ, List.getElem_cons_zero, Act.put, List.setIfInBounds_toArray, List.set_cons_zero, List.set_cons_succ]
            have HC5 := Lib.hid (HC4.out.trans (HB5.out.mono HC4.out.size))
            have HBL5 := Lib.hid (Nat.lt_of_lt_of_le HBL4.out HB5.out.size)
            have HPZ := Lib.hid (show x2.heap.size < x3.heap.size from (HP.out.lt _ rfl).2)
            have HF := Lib.hid (begq_mk HC5.out (by rw [List.length_map]; exact HS.out) HC0.out.size (((HB2.out.trans (HB3.out.mono HB2.out.size)).trans (HB4.out.mono (Nat.le_trans HB2.out.size HB3.out.size))).trans (HB5.out.mono (Nat.le_trans (Nat.le_trans HB2.out.size HB3.out.size) HB4.out.size))) (by rw [← HTN.out]; exact HA.out.tab) (fun j hj => HA.out.own j (by rw [HTN.out]; exact hj)) HC1.out.size (Nat.le_trans HC1.out.size (Nat.le_succ _)) ((HB3.out.trans (HB4.out.mono HB3.out.size)).trans (HB5.out.mono (Nat.le_trans HB3.out.size HB4.out.size))) HO.out HC3.out.size HB5.out HP.out HC2.out.size (HB4.out.trans (HB5.out.mono HB4.out.size)) HM.out HC4.out.size (Below.refl _ _) HMZ.out (.inl (by have h1 := HPZ.out; have h2 : x3.heap.size ≤ x3.heap.size := Nat.le_refl _; omega)) (.inr (by have h2 : x2.heap.size ≤ x2.heap.size := Nat.le_refl _; omega)))
            clear HB1 HB2 HB3 HB4 HB5 HS HA HO HP HM HMZ HPZ
            refine wpAnyH_take (i := 14) (v := .agg #[.slice sa l.length sc, .slice (some ⟨x1.heap.size, 0, none⟩) l.length l.length, .slice oa ol.length oc, .slice (some ⟨x2.heap.size, 0, none⟩) l.length l.length, .slice none 0 0, .map (some x4.heap.size)]) rfl (by kernel_rfl) (by kernel_rfl) (by kernel_rfl) (fun _ _ _ h => h) (Or.inl ⟨by rfl, fun W hSW => ?_⟩) hHeld ?_
            · ((try dsimp only at hSW); go_split_ands; go_simp <;> with_reducible rfl)
            try simp only [List.getElem_toArray, List.getElem_cons_succ, List.getElem_cons_zero, Act.put, List.setIfInBounds_toArray, List.set_cons_zero, List.set_cons_succ]
            refine wpAnyH_ready (rs := [15]) (by kernel_rfl) (by simp) ?_
            refine AllReadyH.cons rfl (fun K hK => ?_) AllReadyH.nil
            try simp only [List.getElem_toArray, List.getElem_cons_succ, List.getElem_cons_zero]
            go_simp
            try go_wp2_with fail
            refine hK.out _ _ ?_ (fun hHeld => ?_)
            · exact beg_held ((Below.refl _ _).alloc (Nat.le_refl _) _) HBL5.out hHeld
            clear hK K
            try simp only [List.getElem_toArray, List.getElem_cons_succ, List.getElem_cons_zero, Act.put, List.setIfInBounds_toArray, List.set_cons_zero, List.set_cons_succ]
            refine wpAnyH_take (i := 16) (v := .pointer (some ⟨x5.heap.size, 0, none⟩)) rfl (by kernel_rfl) (by kernel_rfl) (by kernel_rfl) (fun _ _ _ h => h) (Or.inl ⟨by rfl, fun W hSW => ?_⟩) hHeld ?_
            · ((try dsimp only at hSW); go_split_ands; go_simp <;> with_reducible rfl)
            try simp only [List.getElem_toArray, List.getElem_cons_succ, List.getElem_cons_zero, Act.put, List.setIfInBounds_toArray, List.set_cons_zero, List.set_cons_succ]
            refine wpAnyH_done (by kernel_rfl) ?_ _
            clear hHeld
            go_wp2_with fail
            go_meet
            case rel => exact HF.out
          · skip
            try simp only [List.getElem_toArray, List.getElem_cons_succ, List.getElem_cons_zero]
            go_simp
            have HB4 := Lib.hid (show Below x3.heap.size x3 (x3.alloc (.map #[] 0)) from (Below.refl _ _).alloc (Nat.le_refl _) _)
            have HM := Lib.hid (set_new x3)
            have HMZ := Lib.hid (show x3.heap.size < (x3.alloc (.map #[] 0)).heap.size by simp)
            generalize (x3.alloc (.map #[] 0)) = x4 at HB4 HM HMZ ⊢
            try go_wp2_with fail
            refine hK.out _ _ ?_ (fun hHeld => ?_)
            · exact beg_held HB4.out HBL3.out hHeld
            clear hK K
            try simp only [List.getElem_toArray, List.getElem_cons_succ, List.getElem_cons_zero, Act.put, List.setIfInBounds_toArray, List.set_cons_zero, List.set_cons_succ]
            have HC4 := Lib.hid (HC3.out.trans (HB4.out.mono HC3.out.size))
            have HBL4 := Lib.hid (Nat.lt_of_lt_of_le HBL3.out HB4.out.size)
            refine wpAnyH_ready (rs := [9]) (by kernel_rfl) (by simp) ?_
            refine AllReadyH.cons rfl (fun K hK => ?_) AllReadyH.nil
            try simp only [List.getElem_toArray, List.getElem_cons_succ, List.getElem_cons_zero]
            go_simp
            (go_at_call 19; refine (order_anyS _ HTL.out HTM.out HTI.out ((HG.out.below HC4.out).mono HC4.out.size)).mono ?_; rintro e x5 ⟨ov, rfl, hs5, hb5⟩; rewrite [← HOE.out, ← HON.out] at hs5; obtain ⟨oa, oc, rfl⟩ := SS.ownOf hs5; have HO := Lib.hid hs5; have HB5 := Lib.hid hb5; clear hs5 hb5)
            try go_wp2_with fail
            refine hK.out _ _ ?_ (fun hHeld => ?_)
            · exact beg_held HB5.out HBL4.out hHeld
            clear hK K
            try simp only [List.getElem_toArray, List.getElem_cons_succ, List.getElem_cons_zero, Act.put, List.setIfInBounds_toArray, List.set_cons_zero, List.set_cons_succ]
            have HC5 := Lib.hid (HC4.out.trans (HB5.out.mono HC4.out.size))
            have HBL5 := Lib.hid (Nat.lt_of_lt_of_le HBL4.out HB5.out.size)
            have HPZ := Lib.hid (show x2.heap.size < x3.heap.size from (HP.out.lt _ rfl).2)
            have HF := Lib.hid (begq_mk HC5.out (by rw [List.length_map]; exact HS.out) HC0.out.size (((HB2.out.trans (HB3.out.mono HB2.out.size)).trans (HB4.out.mono (Nat.le_trans HB2.out.size HB3.out.size))).trans (HB5.out.mono (Nat.le_trans (Nat.le_trans HB2.out.size HB3.out.size) HB4.out.size))) (by rw [← HTN.out]; exact HA.out.tab) (fun j hj => HA.out.own j (by rw [HTN.out]; exact hj)) HC1.out.size (Nat.le_trans HC1.out.size (Nat.le_succ _)) ((HB3.out.trans (HB4.out.mono HB3.out.size)).trans (HB5.out.mono (Nat.le_trans HB3.out.size HB4.out.size))) HO.out HC4.out.size (Below.refl _ _) HP.out HC2.out.size (HB4.out.trans (HB5.out.mono HB4.out.size)) HM.out HC3.out.size HB5.out HMZ.out (.inl (by have h1 := HPZ.out; have h2 : x3.heap.size ≤ x4.heap.size := HB4.out.size; omega)) (.inr (by have h2 : x2.heap.size ≤ x2.heap.size := Nat.le_refl _; omega)))
            clear HB1 HB2 HB3 HB4 HB5 HS HA HO HP HM HMZ HPZ
            refine wpAnyH_take (i := 14) (v := .agg #[.slice sa l.length sc, .slice (some ⟨x1.heap.size, 0, none⟩) l.length l.length, .slice oa ol.length oc, .slice (some ⟨x2.heap.size, 0, none⟩) l.length l.length, .slice none 0 0, .map (some x3.heap.size)]) rfl (by kernel_rfl) (by kernel_rfl) (by kernel_rfl) (fun _ _ _ h => h) (Or.inl ⟨by rfl, fun W hSW => ?_⟩) hHeld ?_
            · ((try dsimp only at hSW); go_split_ands; go_simp <;> with_reducible rfl)
            try simp only [List.getElem_toArray, List.getElem_cons_succ, List.getElem_cons_zero, Act.put, List.setIfInBounds_toArray, List.set_cons_zero, List.set_cons_succ]
            refine wpAnyH_ready (rs := [15]) (by kernel_rfl) (by simp) ?_
            refine AllReadyH.cons rfl (fun K hK => ?_) AllReadyH.nil
            try simp only [List.getElem_toArray, List.getElem_cons_succ, List.getElem_cons_zero]
            go_simp
            try go_wp2_with fail
            refine hK.out _ _ ?_ (fun hHeld => ?_)
            · exact beg_held ((Below.refl _ _).alloc (Nat.le_refl _) _) HBL5.out hHeld
            clear hK K
            try simp only [List.getElem_toArray, List.getElem_cons_succ, List.getElem_cons_zero, Act.put, List.setIfInBounds_toArray, List.set_cons_zero, List.set_cons_succ]
            refine wpAnyH_take (i := 16) (v := .pointer (some ⟨x5.heap.size, 0, none⟩)) rfl (by kernel_rfl) (by kernel_rfl) (by kernel_rfl) (fun _ _ _ h => h) (Or.inl ⟨by rfl, fun W hSW => ?_⟩) hHeld ?_
            · ((try dsimp only at hSW); go_split_ands; go_simp <;> with_reducible rfl)
            try simp only [List.getElem_toArray, List.getElem_cons_succ, List.getElem_cons_zero, Act.put, List.setIfInBounds_toArray, List.set_cons_zero, List.set_cons_succ]
            refine wpAnyH_done (by kernel_rfl) ?_ _
            clear hHeld
            go_wp2_with fail
            go_meet
            case rel => exact HF.out
        · skip
          try simp only [List.getElem_toArray, List.getElem_cons_succ, List.getElem_cons_zero]
          go_simp
          have HB3 := Lib.hid (show Below x2.heap.size x2 (x2.alloc (.map #[] 0)) from (Below.refl _ _).alloc (Nat.le_refl _) _)
          have HM := Lib.hid (set_new x2)
          have HMZ := Lib.hid (show x2.heap.size < (x2.alloc (.map #[] 0)).heap.size by simp)
          generalize (x2.alloc (.map #[] 0)) = x3 at HB3 HM HMZ ⊢
          try go_wp2_with fail
          refine hK.out _ _ ?_ (fun hHeld => ?_)
          · exact beg_held HB3.out HBL2.out hHeld
          clear hK K
          try simp only [List.getElem_toArray, List.getElem_cons_succ, List.getElem_cons_zero, Act.put, List.setIfInBounds_toArray, List.set_cons_zero, List.set_cons_succ]
          have HC3 := Lib.hid (HC2.out.trans (HB3.out.mono HC2.out.size))
          have HBL3 := Lib.hid (Nat.lt_of_lt_of_le HBL2.out HB3.out.size)
          refine wpAnyH_ready (rs := [9, 11]) (by kernel_rfl) (by simp) ?_
          refine AllReadyH.cons rfl (fun K hK => ?_) (AllReadyH.cons rfl (fun K hK => ?_) AllReadyH.nil)
          · skip
            try simp only [List.getElem_toArray, List.getElem_cons_succ, List.getElem_cons_zero]
            go_simp
            (go_at_call 19; refine (order_anyS _ HTL.out HTM.out HTI.out ((HG.out.below HC3.out).mono HC3.out.size)).mono ?_; rintro e x4 ⟨ov, rfl, hs4, hb4⟩; rewrite [← HOE.out, ← HON.out] at hs4; obtain ⟨oa, oc, rfl⟩ := SS.ownOf hs4; have HO := Lib.hid hs4; have HB4 := Lib.hid hb4; clear hs4 hb4)
            try go_wp2_with fail
            refine hK.out _ _ ?_ (fun hHeld => ?_)
            · exact beg_held HB4.out HBL3.out hHeld
            clear hK K
            try simp only [List.getElem_toArray, List.getElem_cons_succ, List.getElem_cons_zero, Act.put, List.setIfInBounds_toArray, List.set_cons_zero, List.set_cons_succ]
            have HC4 := Lib.hid (HC3.out.trans (HB4.out.mono HC3.out.size))
            have HBL4 := Lib.hid (Nat.lt_of_lt_of_le HBL3.out HB4.out.size)
            refine wpAnyH_ready (rs := [11]) (by kernel_rfl) (by simp) ?_
            refine AllReadyH.cons rfl (fun K hK => ?_) AllReadyH.nil
            try simp only [List.getElem_toArray, List.getElem_cons_succ, List.getElem_cons_zero]
            go_simp
            have HB5 := Lib.hid (show Below x4.heap.size x4 (x4.alloc (.cells (madeCells #[.int .i64 0] l.length) 3)) from (Below.refl _ _).alloc (Nat.le_refl _) _)
            have HP := Lib.hid (zeros_row x4 x4.heap.size l.length (Nat.le_refl _) HLL.out)
            generalize (x4.alloc (.cells (madeCells #[.int .i64 0] l.length) 3)) = x5 at HB5 HP ⊢
            try go_wp2_with fail
            refine hK.out _ _ ?_ (fun hHeld => ?_)
            · exact beg_held HB5.out HBL4.out hHeld
            clear hK K
            try simp only [List.getElem_toArray, List.getElem_cons_succ, List.getElem_cons_zero, Act.put, List.setIfInBounds_toArray, List.set_cons_zero, List.set_cons_succ]
            have HC5 := Lib.hid (HC4.out.trans (HB5.out.mono HC4.out.size))
            have HBL5 := Lib.hid (Nat.lt_of_lt_of_le HBL4.out HB5.out.size)
            have HPZ := Lib.hid (show x4.heap.size < x5.heap.size from (HP.out.lt _ rfl).2)
            have HF := Lib.hid (begq_mk HC5.out (by rw [List.length_map]; exact HS.out) HC0.out.size (((HB2.out.trans (HB3.out.mono HB2.out.size)).trans (HB4.out.mono (Nat.le_trans HB2.out.size HB3.out.size))).trans (HB5.out.mono (Nat.le_trans (Nat.le_trans HB2.out.size HB3.out.size) HB4.out.size))) (by rw [← HTN.out]; exact HA.out.tab) (fun j hj => HA.out.own j (by rw [HTN.out]; exact hj)) HC1.out.size (Nat.le_trans HC1.out.size (Nat.le_succ _)) ((HB3.out.trans (HB4.out.mono HB3.out.size)).trans (HB5.out.mono (Nat.le_trans HB3.out.size HB4.out.size))) HO.out HC3.out.size HB5.out HP.out HC4.out.size (Below.refl _ _) HM.out HC2.out.size (HB4.out.trans (HB5.out.mono HB4.out.size)) HMZ.out (.inr (by have h2 : x4.heap.size ≤ x4.heap.size := Nat.le_refl _; omega)) (.inr (by have h2 : x2.heap.size ≤ x4.heap.size := (HB3.out.trans (HB4.out.mono HB3.out.size)).size; omega)))
            clear HB1 HB2 HB3 HB4 HB5 HS HA HO HP HM HMZ HPZ
            refine wpAnyH_take (i := 14) (v := .agg #[.slice sa l.length sc, .slice (some ⟨x1.heap.size, 0, none⟩) l.length l.length, .slice oa ol.length oc, .slice (some ⟨x4.heap.size, 0, none⟩) l.length l.length, .slice none 0 0, .map (some x2.heap.size)]) rfl (by kernel_rfl) (by kernel_rfl) (by kernel_rfl) (fun _ _ _ h => h) (Or.inl ⟨by rfl, fun W hSW => ?_⟩) hHeld ?_
            · ((try dsimp only at hSW); go_split_ands; go_simp <;> with_reducible rfl)
            try simp only [List.getElem_toArray, List.getElem_cons_succ, List.getElem_cons_zero, Act.put, List.setIfInBounds_toArray, List.set_cons_zero, List.set_cons_succ]
            refine wpAnyH_ready (rs := [15]) (by kernel_rfl) (by simp) ?_
            refine AllReadyH.cons rfl (fun K hK => ?_) AllReadyH.nil
            try simp only [List.getElem_toArray, List.getElem_cons_succ, List.getElem_cons_zero]
            go_simp
            try go_wp2_with fail
            refine hK.out _ _ ?_ (fun hHeld => ?_)
            · exact beg_held ((Below.refl _ _).alloc (Nat.le_refl _) _) HBL5.out hHeld
            clear hK K
            try simp only [List.getElem_toArray, List.getElem_cons_succ, List.getElem_cons_zero, Act.put, List.setIfInBounds_toArray, List.set_cons_zero, List.set_cons_succ]
            refine wpAnyH_take (i := 16) (v := .pointer (some ⟨x5.heap.size, 0, none⟩)) rfl (by kernel_rfl) (by kernel_rfl) (by kernel_rfl) (fun _ _ _ h => h) (Or.inl ⟨by rfl, fun W hSW => ?_⟩) hHeld ?_
            · ((try dsimp only at hSW); go_split_ands; go_simp <;> with_reducible rfl)
            try simp only [List.getElem_toArray, List.getElem_cons_succ, List.getElem_cons_zero, Act.put, List.setIfInBounds_toArray, List.set_cons_zero, List.set_cons_succ]
            refine wpAnyH_done (by kernel_rfl) ?_ _
            clear hHeld
            go_wp2_with fail
            go_meet
            case rel => exact HF.out
          · skip
            try simp only [List.getElem_toArray, List.getElem_cons_succ, List.getElem_cons_zero]
            go_simp
            have HB4 := Lib.hid (show Below x3.heap.size x3 (x3.alloc (.cells (madeCells #[.int .i64 0] l.length) 3)) from (Below.refl _ _).alloc (Nat.le_refl _) _)
            have HP := Lib.hid (zeros_row x3 x3.heap.size l.length (Nat.le_refl _) HLL.out)
            generalize (x3.alloc (.cells (madeCells #[.int .i64 0] l.length) 3)) = x4 at HB4 HP ⊢
            try go_wp2_with fail
            refine hK.out _ _ ?_ (fun hHeld => ?_)
            · exact beg_held HB4.out HBL3.out hHeld
            clear hK K
            try simp only [List.getElem_toArray, List.getElem_cons_succ, List.getElem_cons_zero, Act.put, List.setIfInBounds_toArray, List.set_cons_zero, List.set_cons_succ]
            have HC4 := Lib.hid (HC3.out.trans (HB4.out.mono HC3.out.size))
            have HBL4 := Lib.hid (Nat.lt_of_lt_of_le HBL3.out HB4.out.size)
            refine wpAnyH_ready (rs := [9]) (by kernel_rfl) (by simp) ?_
            refine AllReadyH.cons rfl (fun K hK => ?_) AllReadyH.nil
            try simp only [List.getElem_toArray, List.getElem_cons_succ, List.getElem_cons_zero]
            go_simp
            (go_at_call 19; refine (order_anyS _ HTL.out HTM.out HTI.out ((HG.out.below HC4.out).mono HC4.out.size)).mono ?_; rintro e x5 ⟨ov, rfl, hs5, hb5⟩; rewrite [← HOE.out, ← HON.out] at hs5; obtain ⟨oa, oc, rfl⟩ := SS.ownOf hs5; have HO := Lib.hid hs5; have HB5 := Lib.hid hb5; clear hs5 hb5)
            try go_wp2_with fail
            refine hK.out _ _ ?_ (fun hHeld => ?_)
            · exact beg_held HB5.out HBL4.out hHeld
            clear hK K
            try simp only [List.getElem_toArray, List.getElem_cons_succ, List.getElem_cons_zero, Act.put, List.setIfInBounds_toArray, List.set_cons_zero, List.set_cons_succ]
            have HC5 := Lib.hid (HC4.out.trans (HB5.out.mono HC4.out.size))
            have HBL5 := Lib.hid (Nat.lt_of_lt_of_le HBL4.out HB5.out.size)
            have HPZ := Lib.hid (show x3.heap.size < x4.heap.size from (HP.out.lt _ rfl).2)
            have HF := Lib.hid (begq_mk HC5.out (by rw [List.length_map]; exact HS.out) HC0.out.size (((HB2.out.trans (HB3.out.mono HB2.out.size)).trans (HB4.out.mono (Nat.le_trans HB2.out.size HB3.out.size))).trans (HB5.out.mono (Nat.le_trans (Nat.le_trans HB2.out.size HB3.out.size) HB4.out.size))) (by rw [← HTN.out]; exact HA.out.tab) (fun j hj => HA.out.own j (by rw [HTN.out]; exact hj)) HC1.out.size (Nat.le_trans HC1.out.size (Nat.le_succ _)) ((HB3.out.trans (HB4.out.mono HB3.out.size)).trans (HB5.out.mono (Nat.le_trans HB3.out.size HB4.out.size))) HO.out HC4.out.size (Below.refl _ _) HP.out HC3.out.size HB5.out HM.out HC2.out.size (HB4.out.trans (HB5.out.mono HB4.out.size)) HMZ.out (.inl (by have h1 := HPZ.out; have h2 : x4.heap.size ≤ x4.heap.size := Nat.le_refl _; omega)) (.inr (by have h2 : x2.heap.size ≤ x3.heap.size := HB3.out.size; omega)))
            clear HB1 HB2 HB3 HB4 HB5 HS HA HO HP HM HMZ HPZ
            refine wpAnyH_take (i := 14) (v := .agg #[.slice sa l.length sc, .slice (some ⟨x1.heap.size, 0, none⟩) l.length l.length, .slice oa ol.length oc, .slice (some ⟨x3.heap.size, 0, none⟩) l.length l.length, .slice none 0 0, .map (some x2.heap.size)]) rfl (by kernel_rfl) (by kernel_rfl) (by kernel_rfl) (fun _ _ _ h => h) (Or.inl ⟨by rfl, fun W hSW => ?_⟩) hHeld ?_
            · ((try dsimp only at hSW); go_split_ands; go_simp <;> with_reducible rfl)
            try simp only [List.getElem_toArray, List.getElem_cons_succ, List.getElem_cons_zero, Act.put, List.setIfInBounds_toArray, List.set_cons_zero, List.set_cons_succ]
            refine wpAnyH_ready (rs := [15]) (by kernel_rfl) (by simp) ?_
            refine AllReadyH.cons rfl (fun K hK => ?_) AllReadyH.nil
            try simp only [List.getElem_toArray, List.getElem_cons_succ, List.getElem_cons_zero]
            go_simp
            try go_wp2_with fail
            refine hK.out _ _ ?_ (fun hHeld => ?_)
            · exact beg_held ((Below.refl _ _).alloc (Nat.le_refl _) _) HBL5.out hHeld
            clear hK K
            try simp only [List.getElem_toArray, List.getElem_cons_succ, List.getElem_cons_zero, Act.put, List.setIfInBounds_toArray, List.set_cons_zero, List.set_cons_succ]
            refine wpAnyH_take (i := 16) (v := .pointer (some ⟨x5.heap.size, 0, none⟩)) rfl (by kernel_rfl) (by kernel_rfl) (by kernel_rfl) (fun _ _ _ h => h) (Or.inl ⟨by rfl, fun W hSW => ?_⟩) hHeld ?_
            · ((try dsimp only at hSW); go_split_ands; go_simp <;> with_reducible rfl)
            try simp only [List.getElem_toArray, List.getElem_cons_succ, List.getElem_cons_zero, Act.put, List.setIfInBounds_toArray, List.set_cons_zero, List.set_cons_succ]
            refine wpAnyH_done (by kernel_rfl) ?_ _
            clear hHeld
            go_wp2_with fail
            go_meet
            case rel => exact HF.out
      · skip
        try simp only [List.getElem_toArray, List.getElem_cons_succ, List.getElem_cons_zero]
        go_simp
        have HB2 := Lib.hid (show Below x1.heap.size x1 (x1.alloc (.cells (madeCells #[.int .i64 0] l.length) 3)) from (Below.refl _ _).alloc (Nat.le_refl _) _)
        have HP := Lib.hid (zeros_row x1 x1.heap.size l.length (Nat.le_refl _) HLL.out)
        generalize (x1.alloc (.cells (madeCells #[.int .i64 0] l.length) 3)) = x2 at HB2 HP ⊢
        try go_wp2_with fail
        refine hK.out _ _ ?_ (fun hHeld => ?_)
        · exact beg_held HB2.out HBL1.out hHeld
        clear hK K
        try simp only [List.getElem_toArray, List.getElem_cons_succ, List.getElem_cons_zero, Act.put, List.setIfInBounds_toArray, List.set_cons_zero, List.set_cons_succ]
        have HC2 := Lib.hid (HC1.out.trans (HB2.out.mono HC1.out.size))
        have HBL2 := Lib.hid (Nat.lt_of_lt_of_le HBL1.out HB2.out.size)
        refine wpAnyH_ready (rs := [6, 13]) (by kernel_rfl) (by simp) ?_
        refine AllReadyH.cons rfl (fun K hK => ?_) (AllReadyH.cons rfl (fun K hK => ?_) AllReadyH.nil)
        · skip
          try simp only [List.getElem_toArray, List.getElem_cons_succ, List.getElem_cons_zero]
          go_simp
          (go_at_call 18; refine (askers_any _ ((HG.out.below HC2.out).mono HC2.out.size) HTL.out HTM.out HTI.out).mono ?_; rintro e x3 ⟨rfl, vs, hs3⟩; rewrite [HTN.out]; have HA := Lib.hid hs3; have HB3 := Lib.hid hs3.below; clear hs3)
          try go_wp2_with fail
          refine hK.out _ _ ?_ (fun hHeld => ?_)
          · exact beg_held HB3.out HBL2.out hHeld
          clear hK K
          try simp only [List.getElem_toArray, List.getElem_cons_succ, List.getElem_cons_zero, Act.put, List.setIfInBounds_toArray, List.set_cons_zero, List.set_cons_succ]
          have HC3 := Lib.hid (HC2.out.trans (HB3.out.mono HC2.out.size))
          have HBL3 := Lib.hid (Nat.lt_of_lt_of_le HBL2.out HB3.out.size)
          refine wpAnyH_ready (rs := [9, 13]) (by kernel_rfl) (by simp) ?_
          refine AllReadyH.cons rfl (fun K hK => ?_) (AllReadyH.cons rfl (fun K hK => ?_) AllReadyH.nil)
          · skip
            try simp only [List.getElem_toArray, List.getElem_cons_succ, List.getElem_cons_zero]
            go_simp
            (go_at_call 19; refine (order_anyS _ HTL.out HTM.out HTI.out ((HG.out.below HC3.out).mono HC3.out.size)).mono ?_; rintro e x4 ⟨ov, rfl, hs4, hb4⟩; rewrite [← HOE.out, ← HON.out] at hs4; obtain ⟨oa, oc, rfl⟩ := SS.ownOf hs4; have HO := Lib.hid hs4; have HB4 := Lib.hid hb4; clear hs4 hb4)
            try go_wp2_with fail
            refine hK.out _ _ ?_ (fun hHeld => ?_)
            · exact beg_held HB4.out HBL3.out hHeld
            clear hK K
            try simp only [List.getElem_toArray, List.getElem_cons_succ, List.getElem_cons_zero, Act.put, List.setIfInBounds_toArray, List.set_cons_zero, List.set_cons_succ]
            have HC4 := Lib.hid (HC3.out.trans (HB4.out.mono HC3.out.size))
            have HBL4 := Lib.hid (Nat.lt_of_lt_of_le HBL3.out HB4.out.size)
            refine wpAnyH_ready (rs := [13]) (by kernel_rfl) (by simp) ?_
            refine AllReadyH.cons rfl (fun K hK => ?_) AllReadyH.nil
            try simp only [List.getElem_toArray, List.getElem_cons_succ, List.getElem_cons_zero]
            go_simp
            have HB5 := Lib.hid (show Below x4.heap.size x4 (x4.alloc (.map #[] 0)) from (Below.refl _ _).alloc (Nat.le_refl _) _)
            have HM := Lib.hid (set_new x4)
            have HMZ := Lib.hid (show x4.heap.size < (x4.alloc (.map #[] 0)).heap.size by simp)
            generalize (x4.alloc (.map #[] 0)) = x5 at HB5 HM HMZ ⊢
            try go_wp2_with fail
            refine hK.out _ _ ?_ (fun hHeld => ?_)
            · exact beg_held HB5.out HBL4.out hHeld
            clear hK K
            try simp only [List.getElem_toArray, List.getElem_cons_succ, List.getElem_cons_zero, Act.put, List.setIfInBounds_toArray, List.set_cons_zero, List.set_cons_succ]
            have HC5 := Lib.hid (HC4.out.trans (HB5.out.mono HC4.out.size))
            have HBL5 := Lib.hid (Nat.lt_of_lt_of_le HBL4.out HB5.out.size)
            have HPZ := Lib.hid (show x1.heap.size < x2.heap.size from (HP.out.lt _ rfl).2)
            have HF := Lib.hid (begq_mk HC5.out (by rw [List.length_map]; exact HS.out) HC0.out.size (((HB2.out.trans (HB3.out.mono HB2.out.size)).trans (HB4.out.mono (Nat.le_trans HB2.out.size HB3.out.size))).trans (HB5.out.mono (Nat.le_trans (Nat.le_trans HB2.out.size HB3.out.size) HB4.out.size))) (by rw [← HTN.out]; exact HA.out.tab) (fun j hj => HA.out.own j (by rw [HTN.out]; exact hj)) HC2.out.size (Nat.le_trans HC2.out.size (Nat.le_succ _)) (HB4.out.trans (HB5.out.mono HB4.out.size)) HO.out HC3.out.size HB5.out HP.out HC1.out.size ((HB3.out.trans (HB4.out.mono HB3.out.size)).trans (HB5.out.mono (Nat.le_trans HB3.out.size HB4.out.size))) HM.out HC4.out.size (Below.refl _ _) HMZ.out (.inl (by have h1 := HPZ.out; have h2 : x2.heap.size ≤ x3.heap.size := HB3.out.size; omega)) (.inl (by have h1 := HPZ.out; have h2 : x2.heap.size ≤ x2.heap.size := Nat.le_refl _; omega)))
            clear HB1 HB2 HB3 HB4 HB5 HS HA HO HP HM HMZ HPZ
            refine wpAnyH_take (i := 14) (v := .agg #[.slice sa l.length sc, .slice (some ⟨x2.heap.size, 0, none⟩) l.length l.length, .slice oa ol.length oc, .slice (some ⟨x1.heap.size, 0, none⟩) l.length l.length, .slice none 0 0, .map (some x4.heap.size)]) rfl (by kernel_rfl) (by kernel_rfl) (by kernel_rfl) (fun _ _ _ h => h) (Or.inl ⟨by rfl, fun W hSW => ?_⟩) hHeld ?_
            · ((try dsimp only at hSW); go_split_ands; go_simp <;> with_reducible rfl)
            try simp only [List.getElem_toArray, List.getElem_cons_succ, List.getElem_cons_zero, Act.put, List.setIfInBounds_toArray, List.set_cons_zero, List.set_cons_succ]
            refine wpAnyH_ready (rs := [15]) (by kernel_rfl) (by simp) ?_
            refine AllReadyH.cons rfl (fun K hK => ?_) AllReadyH.nil
            try simp only [List.getElem_toArray, List.getElem_cons_succ, List.getElem_cons_zero]
            go_simp
            try go_wp2_with fail
            refine hK.out _ _ ?_ (fun hHeld => ?_)
            · exact beg_held ((Below.refl _ _).alloc (Nat.le_refl _) _) HBL5.out hHeld
            clear hK K
            try simp only [List.getElem_toArray, List.getElem_cons_succ, List.getElem_cons_zero, Act.put, List.setIfInBounds_toArray, List.set_cons_zero, List.set_cons_succ]
            refine wpAnyH_take (i := 16) (v := .pointer (some ⟨x5.heap.size, 0, none⟩)) rfl (by kernel_rfl) (by kernel_rfl) (by kernel_rfl) (fun _ _ _ h => h) (Or.inl ⟨by rfl, fun W hSW => ?_⟩) hHeld ?_
            · ((try dsimp only at hSW); go_split_ands; go_simp <;> with_reducible rfl)
            try simp only [List.getElem_toArray, List.getElem_cons_succ, List.getElem_cons_zero, Act.put, List.setIfInBounds_toArray, List.set_cons_zero, List.set_cons_succ]
            refine wpAnyH_done (by kernel_rfl) ?_ _
            clear hHeld
            go_wp2_with fail
            go_meet
            case rel => exact HF.out
          · skip
            try simp only [List.getElem_toArray, List.getElem_cons_succ, List.getElem_cons_zero]
            go_simp
            have HB4 := Lib.hid (show Below x3.heap.size x3 (x3.alloc (.map #[] 0)) from (Below.refl _ _).alloc (Nat.le_refl _) _)
            have HM := Lib.hid (set_new x3)
            have HMZ := Lib.hid (show x3.heap.size < (x3.alloc (.map #[] 0)).heap.size by simp)
            generalize (x3.alloc (.map #[] 0)) = x4 at HB4 HM HMZ ⊢
            try go_wp2_with fail
            refine hK.out _ _ ?_ (fun hHeld => ?_)
            · exact beg_held HB4.out HBL3.out hHeld
            clear hK K
            try simp only [List.getElem_toArray, List.getElem_cons_succ, List.getElem_cons_zero, Act.put, List.setIfInBounds_toArray, List.set_cons_zero, List.set_cons_succ]
            have HC4 := Lib.hid (HC3.out.trans (HB4.out.mono HC3.out.size))
            have HBL4 := Lib.hid (Nat.lt_of_lt_of_le HBL3.out HB4.out.size)
            refine wpAnyH_ready (rs := [9]) (by kernel_rfl) (by simp) ?_
            refine AllReadyH.cons rfl (fun K hK => ?_) AllReadyH.nil
            try simp only [List.getElem_toArray, List.getElem_cons_succ, List.getElem_cons_zero]
            go_simp
            (go_at_call 19; refine (order_anyS _ HTL.out HTM.out HTI.out ((HG.out.below HC4.out).mono HC4.out.size)).mono ?_; rintro e x5 ⟨ov, rfl, hs5, hb5⟩; rewrite [← HOE.out, ← HON.out] at hs5; obtain ⟨oa, oc, rfl⟩ := SS.ownOf hs5; have HO := Lib.hid hs5; have HB5 := Lib.hid hb5; clear hs5 hb5)
            try go_wp2_with fail
            refine hK.out _ _ ?_ (fun hHeld => ?_)
            · exact beg_held HB5.out HBL4.out hHeld
            clear hK K
            try simp only [List.getElem_toArray, List.getElem_cons_succ, List.getElem_cons_zero, Act.put, List.setIfInBounds_toArray, List.set_cons_zero, List.set_cons_succ]
            have HC5 := Lib.hid (HC4.out.trans (HB5.out.mono HC4.out.size))
            have HBL5 := Lib.hid (Nat.lt_of_lt_of_le HBL4.out HB5.out.size)
            have HPZ := Lib.hid (show x1.heap.size < x2.heap.size from (HP.out.lt _ rfl).2)
            have HF := Lib.hid (begq_mk HC5.out (by rw [List.length_map]; exact HS.out) HC0.out.size (((HB2.out.trans (HB3.out.mono HB2.out.size)).trans (HB4.out.mono (Nat.le_trans HB2.out.size HB3.out.size))).trans (HB5.out.mono (Nat.le_trans (Nat.le_trans HB2.out.size HB3.out.size) HB4.out.size))) (by rw [← HTN.out]; exact HA.out.tab) (fun j hj => HA.out.own j (by rw [HTN.out]; exact hj)) HC2.out.size (Nat.le_trans HC2.out.size (Nat.le_succ _)) (HB4.out.trans (HB5.out.mono HB4.out.size)) HO.out HC4.out.size (Below.refl _ _) HP.out HC1.out.size ((HB3.out.trans (HB4.out.mono HB3.out.size)).trans (HB5.out.mono (Nat.le_trans HB3.out.size HB4.out.size))) HM.out HC3.out.size HB5.out HMZ.out (.inl (by have h1 := HPZ.out; have h2 : x2.heap.size ≤ x4.heap.size := (HB3.out.trans (HB4.out.mono HB3.out.size)).size; omega)) (.inl (by have h1 := HPZ.out; have h2 : x2.heap.size ≤ x2.heap.size := Nat.le_refl _; omega)))
            clear HB1 HB2 HB3 HB4 HB5 HS HA HO HP HM HMZ HPZ
            refine wpAnyH_take (i := 14) (v := .agg #[.slice sa l.length sc, .slice (some ⟨x2.heap.size, 0, none⟩) l.length l.length, .slice oa ol.length oc, .slice (some ⟨x1.heap.size, 0, none⟩) l.length l.length, .slice none 0 0, .map (some x3.heap.size)]) rfl (by kernel_rfl) (by kernel_rfl) (by kernel_rfl) (fun _ _ _ h => h) (Or.inl ⟨by rfl, fun W hSW => ?_⟩) hHeld ?_
            · ((try dsimp only at hSW); go_split_ands; go_simp <;> with_reducible rfl)
            try simp only [List.getElem_toArray, List.getElem_cons_succ, List.getElem_cons_zero, Act.put, List.setIfInBounds_toArray, List.set_cons_zero, List.set_cons_succ]
            refine wpAnyH_ready (rs := [15]) (by kernel_rfl) (by simp) ?_
            refine AllReadyH.cons rfl (fun K hK => ?_) AllReadyH.nil
            try simp only [List.getElem_toArray, List.getElem_cons_succ, List.getElem_cons_zero]
            go_simp
            try go_wp2_with fail
            refine hK.out _ _ ?_ (fun hHeld => ?_)
            · exact beg_held ((Below.refl _ _).alloc (Nat.le_refl _) _) HBL5.out hHeld
            clear hK K
            try simp only [List.getElem_toArray, List.getElem_cons_succ, List.getElem_cons_zero, Act.put, List.setIfInBounds_toArray, List.set_cons_zero, List.set_cons_succ]
            refine wpAnyH_take (i := 16) (v := .pointer (some ⟨x5.heap.size, 0, none⟩)) rfl (by kernel_rfl) (by kernel_rfl) (by kernel_rfl) (fun _ _ _ h => h) (Or.inl ⟨by rfl, fun W hSW => ?_⟩) hHeld ?_
            · ((try dsimp only at hSW); go_split_ands; go_simp <;> with_reducible rfl)
            try simp only [List.getElem_toArray, List.getElem_cons_succ, List.getElem_cons_zero, Act.put, List.setIfInBounds_toArray, List.set_cons_zero, List.set_cons_succ]
            refine wpAnyH_done (by kernel_rfl) ?_ _
            clear hHeld
            go_wp2_with fail
            go_meet
            case rel => exact HF.out
        · skip
          try simp only [List.getElem_toArray, List.getElem_cons_succ, List.getElem_cons_zero]
          go_simp
          have HB3 := Lib.hid (show Below x2.heap.size x2 (x2.alloc (.map #[] 0)) from (Below.refl _ _).alloc (Nat.le_refl _) _)
          have HM := Lib.hid (set_new x2)
          have HMZ := Lib.hid (show x2.heap.size < (x2.alloc (.map #[] 0)).heap.size by simp)
          generalize (x2.alloc (.map #[] 0)) = x3 at HB3 HM HMZ ⊢
          try go_wp2_with fail
          refine hK.out _ _ ?_ (fun hHeld => ?_)
          · exact beg_held HB3.out HBL2.out hHeld
          clear hK K
          try simp only [List.getElem_toArray, List.getElem_cons_succ, List.getElem_cons_zero, Act.put, List.setIfInBounds_toArray, List.set_cons_zero, List.set_cons_succ]
          have HC3 := Lib.hid (HC2.out.trans (HB3.out.mono HC2.out.size))
          have HBL3 := Lib.hid (Nat.lt_of_lt_of_le HBL2.out HB3.out.size)
          refine wpAnyH_ready (rs := [6]) (by kernel_rfl) (by simp) ?_
          refine AllReadyH.cons rfl (fun K hK => ?_) AllReadyH.nil
          try simp only [List.getElem_toArray, List.getElem_cons_succ, List.getElem_cons_zero]
          go_simp
          (go_at_call 18; refine (askers_any _ ((HG.out.below HC3.out).mono HC3.out.size) HTL.out HTM.out HTI.out).mono ?_; rintro e x4 ⟨rfl, vs, hs4⟩; rewrite [HTN.out]; have HA := Lib.hid hs4; have HB4 := Lib.hid hs4.below; clear hs4)
          try go_wp2_with fail
          refine hK.out _ _ ?_ (fun hHeld => ?_)
          · exact beg_held HB4.out HBL3.out hHeld
          clear hK K
          try simp only [List.getElem_toArray, List.getElem_cons_succ, List.getElem_cons_zero, Act.put, List.setIfInBounds_toArray, List.set_cons_zero, List.set_cons_succ]
          have HC4 := Lib.hid (HC3.out.trans (HB4.out.mono HC3.out.size))
          have HBL4 := Lib.hid (Nat.lt_of_lt_of_le HBL3.out HB4.out.size)
          refine wpAnyH_ready (rs := [9]) (by kernel_rfl) (by simp) ?_
          refine AllReadyH.cons rfl (fun K hK => ?_) AllReadyH.nil
          try simp only [List.getElem_toArray, List.getElem_cons_succ, List.getElem_cons_zero]
          go_simp
          (go_at_call 19; refine (order_anyS _ HTL.out HTM.out HTI.out ((HG.out.below HC4.out).mono HC4.out.size)).mono ?_; rintro e x5 ⟨ov, rfl, hs5, hb5⟩; rewrite [← HOE.out, ← HON.out] at hs5; obtain ⟨oa, oc, rfl⟩ := SS.ownOf hs5; have HO := Lib.hid hs5; have HB5 := Lib.hid hb5; clear hs5 hb5)
          try go_wp2_with fail
          refine hK.out _ _ ?_ (fun hHeld => ?_)
          · exact beg_held HB5.out HBL4.out hHeld
          clear hK K
          try simp only [List.getElem_toArray, List.getElem_cons_succ, List.getElem_cons_zero, Act.put, List.setIfInBounds_toArray, List.set_cons_zero, List.set_cons_succ]
          have HC5 := Lib.hid (HC4.out.trans (HB5.out.mono HC4.out.size))
          have HBL5 := Lib.hid (Nat.lt_of_lt_of_le HBL4.out HB5.out.size)
          have HPZ := Lib.hid (show x1.heap.size < x2.heap.size from (HP.out.lt _ rfl).2)
          have HF := Lib.hid (begq_mk HC5.out (by rw [List.length_map]; exact HS.out) HC0.out.size (((HB2.out.trans (HB3.out.mono HB2.out.size)).trans (HB4.out.mono (Nat.le_trans HB2.out.size HB3.out.size))).trans (HB5.out.mono (Nat.le_trans (Nat.le_trans HB2.out.size HB3.out.size) HB4.out.size))) (by rw [← HTN.out]; exact HA.out.tab) (fun j hj => HA.out.own j (by rw [HTN.out]; exact hj)) HC3.out.size (Nat.le_trans HC3.out.size (Nat.le_succ _)) HB5.out HO.out HC4.out.size (Below.refl _ _) HP.out HC1.out.size ((HB3.out.trans (HB4.out.mono HB3.out.size)).trans (HB5.out.mono (Nat.le_trans HB3.out.size HB4.out.size))) HM.out HC2.out.size (HB4.out.trans (HB5.out.mono HB4.out.size)) HMZ.out (.inl (by have h1 := HPZ.out; have h2 : x2.heap.size ≤ x4.heap.size := (HB3.out.trans (HB4.out.mono HB3.out.size)).size; omega)) (.inl (by have h1 := HPZ.out; have h2 : x2.heap.size ≤ x3.heap.size := HB3.out.size; omega)))
          clear HB1 HB2 HB3 HB4 HB5 HS HA HO HP HM HMZ HPZ
          refine wpAnyH_take (i := 14) (v := .agg #[.slice sa l.length sc, .slice (some ⟨x3.heap.size, 0, none⟩) l.length l.length, .slice oa ol.length oc, .slice (some ⟨x1.heap.size, 0, none⟩) l.length l.length, .slice none 0 0, .map (some x2.heap.size)]) rfl (by kernel_rfl) (by kernel_rfl) (by kernel_rfl) (fun _ _ _ h => h) (Or.inl ⟨by rfl, fun W hSW => ?_⟩) hHeld ?_
          · ((try dsimp only at hSW); go_split_ands; go_simp <;> with_reducible rfl)
          try simp only [List.getElem_toArray, List.getElem_cons_succ, List.getElem_cons_zero, Act.put, List.setIfInBounds_toArray, List.set_cons_zero, List.set_cons_succ]
          refine wpAnyH_ready (rs := [15]) (by kernel_rfl) (by simp) ?_
          refine AllReadyH.cons rfl (fun K hK => ?_) AllReadyH.nil
          try simp only [List.getElem_toArray, List.getElem_cons_succ, List.getElem_cons_zero]
          go_simp
          try go_wp2_with fail
          refine hK.out _ _ ?_ (fun hHeld => ?_)
          · exact beg_held ((Below.refl _ _).alloc (Nat.le_refl _) _) HBL5.out hHeld
          clear hK K
          try simp only [List.getElem_toArray, List.getElem_cons_succ, List.getElem_cons_zero, Act.put, List.setIfInBounds_toArray, List.set_cons_zero, List.set_cons_succ]
          refine wpAnyH_take (i := 16) (v := .pointer (some ⟨x5.heap.size, 0, none⟩)) rfl (by kernel_rfl) (by kernel_rfl) (by kernel_rfl) (fun _ _ _ h => h) (Or.inl ⟨by rfl, fun W hSW => ?_⟩) hHeld ?_
          · ((try dsimp only at hSW); go_split_ands; go_simp <;> with_reducible rfl)
          try simp only [List.getElem_toArray, List.getElem_cons_succ, List.getElem_cons_zero, Act.put, List.setIfInBounds_toArray, List.set_cons_zero, List.set_cons_succ]
          refine wpAnyH_done (by kernel_rfl) ?_ _
          clear hHeld
          go_wp2_with fail
          go_meet
          case rel => exact HF.out
      · skip
        try simp only [List.getElem_toArray, List.getElem_cons_succ, List.getElem_cons_zero]
        go_simp
        have HB2 := Lib.hid (show Below x1.heap.size x1 (x1.alloc (.map #[] 0)) from (Below.refl _ _).alloc (Nat.le_refl _) _)
        have HM := Lib.hid (set_new x1)
        have HMZ := Lib.hid (show x1.heap.size < (x1.alloc (.map #[] 0)).heap.size by simp)
        generalize (x1.alloc (.map #[] 0)) = x2 at HB2 HM HMZ ⊢
        try go_wp2_with fail
        refine hK.out _ _ ?_ (fun hHeld => ?_)
        · exact beg_held HB2.out HBL1.out hHeld
        clear hK K
        try simp only [List.getElem_toArray, List.getElem_cons_succ, List.getElem_cons_zero, Act.put, List.setIfInBounds_toArray, List.set_cons_zero, List.set_cons_succ]
        have HC2 := Lib.hid (HC1.out.trans (HB2.out.mono HC1.out.size))
        have HBL2 := Lib.hid (Nat.lt_of_lt_of_le HBL1.out HB2.out.size)
        refine wpAnyH_ready (rs := [6, 11]) (by kernel_rfl) (by simp) ?_
        refine AllReadyH.cons rfl (fun K hK => ?_) (AllReadyH.cons rfl (fun K hK => ?_) AllReadyH.nil)
        · skip
          try simp only [List.getElem_toArray, List.getElem_cons_succ, List.getElem_cons_zero]
          go_simp
          (go_at_call 18; refine (askers_any _ ((HG.out.below HC2.out).mono HC2.out.size) HTL.out HTM.out HTI.out).mono ?_; rintro e x3 ⟨rfl, vs, hs3⟩; rewrite [HTN.out]; have HA := Lib.hid hs3; have HB3 := Lib.hid hs3.below; clear hs3)
          try go_wp2_with fail
          refine hK.out _ _ ?_ (fun hHeld => ?_)
          · exact beg_held HB3.out HBL2.out hHeld
          clear hK K
          try simp only [List.getElem_toArray, List.getElem_cons_succ, List.getElem_cons_zero, Act.put, List.setIfInBounds_toArray, List.set_cons_zero, List.set_cons_succ]
          have HC3 := Lib.hid (HC2.out.trans (HB3.out.mono HC2.out.size))
          have HBL3 := Lib.hid (Nat.lt_of_lt_of_le HBL2.out HB3.out.size)
          refine wpAnyH_ready (rs := [9, 11]) (by kernel_rfl) (by simp) ?_
          refine AllReadyH.cons rfl (fun K hK => ?_) (AllReadyH.cons rfl (fun K hK => ?_) AllReadyH.nil)
          · skip
            try simp only [List.getElem_toArray, List.getElem_cons_succ, List.getElem_cons_zero]
            go_simp
            (go_at_call 19; refine (order_anyS _ HTL.out HTM.out HTI.out ((HG.out.below HC3.out).mono HC3.out.size)).mono ?_; rintro e x4 ⟨ov, rfl, hs4, hb4⟩; rewrite [← HOE.out, ← HON.out] at hs4; obtain ⟨oa, oc, rfl⟩ := SS.ownOf hs4; have HO := Lib.hid hs4; have HB4 := Lib.hid hb4; clear hs4 hb4)
            try go_wp2_with fail
            refine hK.out _ _ ?_ (fun hHeld => ?_)
            · exact beg_held HB4.out HBL3.out hHeld
            clear hK K
            try simp only [List.getElem_toArray, List.getElem_cons_succ, List.getElem_cons_zero, Act.put, List.setIfInBounds_toArray, List.set_cons_zero, List.set_cons_succ]
            have HC4 := Lib.hid (HC3.out.trans (HB4.out.mono HC3.out.size))
            have HBL4 := Lib.hid (Nat.lt_of_lt_of_le HBL3.out HB4.out.size)
            refine wpAnyH_ready (rs := [11]) (by kernel_rfl) (by simp) ?_
            refine AllReadyH.cons rfl (fun K hK => ?_) AllReadyH.nil
            try simp only [List.getElem_toArray, List.getElem_cons_succ, List.getElem_cons_zero]
            go_simp
            have HB5 := Lib.hid (show Below x4.heap.size x4 (x4.alloc (.cells (madeCells #[.int .i64 0] l.length) 3)) from (Below.refl _ _).alloc (Nat.le_refl _) _)
            have HP := Lib.hid (zeros_row x4 x4.heap.size l.length (Nat.le_refl _) HLL.out)
            generalize (x4.alloc (.cells (madeCells #[.int .i64 0] l.length) 3)) = x5 at HB5 HP ⊢
            try go_wp2_with fail
            refine hK.out _ _ ?_ (fun hHeld => ?_)
            · exact beg_held HB5.out HBL4.out hHeld
            clear hK K
            try simp only [List.getElem_toArray, List.getElem_cons_succ, List.getElem_cons_zero, Act.put, List.setIfInBounds_toArray, List.set_cons_zero, List.set_cons_succ]
            have HC5 := Lib.hid (HC4.out.trans (HB5.out.mono HC4.out.size))
            have HBL5 := Lib.hid (Nat.lt_of_lt_of_le HBL4.out HB5.out.size)
            have HPZ := Lib.hid (show x4.heap.size < x5.heap.size from (HP.out.lt _ rfl).2)
            have HF := Lib.hid (begq_mk HC5.out (by rw [List.length_map]; exact HS.out) HC0.out.size (((HB2.out.trans (HB3.out.mono HB2.out.size)).trans (HB4.out.mono (Nat.le_trans HB2.out.size HB3.out.size))).trans (HB5.out.mono (Nat.le_trans (Nat.le_trans HB2.out.size HB3.out.size) HB4.out.size))) (by rw [← HTN.out]; exact HA.out.tab) (fun j hj => HA.out.own j (by rw [HTN.out]; exact hj)) HC2.out.size (Nat.le_trans HC2.out.size (Nat.le_succ _)) (HB4.out.trans (HB5.out.mono HB4.out.size)) HO.out HC3.out.size HB5.out HP.out HC4.out.size (Below.refl _ _) HM.out HC1.out.size ((HB3.out.trans (HB4.out.mono HB3.out.size)).trans (HB5.out.mono (Nat.le_trans HB3.out.size HB4.out.size))) HMZ.out (.inr (by have h2 : x4.heap.size ≤ x4.heap.size := Nat.le_refl _; omega)) (.inr (by have h2 : x3.heap.size ≤ x4.heap.size := HB4.out.size; omega)))
            clear HB1 HB2 HB3 HB4 HB5 HS HA HO HP HM HMZ HPZ
            refine wpAnyH_take (i := 14) (v := .agg #[.slice sa l.length sc, .slice (some ⟨x2.heap.size, 0, none⟩) l.length l.length, .slice oa ol.length oc, .slice (some ⟨x4.heap.size, 0, none⟩) l.length l.length, .slice none 0 0, .map (some x1.heap.size)]) rfl (by kernel_rfl) (by kernel_rfl) (by kernel_rfl) (fun _ _ _ h => h) (Or.inl ⟨by rfl, fun W hSW => ?_⟩) hHeld ?_
            · ((try dsimp only at hSW); go_split_ands; go_simp <;> with_reducible rfl)
            try simp only [List.getElem_toArray, List.getElem_cons_succ, List.getElem_cons_zero, Act.put, List.setIfInBounds_toArray, List.set_cons_zero, List.set_cons_succ]
            refine wpAnyH_ready (rs := [15]) (by kernel_rfl) (by simp) ?_
            refine AllReadyH.cons rfl (fun K hK => ?_) AllReadyH.nil
            try simp only [List.getElem_toArray, List.getElem_cons_succ, List.getElem_cons_zero]
            go_simp
            try go_wp2_with fail
            refine hK.out _ _ ?_ (fun hHeld => ?_)
            · exact beg_held ((Below.refl _ _).alloc (Nat.le_refl _) _) HBL5.out hHeld
            clear hK K
            try simp only [List.getElem_toArray, List.getElem_cons_succ, List.getElem_cons_zero, Act.put, List.setIfInBounds_toArray, List.set_cons_zero, List.set_cons_succ]
            refine wpAnyH_take (i := 16) (v := .pointer (some ⟨x5.heap.size, 0, none⟩)) rfl (by kernel_rfl) (by kernel_rfl) (by kernel_rfl) (fun _ _ _ h => h) (Or.inl ⟨by rfl, fun W hSW => ?_⟩) hHeld ?_
            · ((try dsimp only at hSW); go_split_ands; go_simp <;> with_reducible rfl)
            try simp only [List.getElem_toArray, List.getElem_cons_succ, List.getElem_cons_zero, Act.put, List.setIfInBounds_toArray, List.set_cons_zero, List.set_cons_succ]
            refine wpAnyH_done (by kernel_rfl) ?_ _
            clear hHeld
            go_wp2_with fail
            go_meet
            case rel => exact HF.out
          · skip
            try simp only [List.getElem_toArray, List.getElem_cons_succ, List.getElem_cons_zero]
            go_simp
            have HB4 := Lib.hid (show Below x3.heap.size x3 (x3.alloc (.cells (madeCells #[.int .i64 0] l.length) 3)) from (Below.refl _ _).alloc (Nat.le_refl _) _)
            have HP := Lib.hid (zeros_row x3 x3.heap.size l.length (Nat.le_refl _) HLL.out)
            generalize (x3.alloc (.cells (madeCells #[.int .i64 0] l.length) 3)) = x4 at HB4 HP ⊢
            try go_wp2_with fail
            refine hK.out _ _ ?_ (fun hHeld => ?_)
            · exact beg_held HB4.out HBL3.out hHeld
            clear hK K
            try simp only [List.getElem_toArray, List.getElem_cons_succ, List.getElem_cons_zero, Act.put, List.setIfInBounds_toArray, List.set_cons_zero, List.set_cons_succ]
            have HC4 := Lib.hid (HC3.out.trans (HB4.out.mono HC3.out.size))
            have HBL4 := Lib.hid (Nat.lt_of_lt_of_le HBL3.out HB4.out.size)
            refine wpAnyH_ready (rs := [9]) (by kernel_rfl) (by simp) ?_
            refine AllReadyH.cons rfl (fun K hK => ?_) AllReadyH.nil
            try simp only [List.getElem_toArray, List.getElem_cons_succ, List.getElem_cons_zero]
            go_simp
            (go_at_call 19; refine (order_anyS _ HTL.out HTM.out HTI.out ((HG.out.below HC4.out).mono HC4.out.size)).mono ?_; rintro e x5 ⟨ov, rfl, hs5, hb5⟩; rewrite [← HOE.out, ← HON.out] at hs5; obtain ⟨oa, oc, rfl⟩ := SS.ownOf hs5; have HO := Lib.hid hs5; have HB5 := Lib.hid hb5; clear hs5 hb5)
            try go_wp2_with fail
            refine hK.out _ _ ?_ (fun hHeld => ?_)
            · exact beg_held HB5.out HBL4.out hHeld
            clear hK K
            try simp only [List.getElem_toArray, List.getElem_cons_succ, List.getElem_cons_zero, Act.put, List.setIfInBounds_toArray, List.set_cons_zero, List.set_cons_succ]
            have HC5 := Lib.hid (HC4.out.trans (HB5.out.mono HC4.out.size))
            have HBL5 := Lib.hid (Nat.lt_of_lt_of_le HBL4.out HB5.out.size)
            have HPZ := Lib.hid (show x3.heap.size < x4.heap.size from (HP.out.lt _ rfl).2)
            have HF := Lib.hid (begq_mk HC5.out (by rw [List.length_map]; exact HS.out) HC0.out.size (((HB2.out.trans (HB3.out.mono HB2.out.size)).trans (HB4.out.mono (Nat.le_trans HB2.out.size HB3.out.size))).trans (HB5.out.mono (Nat.le_trans (Nat.le_trans HB2.out.size HB3.out.size) HB4.out.size))) (by rw [← HTN.out]; exact HA.out.tab) (fun j hj => HA.out.own j (by rw [HTN.out]; exact hj)) HC2.out.size (Nat.le_trans HC2.out.size (Nat.le_succ _)) (HB4.out.trans (HB5.out.mono HB4.out.size)) HO.out HC4.out.size (Below.refl _ _) HP.out HC3.out.size HB5.out HM.out HC1.out.size ((HB3.out.trans (HB4.out.mono HB3.out.size)).trans (HB5.out.mono (Nat.le_trans HB3.out.size HB4.out.size))) HMZ.out (.inl (by have h1 := HPZ.out; have h2 : x4.heap.size ≤ x4.heap.size := Nat.le_refl _; omega)) (.inr (by have h2 : x3.heap.size ≤ x3.heap.size := Nat.le_refl _; omega)))
            clear HB1 HB2 HB3 HB4 HB5 HS HA HO HP HM HMZ HPZ
            refine wpAnyH_take (i := 14) (v := .agg #[.slice sa l.length sc, .slice (some ⟨x2.heap.size, 0, none⟩) l.length l.length, .slice oa ol.length oc, .slice (some ⟨x3.heap.size, 0, none⟩) l.length l.length, .slice none 0 0, .map (some x1.heap.size)]) rfl (by kernel_rfl) (by kernel_rfl) (by kernel_rfl) (fun _ _ _ h => h) (Or.inl ⟨by rfl, fun W hSW => ?_⟩) hHeld ?_
            · ((try dsimp only at hSW); go_split_ands; go_simp <;> with_reducible rfl)
            try simp only [List.getElem_toArray, List.getElem_cons_succ, List.getElem_cons_zero, Act.put, List.setIfInBounds_toArray, List.set_cons_zero, List.set_cons_succ]
            refine wpAnyH_ready (rs := [15]) (by kernel_rfl) (by simp) ?_
            refine AllReadyH.cons rfl (fun K hK => ?_) AllReadyH.nil
            try simp only [List.getElem_toArray, List.getElem_cons_succ, List.getElem_cons_zero]
            go_simp
            try go_wp2_with fail
            refine hK.out _ _ ?_ (fun hHeld => ?_)
            · exact beg_held ((Below.refl _ _).alloc (Nat.le_refl _) _) HBL5.out hHeld
            clear hK K
            try simp only [List.getElem_toArray, List.getElem_cons_succ, List.getElem_cons_zero, Act.put, List.setIfInBounds_toArray, List.set_cons_zero, List.set_cons_succ]
            refine wpAnyH_take (i := 16) (v := .pointer (some ⟨x5.heap.size, 0, none⟩)) rfl (by kernel_rfl) (by kernel_rfl) (by kernel_rfl) (fun _ _ _ h => h) (Or.inl ⟨by rfl, fun W hSW => ?_⟩) hHeld ?_
            · ((try dsimp only at hSW); go_split_ands; go_simp <;> with_reducible rfl)
            try simp only [List.getElem_toArray, List.getElem_cons_succ, List.getElem_cons_zero, Act.put, List.setIfInBounds_toArray, List.set_cons_zero, List.set_cons_succ]
            refine wpAnyH_done (by kernel_rfl) ?_ _
            clear hHeld
            go_wp2_with fail
            go_meet
            case rel => exact HF.out
        · skip
          try simp only [List.getElem_toArray, List.getElem_cons_succ, List.getElem_cons_zero]
          go_simp
          have HB3 := Lib.hid (show Below x2.heap.size x2 (x2.alloc (.cells (madeCells #[.int .i64 0] l.length) 3)) from (Below.refl _ _).alloc (Nat.le_refl _) _)
          have HP := Lib.hid (zeros_row x2 x2.heap.size l.length (Nat.le_refl _) HLL.out)
          generalize (x2.alloc (.cells (madeCells #[.int .i64 0] l.length) 3)) = x3 at HB3 HP ⊢
          try go_wp2_with fail
          refine hK.out _ _ ?_ (fun hHeld => ?_)
          · exact beg_held HB3.out HBL2.out hHeld
          clear hK K
          try simp only [List.getElem_toArray, List.getElem_cons_succ, List.getElem_cons_zero, Act.put, List.setIfInBounds_toArray, List.set_cons_zero, List.set_cons_succ]
          have HC3 := Lib.hid (HC2.out.trans (HB3.out.mono HC2.out.size))
          have HBL3 := Lib.hid (Nat.lt_of_lt_of_le HBL2.out HB3.out.size)
          refine wpAnyH_ready (rs := [6]) (by kernel_rfl) (by simp) ?_
          refine AllReadyH.cons rfl (fun K hK => ?_) AllReadyH.nil
          try simp only [List.getElem_toArray, List.getElem_cons_succ, List.getElem_cons_zero]
          go_simp
          (go_at_call 18; refine (askers_any _ ((HG.out.below HC3.out).mono HC3.out.size) HTL.out HTM.out HTI.out).mono ?_; rintro e x4 ⟨rfl, vs, hs4⟩; rewrite [HTN.out]; have HA := Lib.hid hs4; have HB4 := Lib.hid hs4.below; clear hs4)
          try go_wp2_with fail
          refine hK.out _ _ ?_ (fun hHeld => ?_)
          · exact beg_held HB4.out HBL3.out hHeld
          clear hK K
          try simp only [List.getElem_toArray, List.getElem_cons_succ, List.getElem_cons_zero, Act.put, List.setIfInBounds_toArray, List.set_cons_zero, List.set_cons_succ]
          have HC4 := Lib.hid (HC3.out.trans (HB4.out.mono HC3.out.size))
          have HBL4 := Lib.hid (Nat.lt_of_lt_of_le HBL3.out HB4.out.size)
          refine wpAnyH_ready (rs := [9]) (by kernel_rfl) (by simp) ?_
          refine AllReadyH.cons rfl (fun K hK => ?_) AllReadyH.nil
          try simp only [List.getElem_toArray, List.getElem_cons_succ, List.getElem_cons_zero]
          go_simp
          (go_at_call 19; refine (order_anyS _ HTL.out HTM.out HTI.out ((HG.out.below HC4.out).mono HC4.out.size)).mono ?_; rintro e x5 ⟨ov, rfl, hs5, hb5⟩; rewrite [← HOE.out, ← HON.out] at hs5; obtain ⟨oa, oc, rfl⟩ := SS.ownOf hs5; have HO := Lib.hid hs5; have HB5 := Lib.hid hb5; clear hs5 hb5)
          try go_wp2_with fail
          refine hK.out _ _ ?_ (fun hHeld => ?_)
          · exact beg_held HB5.out HBL4.out hHeld
          clear hK K
          try simp only [List.getElem_toArray, List.getElem_cons_succ, List.getElem_cons_zero, Act.put, List.setIfInBounds_toArray, List.set_cons_zero, List.set_cons_succ]
          have HC5 := Lib.hid (HC4.out.trans (HB5.out.mono HC4.out.size))
          have HBL5 := Lib.hid (Nat.lt_of_lt_of_le HBL4.out HB5.out.size)
          have HPZ := Lib.hid (show x2.heap.size < x3.heap.size from (HP.out.lt _ rfl).2)
          have HF := Lib.hid (begq_mk HC5.out (by rw [List.length_map]; exact HS.out) HC0.out.size (((HB2.out.trans (HB3.out.mono HB2.out.size)).trans (HB4.out.mono (Nat.le_trans HB2.out.size HB3.out.size))).trans (HB5.out.mono (Nat.le_trans (Nat.le_trans HB2.out.size HB3.out.size) HB4.out.size))) (by rw [← HTN.out]; exact HA.out.tab) (fun j hj => HA.out.own j (by rw [HTN.out]; exact hj)) HC3.out.size (Nat.le_trans HC3.out.size (Nat.le_succ _)) HB5.out HO.out HC4.out.size (Below.refl _ _) HP.out HC2.out.size (HB4.out.trans (HB5.out.mono HB4.out.size)) HM.out HC1.out.size ((HB3.out.trans (HB4.out.mono HB3.out.size)).trans (HB5.out.mono (Nat.le_trans HB3.out.size HB4.out.size))) HMZ.out (.inl (by have h1 := HPZ.out; have h2 : x3.heap.size ≤ x4.heap.size := HB4.out.size; omega)) (.inl (by have h1 := HPZ.out; have h2 : x3.heap.size ≤ x3.heap.size := Nat.le_refl _; omega)))
          clear HB1 HB2 HB3 HB4 HB5 HS HA HO HP HM HMZ HPZ
          refine wpAnyH_take (i := 14) (v := .agg #[.slice sa l.length sc, .slice (some ⟨x3.heap.size, 0, none⟩) l.length l.length, .slice oa ol.length oc, .slice (some ⟨x2.heap.size, 0, none⟩) l.length l.length, .slice none 0 0, .map (some x1.heap.size)]) rfl (by kernel_rfl) (by kernel_rfl) (by kernel_rfl) (fun _ _ _ h => h) (Or.inl ⟨by rfl, fun W hSW => ?_⟩) hHeld ?_
          · ((try dsimp only at hSW); go_split_ands; go_simp <;> with_reducible rfl)
          try simp only [List.getElem_toArray, List.getElem_cons_succ, List.getElem_cons_zero, Act.put, List.setIfInBounds_toArray, List.set_cons_zero, List.set_cons_succ]
          refine wpAnyH_ready (rs := [15]) (by kernel_rfl) (by simp) ?_
          refine AllReadyH.cons rfl (fun K hK => ?_) AllReadyH.nil
          try simp only [List.getElem_toArray, List.getElem_cons_succ, List.getElem_cons_zero]
          go_simp
          try go_wp2_with fail
          refine hK.out _ _ ?_ (fun hHeld => ?_)
          · exact beg_held ((Below.refl _ _).alloc (Nat.le_refl _) _) HBL5.out hHeld
          clear hK K
          try simp only [List.getElem_toArray, List.getElem_cons_succ, List.getElem_cons_zero, Act.put, List.setIfInBounds_toArray, List.set_cons_zero, List.set_cons_succ]
          refine wpAnyH_take (i := 16) (v := .pointer (some ⟨x5.heap.size, 0, none⟩)) rfl (by kernel_rfl) (by kernel_rfl) (by kernel_rfl) (fun _ _ _ h => h) (Or.inl ⟨by rfl, fun W hSW => ?_⟩) hHeld ?_
          · ((try dsimp only at hSW); go_split_ands; go_simp <;> with_reducible rfl)
          try simp only [List.getElem_toArray, List.getElem_cons_succ, List.getElem_cons_zero, Act.put, List.setIfInBounds_toArray, List.set_cons_zero, List.set_cons_succ]
          refine wpAnyH_done (by kernel_rfl) ?_ _
          clear hHeld
          go_wp2_with fail
          go_meet
          case rel => exact HF.out
    · skip
      try simp only [List.getElem_toArray, List.getElem_cons_succ, List.getElem_cons_zero]
      go_simp
      have HB1 := Lib.hid (show Below x0.heap.size x0 (x0.alloc (.cells (madeCells #[.int .i64 0] l.length) 3)) from (Below.refl _ _).alloc (Nat.le_refl _) _)
      have HP := Lib.hid (zeros_row x0 x0.heap.size l.length (Nat.le_refl _) HLL.out)
      generalize (x0.alloc (.cells (madeCells #[.int .i64 0] l.length) 3)) = x1 at HB1 HP ⊢
      try go_wp2_with fail
      refine hK.out _ _ ?_ (fun hHeld => ?_)
      · exact beg_held HB1.out HBL0.out hHeld
      clear hK K
      try simp only [List.getElem_toArray, List.getElem_cons_succ, List.getElem_cons_zero, Act.put, List.setIfInBounds_toArray, List.set_cons_zero, List.set_cons_succ]
      have HC1 := Lib.hid (HC0.out.trans (HB1.out.mono HC0.out.size))
      have HBL1 := Lib.hid (Nat.lt_of_lt_of_le HBL0.out HB1.out.size)
      refine wpAnyH_ready (rs := [3, 13]) (by kernel_rfl) (by simp) ?_
      refine AllReadyH.cons rfl (fun K hK => ?_) (AllReadyH.cons rfl (fun K hK => ?_) AllReadyH.nil)
      · skip
        try simp only [List.getElem_toArray, List.getElem_cons_succ, List.getElem_cons_zero]
        go_simp
        (go_at_call 17; refine (sums_any _ ((HU.out.below HC1.out).mono HC1.out.size) ((HL.out.below HC1.out).mono HC1.out.size) HXL.out HLL.out HLI.out).mono ?_; rintro e x2 ⟨sv, rfl, hs2, hb2⟩; obtain ⟨sa, sc, rfl⟩ := SS.ownOf hs2; have HS := Lib.hid hs2; have HB2 := Lib.hid hb2; clear hs2 hb2)
        try go_wp2_with fail
        refine hK.out _ _ ?_ (fun hHeld => ?_)
        · exact beg_held HB2.out HBL1.out hHeld
        clear hK K
        try simp only [List.getElem_toArray, List.getElem_cons_succ, List.getElem_cons_zero, Act.put, List.setIfInBounds_toArray, List.set_cons_zero, List.set_cons_succ]
        have HC2 := Lib.hid (HC1.out.trans (HB2.out.mono HC1.out.size))
        have HBL2 := Lib.hid (Nat.lt_of_lt_of_le HBL1.out HB2.out.size)
        refine wpAnyH_ready (rs := [6, 13]) (by kernel_rfl) (by simp) ?_
        refine AllReadyH.cons rfl (fun K hK => ?_) (AllReadyH.cons rfl (fun K hK => ?_) AllReadyH.nil)
        · skip
          try simp only [List.getElem_toArray, List.getElem_cons_succ, List.getElem_cons_zero]
          go_simp
          (go_at_call 18; refine (askers_any _ ((HG.out.below HC2.out).mono HC2.out.size) HTL.out HTM.out HTI.out).mono ?_; rintro e x3 ⟨rfl, vs, hs3⟩; rewrite [HTN.out]; have HA := Lib.hid hs3; have HB3 := Lib.hid hs3.below; clear hs3)
          try go_wp2_with fail
          refine hK.out _ _ ?_ (fun hHeld => ?_)
          · exact beg_held HB3.out HBL2.out hHeld
          clear hK K
          try simp only [List.getElem_toArray, List.getElem_cons_succ, List.getElem_cons_zero, Act.put, List.setIfInBounds_toArray, List.set_cons_zero, List.set_cons_succ]
          have HC3 := Lib.hid (HC2.out.trans (HB3.out.mono HC2.out.size))
          have HBL3 := Lib.hid (Nat.lt_of_lt_of_le HBL2.out HB3.out.size)
          refine wpAnyH_ready (rs := [9, 13]) (by kernel_rfl) (by simp) ?_
          refine AllReadyH.cons rfl (fun K hK => ?_) (AllReadyH.cons rfl (fun K hK => ?_) AllReadyH.nil)
          · skip
            try simp only [List.getElem_toArray, List.getElem_cons_succ, List.getElem_cons_zero]
            go_simp
            (go_at_call 19; refine (order_anyS _ HTL.out HTM.out HTI.out ((HG.out.below HC3.out).mono HC3.out.size)).mono ?_; rintro e x4 ⟨ov, rfl, hs4, hb4⟩; rewrite [← HOE.out, ← HON.out] at hs4; obtain ⟨oa, oc, rfl⟩ := SS.ownOf hs4; have HO := Lib.hid hs4; have HB4 := Lib.hid hb4; clear hs4 hb4)
            try go_wp2_with fail
            refine hK.out _ _ ?_ (fun hHeld => ?_)
            · exact beg_held HB4.out HBL3.out hHeld
            clear hK K
            try simp only [List.getElem_toArray, List.getElem_cons_succ, List.getElem_cons_zero, Act.put, List.setIfInBounds_toArray, List.set_cons_zero, List.set_cons_succ]
            have HC4 := Lib.hid (HC3.out.trans (HB4.out.mono HC3.out.size))
            have HBL4 := Lib.hid (Nat.lt_of_lt_of_le HBL3.out HB4.out.size)
            refine wpAnyH_ready (rs := [13]) (by kernel_rfl) (by simp) ?_
            refine AllReadyH.cons rfl (fun K hK => ?_) AllReadyH.nil
            try simp only [List.getElem_toArray, List.getElem_cons_succ, List.getElem_cons_zero]
            go_simp
            have HB5 := Lib.hid (show Below x4.heap.size x4 (x4.alloc (.map #[] 0)) from (Below.refl _ _).alloc (Nat.le_refl _) _)
            have HM := Lib.hid (set_new x4)
            have HMZ := Lib.hid (show x4.heap.size < (x4.alloc (.map #[] 0)).heap.size by simp)
            generalize (x4.alloc (.map #[] 0)) = x5 at HB5 HM HMZ ⊢
            try go_wp2_with fail
            refine hK.out _ _ ?_ (fun hHeld => ?_)
            · exact beg_held HB5.out HBL4.out hHeld
            clear hK K
            try simp only [List.getElem_toArray, List.getElem_cons_succ, List.getElem_cons_zero, Act.put, List.setIfInBounds_toArray, List.set_cons_zero, List.set_cons_succ]
            have HC5 := Lib.hid (HC4.out.trans (HB5.out.mono HC4.out.size))
            have HBL5 := Lib.hid (Nat.lt_of_lt_of_le HBL4.out HB5.out.size)
            have HPZ := Lib.hid (show x0.heap.size < x1.heap.size from (HP.out.lt _ rfl).2)
            have HF := Lib.hid (begq_mk HC5.out (by rw [List.length_map]; exact HS.out) HC1.out.size ((HB3.out.trans (HB4.out.mono HB3.out.size)).trans (HB5.out.mono (Nat.le_trans HB3.out.size HB4.out.size))) (by rw [← HTN.out]; exact HA.out.tab) (fun j hj => HA.out.own j (by rw [HTN.out]; exact hj)) HC2.out.size (Nat.le_trans HC2.out.size (Nat.le_succ _)) (HB4.out.trans (HB5.out.mono HB4.out.size)) HO.out HC3.out.size HB5.out HP.out HC0.out.size (((HB2.out.trans (HB3.out.mono HB2.out.size)).trans (HB4.out.mono (Nat.le_trans HB2.out.size HB3.out.size))).trans (HB5.out.mono (Nat.le_trans (Nat.le_trans HB2.out.size HB3.out.size) HB4.out.size))) HM.out HC4.out.size (Below.refl _ _) HMZ.out (.inl (by have h1 := HPZ.out; have h2 : x1.heap.size ≤ x3.heap.size := (HB2.out.trans (HB3.out.mono HB2.out.size)).size; omega)) (.inl (by have h1 := HPZ.out; have h2 : x1.heap.size ≤ x2.heap.size := HB2.out.size; omega)))
            clear HB1 HB2 HB3 HB4 HB5 HS HA HO HP HM HMZ HPZ
            refine wpAnyH_take (i := 14) (v := .agg #[.slice sa l.length sc, .slice (some ⟨x2.heap.size, 0, none⟩) l.length l.length, .slice oa ol.length oc, .slice (some ⟨x0.heap.size, 0, none⟩) l.length l.length, .slice none 0 0, .map (some x4.heap.size)]) rfl (by kernel_rfl) (by kernel_rfl) (by kernel_rfl) (fun _ _ _ h => h) (Or.inl ⟨by rfl, fun W hSW => ?_⟩) hHeld ?_
            · ((try dsimp only at hSW); go_split_ands; go_simp <;> with_reducible rfl)
            try simp only [List.getElem_toArray, List.getElem_cons_succ, List.getElem_cons_zero, Act.put, List.setIfInBounds_toArray, List.set_cons_zero, List.set_cons_succ]
            refine wpAnyH_ready (rs := [15]) (by kernel_rfl) (by simp) ?_
            refine AllReadyH.cons rfl (fun K hK => ?_) AllReadyH.nil
            try simp only [List.getElem_toArray, List.getElem_cons_succ, List.getElem_cons_zero]
            go_simp
            try go_wp2_with fail
            refine hK.out _ _ ?_ (fun hHeld => ?_)
            · exact beg_held ((Below.refl _ _).alloc (Nat.le_refl _) _) HBL5.out hHeld
            clear hK K
            try simp only [List.getElem_toArray, List.getElem_cons_succ, List.getElem_cons_zero, Act.put, List.setIfInBounds_toArray, List.set_cons_zero, List.set_cons_succ]
            refine wpAnyH_take (i := 16) (v := .pointer (some ⟨x5.heap.size, 0, none⟩)) rfl (by kernel_rfl) (by kernel_rfl) (by kernel_rfl) (fun _ _ _ h => h) (Or.inl ⟨by rfl, fun W hSW => ?_⟩) hHeld ?_
            · ((try dsimp only at hSW); go_split_ands; go_simp <;> with_reducible rfl)
            try simp only [List.getElem_toArray, List.getElem_cons_succ, List.getElem_cons_zero, Act.put, List.setIfInBounds_toArray, List.set_cons_zero, List.set_cons_succ]
            refine wpAnyH_done (by kernel_rfl) ?_ _
            clear hHeld
            go_wp2_with fail
            go_meet
            case rel => exact HF.out
          · skip
            try simp only [List.getElem_toArray, List.getElem_cons_succ, List.getElem_cons_zero]
            go_simp
            have HB4 := Lib.hid (show Below x3.heap.size x3 (x3.alloc (.map #[] 0)) from (Below.refl _ _).alloc (Nat.le_refl _) _)
            have HM := Lib.hid (set_new x3)
            have HMZ := Lib.hid (show x3.heap.size < (x3.alloc (.map #[] 0)).heap.size by simp)
            generalize (x3.alloc (.map #[] 0)) = x4 at HB4 HM HMZ ⊢
            try go_wp2_with fail
            refine hK.out _ _ ?_ (fun hHeld => ?_)
            · exact beg_held HB4.out HBL3.out hHeld
            clear hK K
            try simp only [List.getElem_toArray, List.getElem_cons_succ, List.getElem_cons_zero, Act.put, List.setIfInBounds_toArray, List.set_cons_zero, List.set_cons_succ]
            have HC4 := Lib.hid (HC3.out.trans (HB4.out.mono HC3.out.size))
            have HBL4 := Lib.hid (Nat.lt_of_lt_of_le HBL3.out HB4.out.size)
            refine wpAnyH_ready (rs := [9]) (by kernel_rfl) (by simp) ?_
            refine AllReadyH.cons rfl (fun K hK => ?_) AllReadyH.nil
            try simp only [List.getElem_toArray, List.getElem_cons_succ, List.getElem_cons_zero]
            go_simp
            (go_at_call 19; refine (order_anyS _ HTL.out HTM.out HTI.out ((HG.out.below HC4.out).mono HC4.out.size)).mono ?_; rintro e x5 ⟨ov, rfl, hs5, hb5⟩; rewrite [← HOE.out, ← HON.out] at hs5; obtain ⟨oa, oc, rfl⟩ := SS.ownOf hs5; have HO := Lib.hid hs5; have HB5 := Lib.hid hb5; clear hs5 hb5)
            try go_wp2_with fail
            refine hK.out _ _ ?_ (fun hHeld => ?_)
            · exact beg_held HB5.out HBL4.out hHeld
            clear hK K
            try simp only [List.getElem_toArray, List.getElem_cons_succ, List.getElem_cons_zero, Act.put, List.setIfInBounds_toArray, List.set_cons_zero, List.set_cons_succ]
            have HC5 := Lib.hid (HC4.out.trans (HB5.out.mono HC4.out.size))
            have HBL5 := Lib.hid (Nat.lt_of_lt_of_le HBL4.out HB5.out.size)
            have HPZ := Lib.hid (show x0.heap.size < x1.heap.size from (HP.out.lt _ rfl).2)
            have HF := Lib.hid (begq_mk HC5.out (by rw [List.length_map]; exact HS.out) HC1.out.size ((HB3.out.trans (HB4.out.mono HB3.out.size)).trans (HB5.out.mono (Nat.le_trans HB3.out.size HB4.out.size))) (by rw [← HTN.out]; exact HA.out.tab) (fun j hj => HA.out.own j (by rw [HTN.out]; exact hj)) HC2.out.size (Nat.le_trans HC2.out.size (Nat.le_succ _)) (HB4.out.trans (HB5.out.mono HB4.out.size)) HO.out HC4.out.size (Below.refl _ _) HP.out HC0.out.size (((HB2.out.trans (HB3.out.mono HB2.out.size)).trans (HB4.out.mono (Nat.le_trans HB2.out.size HB3.out.size))).trans (HB5.out.mono (Nat.le_trans (Nat.le_trans HB2.out.size HB3.out.size) HB4.out.size))) HM.out HC3.out.size HB5.out HMZ.out (.inl (by have h1 := HPZ.out; have h2 : x1.heap.size ≤ x4.heap.size := ((HB2.out.trans (HB3.out.mono HB2.out.size)).trans (HB4.out.mono (Nat.le_trans HB2.out.size HB3.out.size))).size; omega)) (.inl (by have h1 := HPZ.out; have h2 : x1.heap.size ≤ x2.heap.size := HB2.out.size; omega)))
            clear HB1 HB2 HB3 HB4 HB5 HS HA HO HP HM HMZ HPZ
            refine wpAnyH_take (i := 14) (v := .agg #[.slice sa l.length sc, .slice (some ⟨x2.heap.size, 0, none⟩) l.length l.length, .slice oa ol.length oc, .slice (some ⟨x0.heap.size, 0, none⟩) l.length l.length, .slice none 0 0, .map (some x3.heap.size)]) rfl (by kernel_rfl) (by kernel_rfl) (by kernel_rfl) (fun _ _ _ h => h) (Or.inl ⟨by rfl, fun W hSW => ?_⟩) hHeld ?_
            · ((try dsimp only at hSW); go_split_ands; go_simp <;> with_reducible rfl)
            try simp only [List.getElem_toArray, List.getElem_cons_succ, List.getElem_cons_zero, Act.put, List.setIfInBounds_toArray, List.set_cons_zero, List.set_cons_succ]
            refine wpAnyH_ready (rs := [15]) (by kernel_rfl) (by simp) ?_
            refine AllReadyH.cons rfl (fun K hK => ?_) AllReadyH.nil
            try simp only [List.getElem_toArray, List.getElem_cons_succ, List.getElem_cons_zero]
            go_simp
            try go_wp2_with fail
            refine hK.out _ _ ?_ (fun hHeld => ?_)
            · exact beg_held ((Below.refl _ _).alloc (Nat.le_refl _) _) HBL5.out hHeld
            clear hK K
            try simp only [List.getElem_toArray, List.getElem_cons_succ, List.getElem_cons_zero, Act.put, List.setIfInBounds_toArray, List.set_cons_zero, List.set_cons_succ]
            refine wpAnyH_take (i := 16) (v := .pointer (some ⟨x5.heap.size, 0, none⟩)) rfl (by kernel_rfl) (by kernel_rfl) (by kernel_rfl) (fun _ _ _ h => h) (Or.inl ⟨by rfl, fun W hSW => ?_⟩) hHeld ?_
            · ((try dsimp only at hSW); go_split_ands; go_simp <;> with_reducible rfl)
            try simp only [List.getElem_toArray, List.getElem_cons_succ, List.getElem_cons_zero, Act.put, List.setIfInBounds_toArray, List.set_cons_zero, List.set_cons_succ]
            refine wpAnyH_done (by kernel_rfl) ?_ _
            clear hHeld
            go_wp2_with fail
            go_meet
            case rel => exact HF.out
        · skip
          try simp only [List.getElem_toArray, List.getElem_cons_succ, List.getElem_cons_zero]
          go_simp
          have HB3 := Lib.hid (show Below x2.heap.size x2 (x2.alloc (.map #[] 0)) from (Below.refl _ _).alloc (Nat.le_refl _) _)
          have HM := Lib.hid (set_new x2)
          have HMZ := Lib.hid (show x2.heap.size < (x2.alloc (.map #[] 0)).heap.size by simp)
          generalize (x2.alloc (.map #[] 0)) = x3 at HB3 HM HMZ ⊢
          try go_wp2_with fail
          refine hK.out _ _ ?_ (fun hHeld => ?_)
          · exact beg_held HB3.out HBL2.out hHeld
          clear hK K
          try simp only [List.getElem_toArray, List.getElem_cons_succ, List.getElem_cons_zero, Act.put, List.setIfInBounds_toArray, List.set_cons_zero, List.set_cons_succ]
          have HC3 := Lib.hid (HC2.out.trans (HB3.out.mono HC2.out.size))
          have HBL3 := Lib.hid (Nat.lt_of_lt_of_le HBL2.out HB3.out.size)
          refine wpAnyH_ready (rs := [6]) (by kernel_rfl) (by simp) ?_
          refine AllReadyH.cons rfl (fun K hK => ?_) AllReadyH.nil
          try simp only [List.getElem_toArray, List.getElem_cons_succ, List.getElem_cons_zero]
          go_simp
          (go_at_call 18; refine (askers_any _ ((HG.out.below HC3.out).mono HC3.out.size) HTL.out HTM.out HTI.out).mono ?_; rintro e x4 ⟨rfl, vs, hs4⟩; rewrite [HTN.out]; have HA := Lib.hid hs4; have HB4 := Lib.hid hs4.below; clear hs4)
          try go_wp2_with fail
          refine hK.out _ _ ?_ (fun hHeld => ?_)
          · exact beg_held HB4.out HBL3.out hHeld
          clear hK K
          try simp only [List.getElem_toArray, List.getElem_cons_succ, List.getElem_cons_zero, Act.put, List.setIfInBounds_toArray, List.set_cons_zero, List.set_cons_succ]
          have HC4 := Lib.hid (HC3.out.trans (HB4.out.mono HC3.out.size))
          have HBL4 := Lib.hid (Nat.lt_of_lt_of_le HBL3.out HB4.out.size)
          refine wpAnyH_ready (rs := [9]) (by kernel_rfl) (by simp) ?_
          refine AllReadyH.cons rfl (fun K hK => ?_) AllReadyH.nil
          try simp only [List.getElem_toArray, List.getElem_cons_succ, List.getElem_cons_zero]
          go_simp
          (go_at_call 19; refine (order_anyS _ HTL.out HTM.out HTI.out ((HG.out.below HC4.out).mono HC4.out.size)).mono ?_; rintro e x5 ⟨ov, rfl, hs5, hb5⟩; rewrite [← HOE.out, ← HON.out] at hs5; obtain ⟨oa, oc, rfl⟩ := SS.ownOf hs5; have HO := Lib.hid hs5; have HB5 := Lib.hid hb5; clear hs5 hb5)
          try go_wp2_with fail
          refine hK.out _ _ ?_ (fun hHeld => ?_)
          · exact beg_held HB5.out HBL4.out hHeld
          clear hK K
          try simp only [List.getElem_toArray, List.getElem_cons_succ, List.getElem_cons_zero, Act.put, List.setIfInBounds_toArray, List.set_cons_zero, List.set_cons_succ]
          have HC5 := Lib.hid (HC4.out.trans (HB5.out.mono HC4.out.size))
          have HBL5 := Lib.hid (Nat.lt_of_lt_of_le HBL4.out HB5.out.size)
          have HPZ := Lib.hid (show x0.heap.size < x1.heap.size from (HP.out.lt _ rfl).2)
          have HF := Lib.hid (begq_mk HC5.out (by rw [List.length_map]; exact HS.out) HC1.out.size ((HB3.out.trans (HB4.out.mono HB3.out.size)).trans (HB5.out.mono (Nat.le_trans HB3.out.size HB4.out.size))) (by rw [← HTN.out]; exact HA.out.tab) (fun j hj => HA.out.own j (by rw [HTN.out]; exact hj)) HC3.out.size (Nat.le_trans HC3.out.size (Nat.le_succ _)) HB5.out HO.out HC4.out.size (Below.refl _ _) HP.out HC0.out.size (((HB2.out.trans (HB3.out.mono HB2.out.size)).trans (HB4.out.mono (Nat.le_trans HB2.out.size HB3.out.size))).trans (HB5.out.mono (Nat.le_trans (Nat.le_trans HB2.out.size HB3.out.size) HB4.out.size))) HM.out HC2.out.size (HB4.out.trans (HB5.out.mono HB4.out.size)) HMZ.out (.inl (by have h1 := HPZ.out; have h2 : x1.heap.size ≤ x4.heap.size := ((HB2.out.trans (HB3.out.mono HB2.out.size)).trans (HB4.out.mono (Nat.le_trans HB2.out.size HB3.out.size))).size; omega)) (.inl (by have h1 := HPZ.out; have h2 : x1.heap.size ≤ x3.heap.size := (HB2.out.trans (HB3.out.mono HB2.out.size)).size; omega)))
          clear HB1 HB2 HB3 HB4 HB5 HS HA HO HP HM HMZ HPZ
          refine wpAnyH_take (i := 14) (v := .agg #[.slice sa l.length sc, .slice (some ⟨x3.heap.size, 0, none⟩) l.length l.length, .slice oa ol.length oc, .slice (some ⟨x0.heap.size, 0, none⟩) l.length l.length, .slice none 0 0, .map (some x2.heap.size)]) rfl (by kernel_rfl) (by kernel_rfl) (by kernel_rfl) (fun _ _ _ h => h) (Or.inl ⟨by rfl, fun W hSW => ?_⟩) hHeld ?_
          · ((try dsimp only at hSW); go_split_ands; go_simp <;> with_reducible rfl)
          try simp only [List.getElem_toArray, List.getElem_cons_succ, List.getElem_cons_zero, Act.put, List.setIfInBounds_toArray, List.set_cons_zero, List.set_cons_succ]
          refine wpAnyH_ready (rs := [15]) (by kernel_rfl) (by simp) ?_
          refine AllReadyH.cons rfl (fun K hK => ?_) AllReadyH.nil
          try simp only [List.getElem_toArray, List.getElem_cons_succ, List.getElem_cons_zero]
          go_simp
          try go_wp2_with fail
          refine hK.out _ _ ?_ (fun hHeld => ?_)
          · exact beg_held ((Below.refl _ _).alloc (Nat.le_refl _) _) HBL5.out hHeld
          clear hK K
          try simp only [List.getElem_toArray, List.getElem_cons_succ, List.getElem_cons_zero, Act.put, List.setIfInBounds_toArray, List.set_cons_zero, List.set_cons_succ]
          refine wpAnyH_take (i := 16) (v := .pointer (some ⟨x5.heap.size, 0, none⟩)) rfl (by kernel_rfl) (by kernel_rfl) (by kernel_rfl) (fun _ _ _ h => h) (Or.inl ⟨by rfl, fun W hSW => ?_⟩) hHeld ?_
          · ((try dsimp only at hSW); go_split_ands; go_simp <;> with_reducible rfl)
          try simp only [List.getElem_toArray, List.getElem_cons_succ, List.getElem_cons_zero, Act.put, List.setIfInBounds_toArray, List.set_cons_zero, List.set_cons_succ]
          refine wpAnyH_done (by kernel_rfl) ?_ _
          clear hHeld
          go_wp2_with fail
          go_meet
          case rel => exact HF.out
      · skip
        try simp only [List.getElem_toArray, List.getElem_cons_succ, List.getElem_cons_zero]
        go_simp
        have HB2 := Lib.hid (show Below x1.heap.size x1 (x1.alloc (.map #[] 0)) from (Below.refl _ _).alloc (Nat.le_refl _) _)
        have HM := Lib.hid (set_new x1)
        have HMZ := Lib.hid (show x1.heap.size < (x1.alloc (.map #[] 0)).heap.size by simp)
        generalize (x1.alloc (.map #[] 0)) = x2 at HB2 HM HMZ ⊢
        try go_wp2_with fail
        refine hK.out _ _ ?_ (fun hHeld => ?_)
        · exact beg_held HB2.out HBL1.out hHeld
        clear hK K
        try simp only [List.getElem_toArray, List.getElem_cons_succ, List.getElem_cons_zero, Act.put, List.setIfInBounds_toArray, List.set_cons_zero, List.set_cons_succ]
        have HC2 := Lib.hid (HC1.out.trans (HB2.out.mono HC1.out.size))
        have HBL2 := Lib.hid (Nat.lt_of_lt_of_le HBL1.out HB2.out.size)
        refine wpAnyH_ready (rs := [3]) (by kernel_rfl) (by simp) ?_
        refine AllReadyH.cons rfl (fun K hK => ?_) AllReadyH.nil
        try simp only [List.getElem_toArray, List.getElem_cons_succ, List.getElem_cons_zero]
        go_simp
        (go_at_call 17; refine (sums_any _ ((HU.out.below HC2.out).mono HC2.out.size) ((HL.out.below HC2.out).mono HC2.out.size) HXL.out HLL.out HLI.out).mono ?_; rintro e x3 ⟨sv, rfl, hs3, hb3⟩; obtain ⟨sa, sc, rfl⟩ := SS.ownOf hs3; have HS := Lib.hid hs3; have HB3 := Lib.hid hb3; clear hs3 hb3)
        try go_wp2_with fail
        refine hK.out _ _ ?_ (fun hHeld => ?_)
        · exact beg_held HB3.out HBL2.out hHeld
        clear hK K
        try simp only [List.getElem_toArray, List.getElem_cons_succ, List.getElem_cons_zero, Act.put, List.setIfInBounds_toArray, List.set_cons_zero, List.set_cons_succ]
        have HC3 := Lib.hid (HC2.out.trans (HB3.out.mono HC2.out.size))
        have HBL3 := Lib.hid (Nat.lt_of_lt_of_le HBL2.out HB3.out.size)
        refine wpAnyH_ready (rs := [6]) (by kernel_rfl) (by simp) ?_
        refine AllReadyH.cons rfl (fun K hK => ?_) AllReadyH.nil
        try simp only [List.getElem_toArray, List.getElem_cons_succ, List.getElem_cons_zero]
        go_simp
        (go_at_call 18; refine (askers_any _ ((HG.out.below HC3.out).mono HC3.out.size) HTL.out HTM.out HTI.out).mono ?_; rintro e x4 ⟨rfl, vs, hs4⟩; rewrite [HTN.out]; have HA := Lib.hid hs4; have HB4 := Lib.hid hs4.below; clear hs4)
        try go_wp2_with fail
        refine hK.out _ _ ?_ (fun hHeld => ?_)
        · exact beg_held HB4.out HBL3.out hHeld
        clear hK K
        try simp only [List.getElem_toArray, List.getElem_cons_succ, List.getElem_cons_zero, Act.put, List.setIfInBounds_toArray, List.set_cons_zero, List.set_cons_succ]
        have HC4 := Lib.hid (HC3.out.trans (HB4.out.mono HC3.out.size))
        have HBL4 := Lib.hid (Nat.lt_of_lt_of_le HBL3.out HB4.out.size)
        refine wpAnyH_ready (rs := [9]) (by kernel_rfl) (by simp) ?_
        refine AllReadyH.cons rfl (fun K hK => ?_) AllReadyH.nil
        try simp only [List.getElem_toArray, List.getElem_cons_succ, List.getElem_cons_zero]
        go_simp
        (go_at_call 19; refine (order_anyS _ HTL.out HTM.out HTI.out ((HG.out.below HC4.out).mono HC4.out.size)).mono ?_; rintro e x5 ⟨ov, rfl, hs5, hb5⟩; rewrite [← HOE.out, ← HON.out] at hs5; obtain ⟨oa, oc, rfl⟩ := SS.ownOf hs5; have HO := Lib.hid hs5; have HB5 := Lib.hid hb5; clear hs5 hb5)
        try go_wp2_with fail
        refine hK.out _ _ ?_ (fun hHeld => ?_)
        · exact beg_held HB5.out HBL4.out hHeld
        clear hK K
        try simp only [List.getElem_toArray, List.getElem_cons_succ, List.getElem_cons_zero, Act.put, List.setIfInBounds_toArray, List.set_cons_zero, List.set_cons_succ]
        have HC5 := Lib.hid (HC4.out.trans (HB5.out.mono HC4.out.size))
        have HBL5 := Lib.hid (Nat.lt_of_lt_of_le HBL4.out HB5.out.size)
        have HPZ := Lib.hid (show x0.heap.size < x1.heap.size from (HP.out.lt _ rfl).2)
        have HF := Lib.hid (begq_mk HC5.out (by rw [List.length_map]; exact HS.out) HC2.out.size (HB4.out.trans (HB5.out.mono HB4.out.size)) (by rw [← HTN.out]; exact HA.out.tab) (fun j hj => HA.out.own j (by rw [HTN.out]; exact hj)) HC3.out.size (Nat.le_trans HC3.out.size (Nat.le_succ _)) HB5.out HO.out HC4.out.size (Below.refl _ _) HP.out HC0.out.size (((HB2.out.trans (HB3.out.mono HB2.out.size)).trans (HB4.out.mono (Nat.le_trans HB2.out.size HB3.out.size))).trans (HB5.out.mono (Nat.le_trans (Nat.le_trans HB2.out.size HB3.out.size) HB4.out.size))) HM.out HC1.out.size ((HB3.out.trans (HB4.out.mono HB3.out.size)).trans (HB5.out.mono (Nat.le_trans HB3.out.size HB4.out.size))) HMZ.out (.inl (by have h1 := HPZ.out; have h2 : x1.heap.size ≤ x4.heap.size := ((HB2.out.trans (HB3.out.mono HB2.out.size)).trans (HB4.out.mono (Nat.le_trans HB2.out.size HB3.out.size))).size; omega)) (.inl (by have h1 := HPZ.out; have h2 : x1.heap.size ≤ x3.heap.size := (HB2.out.trans (HB3.out.mono HB2.out.size)).size; omega)))
        clear HB1 HB2 HB3 HB4 HB5 HS HA HO HP HM HMZ HPZ
        refine wpAnyH_take (i := 14) (v := .agg #[.slice sa l.length sc, .slice (some ⟨x3.heap.size, 0, none⟩) l.length l.length, .slice oa ol.length oc, .slice (some ⟨x0.heap.size, 0, none⟩) l.length l.length, .slice none 0 0, .map (some x1.heap.size)]) rfl (by kernel_rfl) (by kernel_rfl) (by kernel_rfl) (fun _ _ _ h => h) (Or.inl ⟨by rfl, fun W hSW => ?_⟩) hHeld ?_
        · ((try dsimp only at hSW); go_split_ands; go_simp <;> with_reducible rfl)
        try simp only [List.getElem_toArray, List.getElem_cons_succ, List.getElem_cons_zero, Act.put, List.setIfInBounds_toArray, List.set_cons_zero, List.set_cons_succ]
        refine wpAnyH_ready (rs := [15]) (by kernel_rfl) (by simp) ?_
        refine AllReadyH.cons rfl (fun K hK => ?_) AllReadyH.nil
        try simp only [List.getElem_toArray, List.getElem_cons_succ, List.getElem_cons_zero]
        go_simp
        try go_wp2_with fail
        refine hK.out _ _ ?_ (fun hHeld => ?_)
        · exact beg_held ((Below.refl _ _).alloc (Nat.le_refl _) _) HBL5.out hHeld
        clear hK K
        try simp only [List.getElem_toArray, List.getElem_cons_succ, List.getElem_cons_zero, Act.put, List.setIfInBounds_toArray, List.set_cons_zero, List.set_cons_succ]
        refine wpAnyH_take (i := 16) (v := .pointer (some ⟨x5.heap.size, 0, none⟩)) rfl (by kernel_rfl) (by kernel_rfl) (by kernel_rfl) (fun _ _ _ h => h) (Or.inl ⟨by rfl, fun W hSW => ?_⟩) hHeld ?_
        · ((try dsimp only at hSW); go_split_ands; go_simp <;> with_reducible rfl)
        try simp only [List.getElem_toArray, List.getElem_cons_succ, List.getElem_cons_zero, Act.put, List.setIfInBounds_toArray, List.set_cons_zero, List.set_cons_succ]
        refine wpAnyH_done (by kernel_rfl) ?_ _
        clear hHeld
        go_wp2_with fail
        go_meet
        case rel => exact HF.out
    · skip
      try simp only [List.getElem_toArray, List.getElem_cons_succ, List.getElem_cons_zero]
      go_simp
      have HB1 := Lib.hid (show Below x0.heap.size x0 (x0.alloc (.map #[] 0)) from (Below.refl _ _).alloc (Nat.le_refl _) _)
      have HM := Lib.hid (set_new x0)
      have HMZ := Lib.hid (show x0.heap.size < (x0.alloc (.map #[] 0)).heap.size by simp)
      generalize (x0.alloc (.map #[] 0)) = x1 at HB1 HM HMZ ⊢
      try go_wp2_with fail
      refine hK.out _ _ ?_ (fun hHeld => ?_)
      · exact beg_held HB1.out HBL0.out hHeld
      clear hK K
      try simp only [List.getElem_toArray, List.getElem_cons_succ, List.getElem_cons_zero, Act.put, List.setIfInBounds_toArray, List.set_cons_zero, List.set_cons_succ]
      have HC1 := Lib.hid (HC0.out.trans (HB1.out.mono HC0.out.size))
      have HBL1 := Lib.hid (Nat.lt_of_lt_of_le HBL0.out HB1.out.size)
      refine wpAnyH_ready (rs := [3, 11]) (by kernel_rfl) (by simp) ?_
      refine AllReadyH.cons rfl (fun K hK => ?_) (AllReadyH.cons rfl (fun K hK => ?_) AllReadyH.nil)
      · skip
        try simp only [List.getElem_toArray, List.getElem_cons_succ, List.getElem_cons_zero]
        go_simp
        (go_at_call 17; refine (sums_any _ ((HU.out.below HC1.out).mono HC1.out.size) ((HL.out.below HC1.out).mono HC1.out.size) HXL.out HLL.out HLI.out).mono ?_; rintro e x2 ⟨sv, rfl, hs2, hb2⟩; obtain ⟨sa, sc, rfl⟩ := SS.ownOf hs2; have HS := Lib.hid hs2; have HB2 := Lib.hid hb2; clear hs2 hb2)
        try go_wp2_with fail
        refine hK.out _ _ ?_ (fun hHeld => ?_)
        · exact beg_held HB2.out HBL1.out hHeld
        clear hK K
        try simp only [List.getElem_toArray, List.getElem_cons_succ, List.getElem_cons_zero, Act.put, List.setIfInBounds_toArray, List.set_cons_zero, List.set_cons_succ]
        have HC2 := Lib.hid (HC1.out.trans (HB2.out.mono HC1.out.size))
        have HBL2 := Lib.hid (Nat.lt_of_lt_of_le HBL1.out HB2.out.size)
        refine wpAnyH_ready (rs := [6, 11]) (by kernel_rfl) (by simp) ?_
        refine AllReadyH.cons rfl (fun K hK => ?_) (AllReadyH.cons rfl (fun K hK => ?_) AllReadyH.nil)
        · skip
          try simp only [List.getElem_toArray, List.getElem_cons_succ, List.getElem_cons_zero]
          go_simp
          (go_at_call 18; refine (askers_any _ ((HG.out.below HC2.out).mono HC2.out.size) HTL.out HTM.out HTI.out).mono ?_; rintro e x3 ⟨rfl, vs, hs3⟩; rewrite [HTN.out]; have HA := Lib.hid hs3; have HB3 := Lib.hid hs3.below; clear hs3)
          try go_wp2_with fail
          refine hK.out _ _ ?_ (fun hHeld => ?_)
          · exact beg_held HB3.out HBL2.out hHeld
          clear hK K
          try simp only [List.getElem_toArray, List.getElem_cons_succ, List.getElem_cons_zero, Act.put, List.setIfInBounds_toArray, List.set_cons_zero, List.set_cons_succ]
          have HC3 := Lib.hid (HC2.out.trans (HB3.out.mono HC2.out.size))
          have HBL3 := Lib.hid (Nat.lt_of_lt_of_le HBL2.out HB3.out.size)
          refine wpAnyH_ready (rs := [9, 11]) (by kernel_rfl) (by simp) ?_
          refine AllReadyH.cons rfl (fun K hK => ?_) (AllReadyH.cons rfl (fun K hK => ?_) AllReadyH.nil)
          · skip
            try simp only [List.getElem_toArray, List.getElem_cons_succ, List.getElem_cons_zero]
            go_simp
            (go_at_call 19; refine (order_anyS _ HTL.out HTM.out HTI.out ((HG.out.below HC3.out).mono HC3.out.size)).mono ?_; rintro e x4 ⟨ov, rfl, hs4, hb4⟩; rewrite [← HOE.out, ← HON.out] at hs4; obtain ⟨oa, oc, rfl⟩ := SS.ownOf hs4; have HO := Lib.hid hs4; have HB4 := Lib.hid hb4; clear hs4 hb4)
            try go_wp2_with fail
            refine hK.out _ _ ?_ (fun hHeld => ?_)
            · exact beg_held HB4.out HBL3.out hHeld
            clear hK K
            try simp only [List.getElem_toArray, List.getElem_cons_succ, List.getElem_cons_zero, Act.put, List.setIfInBounds_toArray, List.set_cons_zero, List.set_cons_succ]
            have HC4 := Lib.hid (HC3.out.trans (HB4.out.mono HC3.out.size))
            have HBL4 := Lib.hid (Nat.lt_of_lt_of_le HBL3.out HB4.out.size)
            refine wpAnyH_ready (rs := [11]) (by kernel_rfl) (by simp) ?_
            refine AllReadyH.cons rfl (fun K hK => ?_) AllReadyH.nil
            try simp only [List.getElem_toArray, List.getElem_cons_succ, List.getElem_cons_zero]
            go_simp
            have HB5 := Lib.hid (show Below x4.heap.size x4 (x4.alloc (.cells (madeCells #[.int .i64 0] l.length) 3)) from (Below.refl _ _).alloc (Nat.le_refl _) _)
            have HP := Lib.hid (zeros_row x4 x4.heap.size l.length (Nat.le_refl _) HLL.out)
            generalize (x4.alloc (.cells (madeCells #[.int .i64 0] l.length) 3)) = x5 at HB5 HP ⊢
            try go_wp2_with fail
            refine hK.out _ _ ?_ (fun hHeld => ?_)
            · exact beg_held HB5.out HBL4.out hHeld
            clear hK K
            try simp only [List.getElem_toArray, List.getElem_cons_succ, List.getElem_cons_zero, Act.put, List.setIfInBounds_toArray, List.set_cons_zero, List.set_cons_succ]
            have HC5 := Lib.hid (HC4.out.trans (HB5.out.mono HC4.out.size))
            have HBL5 := Lib.hid (Nat.lt_of_lt_of_le HBL4.out HB5.out.size)
            have HPZ := Lib.hid (show x4.heap.size < x5.heap.size from (HP.out.lt _ rfl).2)
            have HF := Lib.hid (begq_mk HC5.out (by rw [List.length_map]; exact HS.out) HC1.out.size ((HB3.out.trans (HB4.out.mono HB3.out.size)).trans (HB5.out.mono (Nat.le_trans HB3.out.size HB4.out.size))) (by rw [← HTN.out]; exact HA.out.tab) (fun j hj => HA.out.own j (by rw [HTN.out]; exact hj)) HC2.out.size (Nat.le_trans HC2.out.size (Nat.le_succ _)) (HB4.out.trans (HB5.out.mono HB4.out.size)) HO.out HC3.out.size HB5.out HP.out HC4.out.size (Below.refl _ _) HM.out HC0.out.size (((HB2.out.trans (HB3.out.mono HB2.out.size)).trans (HB4.out.mono (Nat.le_trans HB2.out.size HB3.out.size))).trans (HB5.out.mono (Nat.le_trans (Nat.le_trans HB2.out.size HB3.out.size) HB4.out.size))) HMZ.out (.inr (by have h2 : x4.heap.size ≤ x4.heap.size := Nat.le_refl _; omega)) (.inr (by have h2 : x3.heap.size ≤ x4.heap.size := HB4.out.size; omega)))
            clear HB1 HB2 HB3 HB4 HB5 HS HA HO HP HM HMZ HPZ
            refine wpAnyH_take (i := 14) (v := .agg #[.slice sa l.length sc, .slice (some ⟨x2.heap.size, 0, none⟩) l.length l.length, .slice oa ol.length oc, .slice (some ⟨x4.heap.size, 0, none⟩) l.length l.length, .slice none 0 0, .map (some x0.heap.size)]) rfl (by kernel_rfl) (by kernel_rfl) (by kernel_rfl) (fun _ _ _ h => h) (Or.inl ⟨by rfl, fun W hSW => ?_⟩) hHeld ?_
            · ((try dsimp only at hSW); go_split_ands; go_simp <;> with_reducible rfl)
            try simp only [List.getElem_toArray, List.getElem_cons_succ, List.getElem_cons_zero, Act.put, List.setIfInBounds_toArray, List.set_cons_zero, List.set_cons_succ]
            refine wpAnyH_ready (rs := [15]) (by kernel_rfl) (by simp) ?_
            refine AllReadyH.cons rfl (fun K hK => ?_) AllReadyH.nil
            try simp only [List.getElem_toArray, List.getElem_cons_succ, List.getElem_cons_zero]
            go_simp
            try go_wp2_with fail
            refine hK.out _ _ ?_ (fun hHeld => ?_)
            · exact beg_held ((Below.refl _ _).alloc (Nat.le_refl _) _) HBL5.out hHeld
            clear hK K
            try simp only [List.getElem_toArray, List.getElem_cons_succ, List.getElem_cons_zero, Act.put, List.setIfInBounds_toArray, List.set_cons_zero, List.set_cons_succ]
            refine wpAnyH_take (i := 16) (v := .pointer (some ⟨x5.heap.size, 0, none⟩)) rfl (by kernel_rfl) (by kernel_rfl) (by kernel_rfl) (fun _ _ _ h => h) (Or.inl ⟨by rfl, fun W hSW => ?_⟩) hHeld ?_
            · ((try dsimp only at hSW); go_split_ands; go_simp <;> with_reducible rfl)
            try simp only [List.getElem_toArray, List.getElem_cons_succ, List.getElem_cons_zero, Act.put, List.setIfInBounds_toArray, List.set_cons_zero, List.set_cons_succ]
            refine wpAnyH_done (by kernel_rfl) ?_ _
            clear hHeld
            go_wp2_with fail
            go_meet
            case rel => exact HF.out
          · skip
            try simp only [List.getElem_toArray, List.getElem_cons_succ, List.getElem_cons_zero]
            go_simp
            have HB4 := Lib.hid (show Below x3.heap.size x3 (x3.alloc (.cells (madeCells #[.int .i64 0] l.length) 3)) from (Below.refl _ _).alloc (Nat.le_refl _) _)
            have HP := Lib.hid (zeros_row x3 x3.heap.size l.length (Nat.le_refl _) HLL.out)
            generalize (x3.alloc (.cells (madeCells #[.int .i64 0] l.length) 3)) = x4 at HB4 HP ⊢
            try go_wp2_with fail
            refine hK.out _ _ ?_ (fun hHeld => ?_)
            · exact beg_held HB4.out HBL3.out hHeld
            clear hK K
            try simp only [List.getElem_toArray, List.getElem_cons_succ, List.getElem_cons_zero, Act.put, List.setIfInBounds_toArray, List.set_cons_zero, List.set_cons_succ]
            have HC4 := Lib.hid (HC3.out.trans (HB4.out.mono HC3.out.size))
            have HBL4 := Lib.hid (Nat.lt_of_lt_of_le HBL3.out HB4.out.size)
            refine wpAnyH_ready (rs := [9]) (by kernel_rfl) (by simp) ?_
            refine AllReadyH.cons rfl (fun K hK => ?_) AllReadyH.nil
            try simp only [List.getElem_toArray, List.getElem_cons_succ, List.getElem_cons_zero]
            go_simp
            (go_at_call 19; refine (order_anyS _ HTL.out HTM.out HTI.out ((HG.out.below HC4.out).mono HC4.out.size)).mono ?_; rintro e x5 ⟨ov, rfl, hs5, hb5⟩; rewrite [← HOE.out, ← HON.out] at hs5; obtain ⟨oa, oc, rfl⟩ := SS.ownOf hs5; have HO := Lib.hid hs5; have HB5 := Lib.hid hb5; clear hs5 hb5)
            try go_wp2_with fail
            refine hK.out _ _ ?_ (fun hHeld => ?_)
            · exact beg_held HB5.out HBL4.out hHeld
            clear hK K
            try simp only [List.getElem_toArray, List.getElem_cons_succ, List.getElem_cons_zero, Act.put, List.setIfInBounds_toArray, List.set_cons_zero, List.set_cons_succ]
            have HC5 := Lib.hid (HC4.out.trans (HB5.out.mono HC4.out.size))
            have HBL5 := Lib.hid (Nat.lt_of_lt_of_le HBL4.out HB5.out.size)
            have HPZ := Lib.hid (show x3.heap.size < x4.heap.size from (HP.out.lt _ rfl).2)
            have HF := Lib.hid (begq_mk HC5.out (by rw [List.length_map]; exact HS.out) HC1.out.size ((HB3.out.trans (HB4.out.mono HB3.out.size)).trans (HB5.out.mono (Nat.le_trans HB3.out.size HB4.out.size))) (by rw [← HTN.out]; exact HA.out.tab) (fun j hj => HA.out.own j (by rw [HTN.out]; exact hj)) HC2.out.size (Nat.le_trans HC2.out.size (Nat.le_succ _)) (HB4.out.trans (HB5.out.mono HB4.out.size)) HO.out HC4.out.size (Below.refl _ _) HP.out HC3.out.size HB5.out HM.out HC0.out.size (((HB2.out.trans (HB3.out.mono HB2.out.size)).trans (HB4.out.mono (Nat.le_trans HB2.out.size HB3.out.size))).trans (HB5.out.mono (Nat.le_trans (Nat.le_trans HB2.out.size HB3.out.size) HB4.out.size))) HMZ.out (.inl (by have h1 := HPZ.out; have h2 : x4.heap.size ≤ x4.heap.size := Nat.le_refl _; omega)) (.inr (by have h2 : x3.heap.size ≤ x3.heap.size := Nat.le_refl _; omega)))
            clear HB1 HB2 HB3 HB4 HB5 HS HA HO HP HM HMZ HPZ
            refine wpAnyH_take (i := 14) (v := .agg #[.slice sa l.length sc, .slice (some ⟨x2.heap.size, 0, none⟩) l.length l.length, .slice oa ol.length oc, .slice (some ⟨x3.heap.size, 0, none⟩) l.length l.length, .slice none 0 0, .map (some x0.heap.size)]) rfl (by kernel_rfl) (by kernel_rfl) (by kernel_rfl) (fun _ _ _ h => h) (Or.inl ⟨by rfl, fun W hSW => ?_⟩) hHeld ?_
            · ((try dsimp only at hSW); go_split_ands; go_simp <;> with_reducible rfl)
            try simp only [List.getElem_toArray, List.getElem_cons_succ, List.getElem_cons_zero, Act.put, List.setIfInBounds_toArray, List.set_cons_zero, List.set_cons_succ]
            refine wpAnyH_ready (rs := [15]) (by kernel_rfl) (by simp) ?_
            refine AllReadyH.cons rfl (fun K hK => ?_) AllReadyH.nil
            try simp only [List.getElem_toArray, List.getElem_cons_succ, List.getElem_cons_zero]
            go_simp
            try go_wp2_with fail
            refine hK.out _ _ ?_ (fun hHeld => ?_)
            · exact beg_held ((Below.refl _ _).alloc (Nat.le_refl _) _) HBL5.out hHeld
            clear hK K
            try simp only [List.getElem_toArray, List.getElem_cons_succ, List.getElem_cons_zero, Act.put, List.setIfInBounds_toArray, List.set_cons_zero, List.set_cons_succ]
            refine wpAnyH_take (i := 16) (v := .pointer (some ⟨x5.heap.size, 0, none⟩)) rfl (by kernel_rfl) (by kernel_rfl) (by kernel_rfl) (fun _ _ _ h => h) (Or.inl ⟨by rfl, fun W hSW => ?_⟩) hHeld ?_
            · ((try dsimp only at hSW); go_split_ands; go_simp <;> with_reducible rfl)
            try simp only [List.getElem_toArray, List.getElem_cons_succ, List.getElem_cons_zero, Act.put, List.setIfInBounds_toArray, List.set_cons_zero, List.set_cons_succ]
            refine wpAnyH_done (by kernel_rfl) ?_ _
            clear hHeld
            go_wp2_with fail
            go_meet
            case rel => exact HF.out
        · skip
          try simp only [List.getElem_toArray, List.getElem_cons_succ, List.getElem_cons_zero]
          go_simp
          have HB3 := Lib.hid (show Below x2.heap.size x2 (x2.alloc (.cells (madeCells #[.int .i64 0] l.length) 3)) from (Below.refl _ _).alloc (Nat.le_refl _) _)
          have HP := Lib.hid (zeros_row x2 x2.heap.size l.length (Nat.le_refl _) HLL.out)
          generalize (x2.alloc (.cells (madeCells #[.int .i64 0] l.length) 3)) = x3 at HB3 HP ⊢
          try go_wp2_with fail
          refine hK.out _ _ ?_ (fun hHeld => ?_)
          · exact beg_held HB3.out HBL2.out hHeld
          clear hK K
          try simp only [List.getElem_toArray, List.getElem_cons_succ, List.getElem_cons_zero, Act.put, List.setIfInBounds_toArray, List.set_cons_zero, List.set_cons_succ]
          have HC3 := Lib.hid (HC2.out.trans (HB3.out.mono HC2.out.size))
          have HBL3 := Lib.hid (Nat.lt_of_lt_of_le HBL2.out HB3.out.size)
          refine wpAnyH_ready (rs := [6]) (by kernel_rfl) (by simp) ?_
          refine AllReadyH.cons rfl (fun K hK => ?_) AllReadyH.nil
          try simp only [List.getElem_toArray, List.getElem_cons_succ, List.getElem_cons_zero]
          go_simp
          (go_at_call 18; refine (askers_any _ ((HG.out.below HC3.out).mono HC3.out.size) HTL.out HTM.out HTI.out).mono ?_; rintro e x4 ⟨rfl, vs, hs4⟩; rewrite [HTN.out]; have HA := Lib.hid hs4; have HB4 := Lib.hid hs4.below; clear hs4)
          try go_wp2_with fail
          refine hK.out _ _ ?_ (fun hHeld => ?_)
          · exact beg_held HB4.out HBL3.out hHeld
          clear hK K
          try simp only [List.getElem_toArray, List.getElem_cons_succ, List.getElem_cons_zero, Act.put, List.setIfInBounds_toArray, List.set_cons_zero, List.set_cons_succ]
          have HC4 := Lib.hid (HC3.out.trans (HB4.out.mono HC3.out.size))
          have HBL4 := Lib.hid (Nat.lt_of_lt_of_le HBL3.out HB4.out.size)
          refine wpAnyH_ready (rs := [9]) (by kernel_rfl) (by simp) ?_
          refine AllReadyH.cons rfl (fun K hK => ?_) AllReadyH.nil
          try simp only [List.getElem_toArray, List.getElem_cons_succ, List.getElem_cons_zero]
          go_simp
          (go_at_call 19; refine (order_anyS _ HTL.out HTM.out HTI.out ((HG.out.below HC4.out).mono HC4.out.size)).mono ?_; rintro e x5 ⟨ov, rfl, hs5, hb5⟩; rewrite [← HOE.out, ← HON.out] at hs5; obtain ⟨oa, oc, rfl⟩ := SS.ownOf hs5; have HO := Lib.hid hs5; have HB5 := Lib.hid hb5; clear hs5 hb5)
          try go_wp2_with fail
          refine hK.out _ _ ?_ (fun hHeld => ?_)
          · exact beg_held HB5.out HBL4.out hHeld
          clear hK K
          try simp only [List.getElem_toArray, List.getElem_cons_succ, List.getElem_cons_zero, Act.put, List.setIfInBounds_toArray, List.set_cons_zero, List.set_cons_succ]
          have HC5 := Lib.hid (HC4.out.trans (HB5.out.mono HC4.out.size))
          have HBL5 := Lib.hid (Nat.lt_of_lt_of_le HBL4.out HB5.out.size)
          have HPZ := Lib.hid (show x2.heap.size < x3.heap.size from (HP.out.lt _ rfl).2)
          have HF := Lib.hid (begq_mk HC5.out (by rw [List.length_map]; exact HS.out) HC1.out.size ((HB3.out.trans (HB4.out.mono HB3.out.size)).trans (HB5.out.mono (Nat.le_trans HB3.out.size HB4.out.size))) (by rw [← HTN.out]; exact HA.out.tab) (fun j hj => HA.out.own j (by rw [HTN.out]; exact hj)) HC3.out.size (Nat.le_trans HC3.out.size (Nat.le_succ _)) HB5.out HO.out HC4.out.size (Below.refl _ _) HP.out HC2.out.size (HB4.out.trans (HB5.out.mono HB4.out.size)) HM.out HC0.out.size (((HB2.out.trans (HB3.out.mono HB2.out.size)).trans (HB4.out.mono (Nat.le_trans HB2.out.size HB3.out.size))).trans (HB5.out.mono (Nat.le_trans (Nat.le_trans HB2.out.size HB3.out.size) HB4.out.size))) HMZ.out (.inl (by have h1 := HPZ.out; have h2 : x3.heap.size ≤ x4.heap.size := HB4.out.size; omega)) (.inl (by have h1 := HPZ.out; have h2 : x3.heap.size ≤ x3.heap.size := Nat.le_refl _; omega)))
          clear HB1 HB2 HB3 HB4 HB5 HS HA HO HP HM HMZ HPZ
          refine wpAnyH_take (i := 14) (v := .agg #[.slice sa l.length sc, .slice (some ⟨x3.heap.size, 0, none⟩) l.length l.length, .slice oa ol.length oc, .slice (some ⟨x2.heap.size, 0, none⟩) l.length l.length, .slice none 0 0, .map (some x0.heap.size)]) rfl (by kernel_rfl) (by kernel_rfl) (by kernel_rfl) (fun _ _ _ h => h) (Or.inl ⟨by rfl, fun W hSW => ?_⟩) hHeld ?_
          · ((try dsimp only at hSW); go_split_ands; go_simp <;> with_reducible rfl)
          try simp only [List.getElem_toArray, List.getElem_cons_succ, List.getElem_cons_zero, Act.put, List.setIfInBounds_toArray, List.set_cons_zero, List.set_cons_succ]
          refine wpAnyH_ready (rs := [15]) (by kernel_rfl) (by simp) ?_
          refine AllReadyH.cons rfl (fun K hK => ?_) AllReadyH.nil
          try simp only [List.getElem_toArray, List.getElem_cons_succ, List.getElem_cons_zero]
          go_simp
          try go_wp2_with fail
          refine hK.out _ _ ?_ (fun hHeld => ?_)
          · exact beg_held ((Below.refl _ _).alloc (Nat.le_refl _) _) HBL5.out hHeld
          clear hK K
          try simp only [List.getElem_toArray, List.getElem_cons_succ, List.getElem_cons_zero, Act.put, List.setIfInBounds_toArray, List.set_cons_zero, List.set_cons_succ]
          refine wpAnyH_take (i := 16) (v := .pointer (some ⟨x5.heap.size, 0, none⟩)) rfl (by kernel_rfl) (by kernel_rfl) (by kernel_rfl) (fun _ _ _ h => h) (Or.inl ⟨by rfl, fun W hSW => ?_⟩) hHeld ?_
          · ((try dsimp only at hSW); go_split_ands; go_simp <;> with_reducible rfl)
          try simp only [List.getElem_toArray, List.getElem_cons_succ, List.getElem_cons_zero, Act.put, List.setIfInBounds_toArray, List.set_cons_zero, List.set_cons_succ]
          refine wpAnyH_done (by kernel_rfl) ?_ _
          clear hHeld
          go_wp2_with fail
          go_meet
          case rel => exact HF.out
      · skip
        try simp only [List.getElem_toArray, List.getElem_cons_succ, List.getElem_cons_zero]
        go_simp
        have HB2 := Lib.hid (show Below x1.heap.size x1 (x1.alloc (.cells (madeCells #[.int .i64 0] l.length) 3)) from (Below.refl _ _).alloc (Nat.le_refl _) _)
        have HP := Lib.hid (zeros_row x1 x1.heap.size l.length (Nat.le_refl _) HLL.out)
        generalize (x1.alloc (.cells (madeCells #[.int .i64 0] l.length) 3)) = x2 at HB2 HP ⊢
        try go_wp2_with fail
        refine hK.out _ _ ?_ (fun hHeld => ?_)
        · exact beg_held HB2.out HBL1.out hHeld
        clear hK K
        try simp only [List.getElem_toArray, List.getElem_cons_succ, List.getElem_cons_zero, Act.put, List.setIfInBounds_toArray, List.set_cons_zero, List.set_cons_succ]
        have HC2 := Lib.hid (HC1.out.trans (HB2.out.mono HC1.out.size))
        have HBL2 := Lib.hid (Nat.lt_of_lt_of_le HBL1.out HB2.out.size)
        refine wpAnyH_ready (rs := [3]) (by kernel_rfl) (by simp) ?_
        refine AllReadyH.cons rfl (fun K hK => ?_) AllReadyH.nil
        try simp only [List.getElem_toArray, List.getElem_cons_succ, List.getElem_cons_zero]
        go_simp
        (go_at_call 17; refine (sums_any _ ((HU.out.below HC2.out).mono HC2.out.size) ((HL.out.below HC2.out).mono HC2.out.size) HXL.out HLL.out HLI.out).mono ?_; rintro e x3 ⟨sv, rfl, hs3, hb3⟩; obtain ⟨sa, sc, rfl⟩ := SS.ownOf hs3; have HS := Lib.hid hs3; have HB3 := Lib.hid hb3; clear hs3 hb3)
        try go_wp2_with fail
        refine hK.out _ _ ?_ (fun hHeld => ?_)
        · exact beg_held HB3.out HBL2.out hHeld
        clear hK K
        try simp only [List.getElem_toArray, List.getElem_cons_succ, List.getElem_cons_zero, Act.put, List.setIfInBounds_toArray, List.set_cons_zero, List.set_cons_succ]
        have HC3 := Lib.hid (HC2.out.trans (HB3.out.mono HC2.out.size))
        have HBL3 := Lib.hid (Nat.lt_of_lt_of_le HBL2.out HB3.out.size)
        refine wpAnyH_ready (rs := [6]) (by kernel_rfl) (by simp) ?_
        refine AllReadyH.cons rfl (fun K hK => ?_) AllReadyH.nil
        try simp only [List.getElem_toArray, List.getElem_cons_succ, List.getElem_cons_zero]
        go_simp
        (go_at_call 18; refine (askers_any _ ((HG.out.below HC3.out).mono HC3.out.size) HTL.out HTM.out HTI.out).mono ?_; rintro e x4 ⟨rfl, vs, hs4⟩; rewrite [HTN.out]; have HA := Lib.hid hs4; have HB4 := Lib.hid hs4.below; clear hs4)
        try go_wp2_with fail
        refine hK.out _ _ ?_ (fun hHeld => ?_)
        · exact beg_held HB4.out HBL3.out hHeld
        clear hK K
        try simp only [List.getElem_toArray, List.getElem_cons_succ, List.getElem_cons_zero, Act.put, List.setIfInBounds_toArray, List.set_cons_zero, List.set_cons_succ]
        have HC4 := Lib.hid (HC3.out.trans (HB4.out.mono HC3.out.size))
        have HBL4 := Lib.hid (Nat.lt_of_lt_of_le HBL3.out HB4.out.size)
        refine wpAnyH_ready (rs := [9]) (by kernel_rfl) (by simp) ?_
        refine AllReadyH.cons rfl (fun K hK => ?_) AllReadyH.nil
        try simp only [List.getElem_toArray, List.getElem_cons_succ, List.getElem_cons_zero]
        go_simp
        (go_at_call 19; refine (order_anyS _ HTL.out HTM.out HTI.out ((HG.out.below HC4.out).mono HC4.out.size)).mono ?_; rintro e x5 ⟨ov, rfl, hs5, hb5⟩; rewrite [← HOE.out, ← HON.out] at hs5; obtain ⟨oa, oc, rfl⟩ := SS.ownOf hs5; have HO := Lib.hid hs5; have HB5 := Lib.hid hb5; clear hs5 hb5)
        try go_wp2_with fail
        refine hK.out _ _ ?_ (fun hHeld => ?_)
        · exact beg_held HB5.out HBL4.out hHeld
        clear hK K
        try simp only [List.getElem_toArray, List.getElem_cons_succ, List.getElem_cons_zero, Act.put, List.setIfInBounds_toArray, List.set_cons_zero, List.set_cons_succ]
        have HC5 := Lib.hid (HC4.out.trans (HB5.out.mono HC4.out.size))
        have HBL5 := Lib.hid (Nat.lt_of_lt_of_le HBL4.out HB5.out.size)
        have HPZ := Lib.hid (show x1.heap.size < x2.heap.size from (HP.out.lt _ rfl).2)
        have HF := Lib.hid (begq_mk HC5.out (by rw [List.length_map]; exact HS.out) HC2.out.size (HB4.out.trans (HB5.out.mono HB4.out.size)) (by rw [← HTN.out]; exact HA.out.tab) (fun j hj => HA.out.own j (by rw [HTN.out]; exact hj)) HC3.out.size (Nat.le_trans HC3.out.size (Nat.le_succ _)) HB5.out HO.out HC4.out.size (Below.refl _ _) HP.out HC1.out.size ((HB3.out.trans (HB4.out.mono HB3.out.size)).trans (HB5.out.mono (Nat.le_trans HB3.out.size HB4.out.size))) HM.out HC0.out.size (((HB2.out.trans (HB3.out.mono HB2.out.size)).trans (HB4.out.mono (Nat.le_trans HB2.out.size HB3.out.size))).trans (HB5.out.mono (Nat.le_trans (Nat.le_trans HB2.out.size HB3.out.size) HB4.out.size))) HMZ.out (.inl (by have h1 := HPZ.out; have h2 : x2.heap.size ≤ x4.heap.size := (HB3.out.trans (HB4.out.mono HB3.out.size)).size; omega)) (.inl (by have h1 := HPZ.out; have h2 : x2.heap.size ≤ x3.heap.size := HB3.out.size; omega)))
        clear HB1 HB2 HB3 HB4 HB5 HS HA HO HP HM HMZ HPZ
        refine wpAnyH_take (i := 14) (v := .agg #[.slice sa l.length sc, .slice (some ⟨x3.heap.size, 0, none⟩) l.length l.length, .slice oa ol.length oc, .slice (some ⟨x1.heap.size, 0, none⟩) l.length l.length, .slice none 0 0, .map (some x0.heap.size)]) rfl (by kernel_rfl) (by kernel_rfl) (by kernel_rfl) (fun _ _ _ h => h) (Or.inl ⟨by rfl, fun W hSW => ?_⟩) hHeld ?_
        · ((try dsimp only at hSW); go_split_ands; go_simp <;> with_reducible rfl)
        try simp only [List.getElem_toArray, List.getElem_cons_succ, List.getElem_cons_zero, Act.put, List.setIfInBounds_toArray, List.set_cons_zero, List.set_cons_succ]
        refine wpAnyH_ready (rs := [15]) (by kernel_rfl) (by simp) ?_
        refine AllReadyH.cons rfl (fun K hK => ?_) AllReadyH.nil
        try simp only [List.getElem_toArray, List.getElem_cons_succ, List.getElem_cons_zero]
        go_simp
        try go_wp2_with fail
        refine hK.out _ _ ?_ (fun hHeld => ?_)
        · exact beg_held ((Below.refl _ _).alloc (Nat.le_refl _) _) HBL5.out hHeld
        clear hK K
        try simp only [List.getElem_toArray, List.getElem_cons_succ, List.getElem_cons_zero, Act.put, List.setIfInBounds_toArray, List.set_cons_zero, List.set_cons_succ]
        refine wpAnyH_take (i := 16) (v := .pointer (some ⟨x5.heap.size, 0, none⟩)) rfl (by kernel_rfl) (by kernel_rfl) (by kernel_rfl) (fun _ _ _ h => h) (Or.inl ⟨by rfl, fun W hSW => ?_⟩) hHeld ?_
        · ((try dsimp only at hSW); go_split_ands; go_simp <;> with_reducible rfl)
        try simp only [List.getElem_toArray, List.getElem_cons_succ, List.getElem_cons_zero, Act.put, List.setIfInBounds_toArray, List.set_cons_zero, List.set_cons_succ]
        refine wpAnyH_done (by kernel_rfl) ?_ _
        clear hHeld
        go_wp2_with fail
        go_meet
        case rel => exact HF.out
  case rest =>
    obtain ⟨wb, ab, pb, mb, sv, ov, vs, rfl, hB, hwb, hW, hP⟩ := hcut
    obtain ⟨oa, oc, rfl⟩ := SS.ownOf hP.ord
    have HB := Lib.hid hB
    have HWB := Lib.hid hwb
    have HW := Lib.hid hW
    have HP := Lib.hid hP
    have hcO := hW.cells.2.2.1
    have HLO := Lib.hid (show l.length = ol.length from HPM.out.1.symm)
    have i0 : (ol.length : Int) ≤ 1000000 := by have := HLO.out; omega
    clear hB hwb hW hP hmk hmm
    go_wp2_with fail
    clear hcO
    go_loopw [34] (fun k wr => ∃ (q : Nat) (pl : List Int), q ≤ ol.length ∧ k = .int .i64 (q : Int) ∧ Below W.heap.size W wr ∧ WorkB wr wb sv (.slice (some ⟨ab, 0, none⟩) l.length l.length) (.slice oa ol.length oc) (.slice (some ⟨pb, 0, none⟩) l.length l.length) (.slice none 0 0) (.map (some mb)) ∧ BegP W.heap.size wr l.length (fun j => askI to to.length 0 j) sv (l.map (sumF xs)) ab vs (.slice oa ol.length oc) ol pb pl mb [] ∧ Placed l.length ol q pl) (fun k _ => ol.length - (intOf k).toNat)
    case atStart => exact ⟨0, _, Nat.zero_le _, rfl, HB.out, HW.out, HP.out, placed_zero _ _⟩
    case round =>
      obtain ⟨q, pl, hq, rfl, hB1, hW1, hP1, hPl⟩ := hrel
      have HB1 := Lib.hid hB1
      have HW1 := Lib.hid hW1
      have HP1 := Lib.hid hP1
      have HPL := Lib.hid hPl
      clear hB1 hW1 hP1 hPl HB HW HP
      by_cases hqt : q < ol.length
      · obtain ⟨v, hv, hvn⟩ := HPM.out.2.1 q (by rw [HLO.out]; exact hqt)
        have HV := Lib.hid hv
        have HVN := Lib.hid hvn
        obtain ⟨ob, oc2, e1⟩ := SS.own_some HP1.out.ord (by omega)
        cases e1
        have hcX := SS.own_cell HP1.out.ord (intsV_at hqt)
        rw [hv] at hcX
        have hcW := HW1.out.cells.2.2.2.1
        have hcV := HW1.out.cells.2.2.1
        have hcP := SS.own_cell HP1.out.place (intsV_at (show v < pl.length by rw [HPL.out.1]; exact hvn))
        have hfP := SS.own_free HP1.out.place v
        have i1 : (0 : Int) ≤ q ∧ (q : Int) < ol.length := by omega
        have i2 : (0 : Int) ≤ v ∧ (v : Int) < l.length := by omega
        have HN := Lib.hid (HP1.out.put v (q : Int) HPL.out.1)
        have hpw : pb ≠ wb := fun e2 => by
          obtain ⟨_, _, c, hc⟩ := GG.own_block HP1.out.place (k := pb) rfl
          have h2 := HW1.out
          unfold WorkB at h2
          rw [e2, h2] at hc
          cases hc
        have HNW := Lib.hid (HW1.out.of (SV.blk_set_other wr ⟨pb, v, none⟩ wb (.int .i64 (q : Int)) (fun e2 => hpw e2.symm)))
        have HNB := Lib.hid (HB1.out.setCell (p := ⟨pb, v, none⟩) (HP1.out.place.lt pb rfl).1 (.int .i64 (q : Int)))
        clear hv hvn hpw
        go_wp2_with fail
        go_roundw
        case rel => exact ⟨q + 1, _, by omega, by go_num, HNB.out, HNW.out, HN.out, placed_step HPM.out HPL.out (by have := HLO.out; omega) HV.out⟩
        case measure => simp [intOf]; omega
      · have hqz : ¬ ((q : Int) < ol.length) := by omega
        have HPA := Lib.hid (show Placed l.length ol l.length pl from by have e1 : q = l.length := by have := HLO.out; omega
                                                                         have h1 := HPL.out
                                                                         rw [e1] at h1
                                                                         exact h1)
        by_cases hn0 : l.length = 0
        · have HN0 := Lib.hid hn0
          obtain ⟨w6, ew⟩ : ∃ w6 : World, w6 = wr := ⟨_, rfl⟩
          rw [← ew]
          rw [← ew] at HB1 HW1 HP1
          clear ew hn0
          go_wp2_with fail
          go_loopw [48] (fun k wr => k = .int .i64 0 ∧ wr = w6) (fun k _ => 0)
          case atStart => exact ⟨rfl, rfl⟩
          case round =>
            obtain ⟨rfl, e8⟩ := hrel
            rewrite [e8]
            clear e8
            have hlz : ¬ ((0 : Int) < l.length) := by have := HN0.out; omega
            have HF := Lib.hid (show BegE W l.length (fun j => askI to to.length 0 j) (l.map (sumF xs)) ol (.returned (.pointer (some ⟨wb, 0, none⟩))) w6 from ⟨wb, rfl, HB1.out, .inl ⟨HN0.out, _, _, _, _, _, HW1.out, by
              have h1 := HP1.out.sums
              have e2 : l = [] := List.length_eq_zero_iff.1 HN0.out
              rw [e2] at h1
              exact h1⟩⟩)
            go_wp2_with fail
            go_ret
            exact HF.out
        · obtain ⟨sb, sc, rfl, hL⟩ := loopP_start (by omega) (by rw [List.length_map]) HPM.out HPA.out HP1.out HW1.out HWB.out HB1.out
          have HL1 := Lib.hid hL
          have HN0 := Lib.hid (show 0 < l.length by omega)
          obtain ⟨w6, ew⟩ : ∃ w6 : World, w6 = wr := ⟨_, rfl⟩
          rw [← ew]
          rw [← ew] at HL1
          clear hL ew HB1 HW1 HP1 hn0
          go_wp2_with fail
          go_loopw [48] (fun k wr => ∃ (j : Nat) (lv : Value) (ll : List Int) (qs : List Nat), j ≤ l.length ∧ k = .int .i64 (j : Int) ∧ LoopP W wr w6.heap.size wb mb sb sc ab l.length (.slice oa ol.length oc) (.slice (some ⟨pb, 0, none⟩) l.length l.length) lv pl ol ll vs (fun j => askI to to.length 0 j) (l.map (sumF xs), qs) ∧ RowKit.Hid (∀ v, v ∈ qs ↔ v < j)) (fun k _ => l.length - (intOf k).toNat)
          case atStart => exact ⟨0, _, _, _, Nat.zero_le _, rfl, HL1.out, Lib.hid (fun v => by simp)⟩
          case round =>
            obtain ⟨j, lv, ll, qs, hj, rfl, hL, HQ⟩ := hrel
            have HL2 := Lib.hid hL
            clear hL HL1
            by_cases hjt : j < l.length
            · have i3 : (0 : Int) ≤ j ∧ (j : Int) < l.length := by omega
              have HSM := Lib.hid HL2.out.tell.small
              have HPN := Lib.hid HL2.out.plen
              go_wp2_with (go_at_call 20; refine (wait_any HL2.out.tell.wait (by have h1 := HSM.out.2; omega) (by have h1 := HSM.out.1; omega) (by rw [HPN.out]; omega) j (by rw [HPN.out]; exact hjt)).mono ?_; rintro e w7 hw7; obtain ⟨rfl, hk7, lv7, l7, hw8, hp7⟩ := hw7.add HL2.out.tell.perm; have HE7 := Lib.hid (HL2.out.step (hk7.sk sb) (HL2.out.tell.woken hk7 hw8 hp7 hjt)); clear hw7 hk7 hw8 hp7)
              go_roundw
              case rel => exact ⟨j + 1, _, _, _, by omega, by go_num, HE7.out, Lib.hid (fun v => by rw [mem_addQ, HQ.out v]; omega)⟩
              case measure => simp [intOf]; omega
            · have hjz : ¬ ((j : Int) < l.length) := by omega
              have HF := Lib.hid (show BegE W l.length (fun j => askI to to.length 0 j) (l.map (sumF xs)) ol (.returned (.pointer (some ⟨wb, 0, none⟩))) wr from ⟨wb, rfl, HL2.out.below, .inr ⟨HN0.out, _, _, _, _, _, _, _, _, _, _, _, _, HL2.out, fun v => by rw [HQ.out v]; omega⟩⟩)
              go_wp2_with fail
              go_ret
              exact HF.out
end Go.Proofs.YtkoofibhddkpiaaDoor
