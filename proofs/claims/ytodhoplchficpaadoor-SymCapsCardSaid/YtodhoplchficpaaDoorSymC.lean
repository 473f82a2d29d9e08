import Derived.Test.YtodhoplchficpaaDoorSymR
import Derived.Test.YtodhoplchficpaaDoorLaysM
import Derived.Sort.CutIn
import Derived.ArgAppend
set_option linter.unusedSimpArgs false
set_option linter.unusedVariables false
/-! sym: Cap -/
namespace Go.Proofs.YtodhoplchficpaaDoor
open List renaming getElem_toArray → zA, getElem_cons_succ → zB, getElem_cons_zero → zC, setIfInBounds_toArray → zD, set_cons_zero → zE, set_cons_succ → zF
open Go.RowKit Go.Shelf
attribute [local go_sem] Oper.semAt_some
/-- a cap lowered by a bound -/
def capS (xs : List Int) (bd : Int) (l : List Int) (z : Nat) : List Int := l.set z (LL.meetI xs (l[z]?.getD 0).toNat bd.toNat)
def capF (xs : List Int) (bd : Int) (cs : List Int) (zs : List Nat) : List Int := zs.foldl (capS xs bd) cs
def capB (xs cs : List Int) (a m bd : Int) : Bool := fitB m 6 && (LL.rightB xs && levB xs.length (cs ++ [bd, a]))
def zero7 : List Int := [0, 0, 0, 0, 0, 0, 0]
def capRet (z : Bool) (l : List Int) : Value := .tuple #[.agg ((if z = true then l else zero7).map (Value.int .i64)).toArray, .bool z]
theorem capS_len {xs : List Int} {bd : Int} {l : List Int} {z : Nat} : (capS xs bd l z).length = l.length := by simp [capS]
theorem capF_len {xs : List Int} {bd : Int} {cs : List Int} (zs : List Nat) : (capF xs bd cs zs).length = cs.length := by
  induction zs generalizing cs with
  | nil => rfl
  | cons z zs ih => exact (ih (cs := capS xs bd cs z)).trans capS_len
theorem capF_snoc {xs : List Int} {bd : Int} {cs : List Int} (zs : List Nat) (z : Nat) : capF xs bd cs (zs ++ [z]) = capS xs bd (capF xs bd cs zs) z := by simp [capF]
theorem levB_iff {n : Nat} {l : List Int} : levB n l = true ↔ ∀ c ∈ l, 0 ≤ c ∧ c < n := by simp [levB]
theorem levB_app {n : Nat} {l k : List Int} : levB n (l ++ k) = (levB n l && levB n k) := by simp [levB]
theorem capS_lev {xs : List Int} {bd : Int} {l : List Int} {z : Nat} (hr : LL.rightB xs = true) (hb : 0 ≤ bd ∧ bd < xs.length) (h : levB xs.length l = true) : levB xs.length (capS xs bd l z) = true := by
  rw [levB_iff] at h ⊢
  intro c hc
  unfold capS at hc
  by_cases hz : z < l.length
  · rcases List.mem_or_eq_of_mem_set hc with h1 | rfl
    · exact h c h1
    · have h2 := h (l[z]?.getD 0) (GG.getD_mem (d := 0) hz)
      have h3 := LL.meetN_is hr (a := (l[z]?.getD 0).toNat) (b := bd.toNat) (by omega) (by omega)
      rw [h3.2]
      have h4 := h3.1.1
      exact ⟨by omega, by omega⟩
  · rw [List.set_eq_of_length_le (by omega)] at hc
    exact h c hc
theorem capF_lev {xs : List Int} {bd : Int} {cs : List Int} (zs : List Nat) (hr : LL.rightB xs = true) (hb : 0 ≤ bd ∧ bd < xs.length) (h : levB xs.length cs = true) : levB xs.length (capF xs bd cs zs) = true := by
  induction zs generalizing cs with
  | nil => exact h
  | cons z zs ih => exact ih (cs := capS xs bd cs z) (capS_lev hr hb h)
/-- the least and the greatest of some numbers -/
theorem foldl_min_ge (l : List Int) (x y : Int) : y ≤ l.foldl min x ↔ y ≤ x ∧ ∀ c ∈ l, y ≤ c := by
  induction l generalizing x with
  | nil => simp
  | cons c l ih => simp only [List.foldl_cons, ih, List.mem_cons, forall_eq_or_imp]; constructor <;> (rintro ⟨h1, h2⟩; refine ⟨by omega, ?_⟩) <;> first | exact ⟨by omega, h2⟩ | exact h2.2
theorem foldl_max_lt (l : List Int) (x y : Int) : l.foldl max x < y ↔ x < y ∧ ∀ c ∈ l, c < y := by
  induction l generalizing x with
  | nil => simp
  | cons c l ih => simp only [List.foldl_cons, ih, List.mem_cons, forall_eq_or_imp]; constructor <;> (rintro ⟨h1, h2⟩; refine ⟨by omega, ?_⟩) <;> first | exact ⟨by omega, h2⟩ | exact h2.2
theorem lev_min_max {n : Nat} {l : List Int} (h : 0 < l.length) : levB n l = (decide (0 ≤ Lib.minOf l) && decide (Lib.maxOf l < (n : Int))) := by
  rw [Bool.eq_iff_iff, Bool.and_eq_true, decide_eq_true_eq, decide_eq_true_eq, levB_iff]
  cases l with
  | nil => simp at h
  | cons x l =>
    unfold Lib.minOf Lib.maxOf
    rw [foldl_min_ge, foldl_max_lt]
    simp only [List.headD_cons, List.mem_cons, forall_eq_or_imp]
    constructor
    · rintro ⟨h1, h2⟩
      exact ⟨⟨h1.1, h1.1, fun c hc => (h2 c hc).1⟩, h1.2, h1.2, fun c hc => (h2 c hc).2⟩
    · rintro ⟨⟨h1, _, h2⟩, h3, _, h4⟩
      exact ⟨⟨h1, h3⟩, fun c hc => ⟨h2 c hc, h4 c hc⟩⟩
theorem seven {l : List Int} (h : l.length = 7) : ∃ c0 c1 c2 c3 c4 c5 c6, l = [c0, c1, c2, c3, c4, c5, c6] := by
  match l, h with
  | [c0, c1, c2, c3, c4, c5, c6], _ => exact ⟨c0, c1, c2, c3, c4, c5, c6, rfl⟩
/-- the blocks of Cap's own -/
def CapBx (w : World) (uv : Value) (cs : List Int) (a m bd : Int) (V : World) : Prop := Below w.heap.size w V ∧ w.heap.size + 5 ≤ V.heap.size ∧ V.heap[w.heap.size]? = some (.cells #[uv] 22) ∧ V.heap[w.heap.size + 1]? = some (.cells (cs.map (Value.int .i64)).toArray 56) ∧ V.heap[w.heap.size + 1 + 1]? = some (.cells #[.int .i64 a, .int .u64 m] 38) ∧ V.heap[w.heap.size + 1 + 1 + 1]? = some (.cells #[.int .i64 bd] 3) ∧ V.heap[w.heap.size + 1 + 1 + 1 + 1]? = some (.cells (zero7.map (Value.int .i64)).toArray 56)
theorem CapBx.on {w U V : World} {uv : Value} {cs : List Int} {a m bd : Int} (h : CapBx w uv cs a m bd U) (hb : Below U.heap.size U V) : CapBx w uv cs a m bd V := by
  obtain ⟨h0, h1, h2, h3, h4, h5, h6⟩ := h
  exact ⟨h0.trans (hb.mono h0.size), Nat.le_trans h1 hb.size, (hb.block _ (by omega)).trans h2, (hb.block _ (by omega)).trans h3, (hb.block _ (by omega)).trans h4, (hb.block _ (by omega)).trans h5, (hb.block _ (by omega)).trans h6⟩
theorem CapBx.drew {w U : World} {uv : Value} {cs : List Int} {a m bd : Int} (h : CapBx w uv cs a m bd U) : CapBx w uv cs a m bd U.drew := ⟨h.1.drew, h.2⟩
theorem CapBx.cells {w V : World} {uv : Value} {cs : List Int} {a m bd : Int} (h : CapBx w uv cs a m bd V) : V.cell? ⟨w.heap.size, 0, none⟩ = some uv ∧ V.cell? ⟨w.heap.size + 1 + 1, 0, none⟩ = some (.int .i64 a) ∧ V.cell? ⟨w.heap.size + 1 + 1, 1, none⟩ = some (.int .u64 m) ∧ V.cell? ⟨w.heap.size + 1 + 1 + 1, 0, none⟩ = some (.int .i64 bd) :=
  ⟨cell_of_row _ _ 0 _ _ _ h.2.2.1, (two_lab h.2.2.2.2.1).1, (two_lab h.2.2.2.2.1).2, cell_of_row _ _ 0 _ _ _ h.2.2.2.2.2.1⟩
theorem capBx_start (w : World) (uv : Value) (cs : List Int) (a m bd : Int) : CapBx w uv cs a m bd (((((w.alloc (.cells #[uv] 22)).alloc (.cells (cs.map (Value.int .i64)).toArray 56)).alloc (.cells #[.int .i64 a, .int .u64 m] 38)).alloc (.cells #[.int .i64 bd] 3)).alloc (.cells (zero7.map (Value.int .i64)).toArray 56)) := by
  refine ⟨(((((Below.refl _ _).alloc (Nat.le_refl _) _).alloc (by simp) _).alloc (by simp <;> omega) _).alloc (by simp <;> omega) _).alloc (by simp <;> omega) _, by simp, ?_, ?_, ?_, ?_, ?_⟩
  · rw [heap_alloc_old _ _ (by simp <;> omega), heap_alloc_old _ _ (by simp <;> omega), heap_alloc_old _ _ (by simp <;> omega), heap_alloc_old _ _ (by simp), heap_alloc_new]
  · rw [heap_alloc_old _ _ (by simp <;> omega), heap_alloc_old _ _ (by simp <;> omega), heap_alloc_old _ _ (by simp)]
    exact SS.new_at (by simp)
  · rw [heap_alloc_old _ _ (by simp <;> omega), heap_alloc_old _ _ (by simp)]
    exact SS.new_at (by simp)
  · rw [heap_alloc_old _ _ (by simp)]
    exact SS.new_at (by simp)
  · exact SS.new_at (by simp)
theorem capBx_own {β : Type} {w : World} {uv : Value} {f : β → List Int} {a m bd : Int} {B : Nat} (hB : w.heap.size + 5 ≤ B) : OwnFrom B (fun s V => CapBx w uv (f s) a m bd V) := by
  intro s W W' row hs hg hr
  obtain ⟨h0, h1, h2, h3, h4, h5, h6⟩ := hs
  have hg2 := hg
  obtain ⟨_, _, _, hsz, hkp⟩ := hg2
  have hk : ∀ k, k < w.heap.size + 5 → W'.heap[k]? = W.heap[k]? := fun k hk => hkp k (by omega) (fun e => by have h := (hr k e.symm).1; omega)
  exact ⟨h0.grown hg h0.size (fun r e => by have h := (hr r e).1; omega), Nat.le_trans h1 hsz, (hk _ (by omega)).trans h2, (hk _ (by omega)).trans h3, (hk _ (by omega)).trans h4, (hk _ (by omega)).trans h5, (hk _ (by omega)).trans h6⟩
/-- an append that must grow, in a region that draws, inside a fence -/
theorem step_grows_in {F : Fence} {n : Nat} {P : Program} {w : World} {ops : Array Oper} {o : Oper} {a : Act} {K : Act → World → Prop} {Q : Exit → Act → World → Prop} {E : Prop} (hg : o.guard = none) (s x : Operand) (t : TypeId)
    (hop : o.op = .call { callee := .builtin .append, args := #[s, x], argTypes := #[t, t] })
    (e : TypeId) (i : TypeInfo) (z : Value) (size bytes : Nat) (h1 : P.underlying t = some (.slice e)) (h2 : P.info? e = some i) (h3 : i.zero = some z) (h4 : i.size = size) (h5 : i.bytes = bytes) (h6 : z.cells.size = size) (h7 : 0 < size)
    (b : Addr) (k cap : Nat) (olds : List Value) (hs : a.eval s = .slice (some b) k cap) (hlo : olds.length = k * size) (holds : ∀ j u, olds[j]? = some u → w.cell? (b.add j) = some u)
    (ad : Addr) (m c : Nat) (news : List Value) (hx : a.eval x = .slice (some ad) m c) (hn : news.length = m * size)
    (hc : ∀ j u, news[j]? = some u → w.cell? (ad.add j) = some u) (hfull : cap < k + m) (b1 : k + m ≤ maxLen) (b2 : (k + m) * bytes ≤ 140737488355328)
    (h : ∀ v' w', w'.ownsRow w.heap.size e size v' (k + m) (olds ++ news) → w.grownBy w' none → K (a.put o.dst v') w') :
    if Region.wanted o (yielded ops a.tmps) = true then Oper.wpIn F n P o a w K Q else E := by
  rw [if_pos (by simp [Region.wanted, hg])]
  obtain ⟨v', w', hrun, r1, r2⟩ := run_append_arg_grows (P := P) w t o.type e i z size bytes h1 h2 h3 h4 h5 h6 h7 b k cap olds hlo holds ad m c news hn hc hfull b1 b2
  unfold Oper.wpIn
  refine ⟨?_, ?_⟩
  · simp [Oper.about, hop, resolve, Target.leads, Sem.run_pure]
  · rw [Oper.semAt_plain F _ _ (by rw [hop]; intro c hc'; cases hc')]
    simp [execOp, hop, resolve, invoke, builtin, hs, hx, hrun, Result.andThen]
    exact h v' w' r1 r2
theorem cells_add {W : World} {b : Nat} {cs : List Int} {T : TypeId} {fr : Nat × Nat} (h : W.heap[b]? = some (.cells (cs.map (Value.int .i64)).toArray T fr)) : ∀ j u, (cs.map (Value.int .i64))[j]? = some u → W.cell? ((⟨b, 0, none⟩ : Addr).add j) = some u := World.news_of_block (by rw [h])
/-- a block whose first cells are these -/
def Nine (W : World) (g : Nat) (l : List Int) : Prop := g < W.heap.size ∧ ∀ j, j < l.length → W.cell? ⟨g, 0 + j, none⟩ = some (.int .i64 (l.getD j 0))
theorem Nine.on {W V : World} {g : Nat} {l : List Int} (h : Nine W g l) (hb : Below W.heap.size W V) : Nine V g l :=
  ⟨Nat.lt_of_lt_of_le h.1 hb.size, fun j hj => (hb.cell (p := ⟨g, 0 + j, none⟩) h.1).trans (h.2 j hj)⟩
theorem nine_own {W : World} {B : Nat} {cs : List Int} {bd a : Int} {v : Value} (h7 : cs.length = 7) (h : W.ownsRow B 3 1 v (7 + 2) (cs.map (Value.int .i64) ++ [.int .i64 bd, .int .i64 a])) : ∃ g c, v = .slice (some ⟨g, 0, none⟩) 9 c ∧ Nine W g (cs ++ [bd, a]) := by
  obtain ⟨g, c, rfl⟩ := ownsRow_succ (k := 8) h
  have hlt : g < W.heap.size := by
    rcases h.2 with ⟨e1, _⟩ | ⟨g', cap', cur, e1, _, hg, _⟩
    · cases e1
    · cases e1
      exact (Array.getElem?_eq_some_iff.1 hg).1
  refine ⟨g, c, rfl, hlt, fun j hj => ?_⟩
  have e : cs.map (Value.int .i64) ++ [.int .i64 bd, .int .i64 a] = (cs ++ [bd, a]).map (Value.int .i64) := by simp
  rw [e] at h
  rw [Nat.zero_add]
  refine own_cellZ h ?_
  rw [List.getElem?_map, List.getD_eq_getElem?_getD, List.getElem?_eq_getElem hj]
  rfl
theorem uponIn_round {F : Fence} {n : Nat} {P : Program} {o : Oper} {a : Act} {K : Act → World → Prop} {Q : Exit → Act → World → Prop} (l : Nat) (r : Result Next) (h : o.uponIn F n P a K Q r) : o.uponIn (F.inRound l) n P a K Q r := h
theorem wpOpIn_outR {F : Fence} {n : Nat} {P : Program} {ops : Array Oper} {Q : Exit → Act → World → Prop} (l : Nat) (hno : ∀ (i : Nat) (o : Oper), ops[i]? = some o → ∀ c, o.op ≠ Op.defer c) {i : Nat} {K : Act → World → Prop} {a : Act} {w : World} (h : wpOpIn F n P ops Q i K a w) : wpOpIn (F.inRound l) n P ops Q i K a w := by
  unfold wpOpIn at h ⊢
  cases ho : ops[i]? with
  | none => rw [ho] at h; exact h
  | some o =>
    rw [ho] at h
    simp only at h ⊢
    split at h
    · rename_i hw
      rw [if_pos hw]
      refine ⟨h.1, ?_⟩
      have h3 := h.2
      rw [Oper.semAt_eq _ _ _ (hno i o ho)] at h3
      rw [Oper.semAt_eq _ _ _ (hno i o ho)]
      exact uponIn_round l _ h3
    · rename_i hw
      rw [if_neg hw]
      exact h
/-- a region without a deferred call, inside a round: as outside -/
theorem wpAnyIn_outR {F : Fence} {n : Nat} {P : Program} {md : Region.Mode} {ops : Array Oper} {Q : Exit → Act → World → Prop} (l : Nat) (hno : ∀ (i : Nat) (o : Oper), ops[i]? = some o → ∀ c, o.op ≠ Op.defer c) : ∀ (fuel : Nat) (listed : Array Bool) (a : Act) (w : World), wpAnyIn F n P md ops Q fuel listed a w → wpAnyIn (F.inRound l) n P md ops Q fuel listed a w := by
  intro fuel
  induction fuel with
  | zero => exact fun _ _ _ h => h
  | succ fuel ih => exact fun listed a w h => ⟨h.1, fun i hi => wpOpIn_mono (fun a' w' h4 => ih _ _ _ h4) (wpOpIn_outR l hno (h.2 i hi))⟩
theorem no_defer {ops : Array Oper} (h : ops.all (fun o => match o.op with | Op.defer _ => false | _ => true) = true) : ∀ (i : Nat) (o : Oper), ops[i]? = some o → ∀ c, o.op ≠ Op.defer c := by
  intro i o ho c hc
  have h1 := Array.all_eq_true_iff_forall_mem.1 h o (Array.mem_of_getElem? ho)
  rw [hc] at h1
  cases h1
theorem CapBx.at {w V : World} {uv : Value} {cs : List Int} {a m bd : Int} (h : CapBx w uv cs a m bd V) {z : Nat} (hz : z < cs.length) : V.cell? ⟨w.heap.size + 1, z, none⟩ = some (.int .i64 (cs[z]?.getD 0)) ∧ V.frozen? ⟨w.heap.size + 1, z, none⟩ = false := by
  have h3 := h.2.2.2.1
  constructor
  · simp only [World.cell?, h3]
    simp [List.getElem?_eq_getElem hz]
  · simp [World.frozen?, h3]
theorem CapBx.set {w V : World} {uv : Value} {cs : List Int} {a m bd : Int} (h : CapBx w uv cs a m bd V) (z : Nat) (v : Int) : CapBx w uv (cs.set z v) a m bd (V.setCell ⟨w.heap.size + 1, z, none⟩ (.int .i64 v)) := by
  obtain ⟨h0, h1, h2, h3, h4, h5, h6⟩ := h
  have hk : ∀ k, k ≠ w.heap.size + 1 → (V.setCell ⟨w.heap.size + 1, z, none⟩ (.int .i64 v)).heap[k]? = V.heap[k]? := fun k hk => Below.heap_setCell _ _ _ _ hk
  have h7 := SS.set_obj (c := z) (.int .i64 v) h3
  refine ⟨h0.setCell (p := ⟨w.heap.size + 1, z, none⟩) (by show w.heap.size ≤ w.heap.size + 1; omega) _, by simpa using h1, (hk _ (by omega)).trans h2, ?_, (hk _ (by omega)).trans h4, (hk _ (by omega)).trans h5, (hk _ (by omega)).trans h6⟩
  rw [h7, List.map_set]
  simp
theorem one7 {W : World} {N : Nat} {v0 v1 v2 v3 v4 v5 v6 : Value} {T : TypeId} (h : W.heap[N]? = some (.cells #[v0, v1, v2, v3, v4, v5, v6] T)) : (W.cell? ⟨N, 0, none⟩ = some v0 ∧ W.cell? ⟨N, 1, none⟩ = some v1 ∧ W.cell? ⟨N, 2, none⟩ = some v2 ∧ W.cell? ⟨N, 3, none⟩ = some v3 ∧ W.cell? ⟨N, 4, none⟩ = some v4 ∧ W.cell? ⟨N, 5, none⟩ = some v5 ∧ W.cell? ⟨N, 6, none⟩ = some v6) ∧ W.frozen? ⟨N, 0, none⟩ = false ∧ W.frozen? ⟨N, 1, none⟩ = false ∧ W.frozen? ⟨N, 2, none⟩ = false ∧ W.frozen? ⟨N, 3, none⟩ = false ∧ W.frozen? ⟨N, 4, none⟩ = false ∧ W.frozen? ⟨N, 5, none⟩ = false ∧ W.frozen? ⟨N, 6, none⟩ = false := by
  refine ⟨⟨?_, ?_, ?_, ?_, ?_, ?_, ?_⟩, ?_, ?_, ?_, ?_, ?_, ?_, ?_⟩ <;> simp [World.cell?, World.frozen?, h]
def set7 (W : World) (N : Nat) (v0 v1 v2 v3 v4 v5 v6 : Value) : World := ((((((W.setCell ⟨N, 0, none⟩ v0).setCell ⟨N, 1, none⟩ v1).setCell ⟨N, 2, none⟩ v2).setCell ⟨N, 3, none⟩ v3).setCell ⟨N, 4, none⟩ v4).setCell ⟨N, 5, none⟩ v5).setCell ⟨N, 6, none⟩ v6
theorem set7_obj {W : World} {N : Nat} {u0 u1 u2 u3 u4 u5 u6 : Value} {T : TypeId} (h : W.heap[N]? = some (.cells #[u0, u1, u2, u3, u4, u5, u6] T)) (v0 v1 v2 v3 v4 v5 v6 : Value) : (set7 W N v0 v1 v2 v3 v4 v5 v6).heap[N]? = some (.cells #[v0, v1, v2, v3, v4, v5, v6] T) := by
  rw [set7, SS.set_obj (c := 6) v6 (SS.set_obj (c := 5) v5 (SS.set_obj (c := 4) v4 (SS.set_obj (c := 3) v3 (SS.set_obj (c := 2) v2 (SS.set_obj (c := 1) v1 (SS.set_obj (c := 0) v0 h))))))]
  simp only [List.setIfInBounds_toArray, List.set_cons_succ, List.set_cons_zero]
theorem wf_levC {xs : List Int} {c : Int} (hx : xs.length ≤ big5) (h : 0 ≤ c ∧ c < xs.length) : (Lit.int .i64 c).wf = true := by
  unfold big5 at hx
  simp only [Lit.wf, Bool.and_eq_true, decide_eq_true_eq]
  exact ⟨show (-9223372036854775808 : Int) ≤ c by omega, show c ≤ (9223372036854775807 : Int) by omega⟩
theorem inB5_of {xs : List Int} {a b : Int} (hr : LL.rightB xs = true) (ha : 0 ≤ a ∧ a < xs.length) (hb : 0 ≤ b ∧ b < xs.length) : inB5 xs a b = true := by
  unfold inB5
  rw [hr, decide_eq_true ha.1, decide_eq_true ha.2, decide_eq_true hb.1, decide_eq_true hb.2]
  rfl
theorem set7_below {w W : World} {N n : Nat} (h : Below n w W) (hn : n ≤ N) (v0 v1 v2 v3 v4 v5 v6 : Value) : Below n w (set7 W N v0 v1 v2 v3 v4 v5 v6) :=
  ((((((h.setCell (p := ⟨N, 0, none⟩) hn _).setCell (p := ⟨N, 1, none⟩) hn _).setCell (p := ⟨N, 2, none⟩) hn _).setCell (p := ⟨N, 3, none⟩) hn _).setCell (p := ⟨N, 4, none⟩) hn _).setCell (p := ⟨N, 5, none⟩) hn _).setCell (p := ⟨N, 6, none⟩) hn _
theorem set7_others (W : World) (N : Nat) (v0 v1 v2 v3 v4 v5 v6 : Value) : KeepsOthers W (set7 W N v0 v1 v2 v3 v4 v5 v6) :=
  ((((((KeepsOthers.setCell W _ _).trans (KeepsOthers.setCell _ _ _)).trans (KeepsOthers.setCell _ _ _)).trans (KeepsOthers.setCell _ _ _)).trans (KeepsOthers.setCell _ _ _)).trans (KeepsOthers.setCell _ _ _)).trans (KeepsOthers.setCell _ _ _)
theorem others_below {W V : World} (hb : Below W.heap.size W V) : KeepsOthers W V := ⟨hb.size, fun k _ h _ => (hb.block k (Array.getElem?_eq_some_iff.1 h).1).trans h⟩
set_option maxRecDepth 100000 in
set_option maxHeartbeats 6400000 in
theorem scap_any {ua : Option Addr} {uc : Nat} {xs cs : List Int} {a m bd : Int} (w : World) (hu : Nums .u64 w.heap.size w (.slice ua xs.length uc) xs) (hx : Wide xs) (hxl : xs.length ≤ big5) (hT : Tz w) (h7 : cs.length = 7) (hm : 0 ≤ m ∧ m ≤ 18446744073709551615) :
    Calls Tryd.prog 29 #[.slice ua xs.length uc, .agg (cs.map (Value.int .i64)).toArray, .agg #[.int .i64 a, .int .u64 m], .int .i64 bd] w fun e V => e = .returned (capRet (capB xs cs a m bd) (capF xs bd cs (MM.bitsOf m))) ∧ Below w.heap.size w V := by
  obtain ⟨c0, c1, c2, c3, c4, c5, c6, e7⟩ := seven h7
  have HC := Lib.hid e7
  obtain ⟨i0, hi, hz0, hz1, hz2⟩ := info_parts Tryd.infoInt
  have HM := Lib.hid hm
  have HU := Lib.hid hu
  have HX := Lib.hid hx
  have HXL := Lib.hid hxl
  have HT := Lib.hid hT
  have HFIT := Lib.hid (show ∀ W, Calls Tryd.prog 45 #[.agg #[.int .i64 a, .int .u64 m], .int .i64 6] W fun e V => e = .returned (.bool (fitB m 6)) ∧ Below W.heap.size W V from fun W => sfits_any a m 6 W hm.1 hm.2 (by omega))
  have HRT := Lib.hid (fun W (hb : Below w.heap.size w W) => right5_any _ xs _ W ((hu.below hb).mono hb.size) (Nat.le_refl _) hx hxl (hT.on hb))
  have b0 : (xs.length : Int) ≤ 17592186044416 := by have := hxl; unfold big5 at this; omega
  obtain ⟨zf, ezf⟩ : ∃ zf, zf = fitB m 6 := ⟨_, rfl⟩
  obtain ⟨zr, ezr⟩ : ∃ zr, zr = LL.rightB xs := ⟨_, rfl⟩
  have HZF := Lib.hid ezf
  have HZR := Lib.hid ezr
  have HE := Lib.hid (show (Value.agg (cs.map (Value.int .i64)).toArray) = .agg #[.int .i64 c0, .int .i64 c1, .int .i64 c2, .int .i64 c3, .int .i64 c4, .int .i64 c5, .int .i64 c6] by rw [e7]; rfl)
  have HB0 := Lib.hid (capBx_start w (.slice ua xs.length uc) cs a m bd)
  obtain ⟨W0, eW0⟩ : ∃ W0, W0 = (((((w.alloc (.cells #[.slice ua xs.length uc] 22)).alloc (.cells (cs.map (Value.int .i64)).toArray 56)).alloc (.cells #[.int .i64 a, .int .u64 m] 38)).alloc (.cells #[.int .i64 bd] 3)).alloc (.cells (zero7.map (Value.int .i64)).toArray 56)) := ⟨_, rfl⟩
  rw [← eW0] at HB0
  rw [e7] at eW0
  simp only [List.map, zero7] at eW0
  rw [HE.out]
  clear hu hxl hx e7 ezf ezr
  refine (callsIn_wide (n := 5)).1 ?_
  refine callsIn_of_wp_marks Tryd.func29 rfl trivial ?_ rfl
  simp only [Tryd.ntmps29, List.size_toArray, List.length_cons, List.length_nil, Nat.reduceAdd, Nat.reduceSub, Array.replicate_succ, Array.replicate_zero, List.push_toArray, List.append_toArray, List.nil_append, List.cons_append]
  gi_upto_region 1 with fail
  rw [← eW0]
  clear eW0
  gi_cut [10] from 12 (fun s10 w9 => ∃ g c, s10 = .slice (some ⟨g, 0, none⟩) 9 c ∧ Nine w9 g (cs ++ [bd, a]) ∧ CapBx w (.slice ua xs.length uc) cs a m bd w9)
  case first =>
    have HB1 := Lib.hid HB0.out.drew
    have HS1 := Lib.hid (show W0.heap.size ≤ W0.drew.heap.size from Nat.le_refl _)
    refine wpIn_region_any (by kernel_rfl) ?_
    change wpAnyIn _ _ _ _ _ _ _ _ _ (World.drew _)
    generalize W0.drew = w1 at HB1 HS1 ⊢
    obtain ⟨hc0, hc1, hc2, hc3⟩ := HB1.out.cells
    try simp only [zA, zB, zC, Act.put, zD, zE, zF]
    refine wpAnyIn_ready (rs := [0, 1, 2]) (by kernel_rfl) (by simp) ?_
    refine AllReadyIn.cons rfl (fun K hK => ?_) ?_
    · try simp only [zA, zB, zC]
      go_simp
      refine hK _ _ ?_
      clear hK K
      try simp only [zA, zB, zC, Act.put, zD, zE, zF]
      refine wpAnyIn_ready (rs := [1, 2]) (by kernel_rfl) (by simp) ?_
      refine AllReadyIn.cons rfl (fun K hK => ?_) ?_
      · try simp only [zA, zB, zC]
        go_simp
        refine hK _ _ ?_
        clear hK K
        try simp only [zA, zB, zC, Act.put, zD, zE, zF]
        refine wpAnyIn_ready (rs := [2]) (by kernel_rfl) (by simp) ?_
        refine AllReadyIn.cons rfl (fun K hK => ?_) AllReadyIn.nil
        try simp only [zA, zB, zC]
        go_simp
        refine hK _ _ ?_
        clear hK K
        try simp only [zA, zB, zC, Act.put, zD, zE, zF]
        refine wpAnyIn_ready (rs := [3]) (by kernel_rfl) (by simp) ?_
        refine AllReadyIn.cons rfl (fun K hK => ?_) AllReadyIn.nil
        try simp only [zA, zB, zC]
        go_simp
        refine hK _ _ ?_
        clear hK K
        try simp only [zA, zB, zC, Act.put, zD, zE, zF]
        refine wpAnyIn_ready (rs := [4]) (by kernel_rfl) (by simp) ?_
        refine AllReadyIn.cons rfl (fun K hK => ?_) AllReadyIn.nil
        try simp only [zA, zB, zC]
        go_simp
        obtain ⟨w2, ew2⟩ : ∃ W, W = w1.alloc (.cells #[.int .i64 bd, .int .i64 a] 3) := ⟨_, rfl⟩
        rw [← ew2]
        have HB2 := Lib.hid (HB1.out.on (show Below w1.heap.size w1 w2 by rw [ew2]; exact (Below.refl _ _).alloc (Nat.le_refl _) _))
        have HN2 := Lib.hid (show w2.heap[w1.heap.size]? = some (.cells #[.int .i64 bd, .int .i64 a] 3) by rw [ew2]; exact heap_alloc_new _ _)
        have HS2 := Lib.hid (show W0.heap.size ≤ w2.heap.size by rw [ew2, World.size_alloc]; have := HS1.out; omega)
        clear ew2
        refine hK _ _ ?_
        clear hK K
        try simp only [zA, zB, zC, Act.put, zD, zE, zF]
        refine wpAnyIn_ready (rs := [5]) (by kernel_rfl) (by simp) ?_
        refine AllReadyIn.cons rfl (fun K hK => ?_) AllReadyIn.nil
        refine step_grows_in rfl (.tmp 12) (.tmp 16) 29 rfl 3 i0 (.int .i64 0) 1 8 Tryd.underlying29 hi hz0 hz1 hz2 rfl (by decide) ⟨w.heap.size + 1, 0, none⟩ 7 7 (cs.map (Value.int .i64)) (by rfl) (by simp [h7]) (cells_add HB2.out.2.2.2.1) ⟨w1.heap.size, 0, none⟩ 2 2 [.int .i64 bd, .int .i64 a] (by rfl) rfl (World.news_of_block HN2.out) (by omega) (by unfold maxLen; omega) (by omega) ?_
        intro v' w5 hown hg
        obtain ⟨g5, c5', rfl, ho5⟩ := nine_own h7 hown
        have HO5 := Lib.hid ho5
        have HB5 := Lib.hid (HB2.out.on ((Below.refl _ _).grown hg (Nat.le_refl _) (fun k e => by cases e)))
        clear hown hg ho5
        refine hK _ _ ?_
        clear hK K
        try simp only [zA, zB, zC, Act.put, zD, zE, zF]
        refine wpAnyIn_ready (rs := [6]) (by kernel_rfl) (by simp) ?_
        refine AllReadyIn.cons rfl (fun K hK => ?_) AllReadyIn.nil
        try simp only [zA, zB, zC]
        go_simp
        refine hK _ _ ?_
        clear hK K
        try simp only [zA, zB, zC, Act.put, zD, zE, zF]
        refine wpAnyIn_done (by kernel_rfl) ?_ _
        gi_wp2
        gi_meet
        case rel => exact ⟨_, _, rfl, HO5.out, HB5.out⟩
      refine AllReadyIn.cons rfl (fun K hK => ?_) ?_
      · try simp only [zA, zB, zC]
        go_simp
        refine hK _ _ ?_
        clear hK K
        try simp only [zA, zB, zC, Act.put, zD, zE, zF]
        refine wpAnyIn_ready (rs := [1, 3]) (by kernel_rfl) (by simp) ?_
        refine AllReadyIn.cons rfl (fun K hK => ?_) ?_
        · try simp only [zA, zB, zC]
          go_simp
          refine hK _ _ ?_
          clear hK K
          try simp only [zA, zB, zC, Act.put, zD, zE, zF]
          refine wpAnyIn_ready (rs := [3]) (by kernel_rfl) (by simp) ?_
          refine AllReadyIn.cons rfl (fun K hK => ?_) AllReadyIn.nil
          try simp only [zA, zB, zC]
          go_simp
          refine hK _ _ ?_
          clear hK K
          try simp only [zA, zB, zC, Act.put, zD, zE, zF]
          refine wpAnyIn_ready (rs := [4]) (by kernel_rfl) (by simp) ?_
          refine AllReadyIn.cons rfl (fun K hK => ?_) AllReadyIn.nil
          try simp only [zA, zB, zC]
          go_simp
          obtain ⟨w2, ew2⟩ : ∃ W, W = w1.alloc (.cells #[.int .i64 bd, .int .i64 a] 3) := ⟨_, rfl⟩
          rw [← ew2]
          have HB2 := Lib.hid (HB1.out.on (show Below w1.heap.size w1 w2 by rw [ew2]; exact (Below.refl _ _).alloc (Nat.le_refl _) _))
          have HN2 := Lib.hid (show w2.heap[w1.heap.size]? = some (.cells #[.int .i64 bd, .int .i64 a] 3) by rw [ew2]; exact heap_alloc_new _ _)
          have HS2 := Lib.hid (show W0.heap.size ≤ w2.heap.size by rw [ew2, World.size_alloc]; have := HS1.out; omega)
          clear ew2
          refine hK _ _ ?_
          clear hK K
          try simp only [zA, zB, zC, Act.put, zD, zE, zF]
          refine wpAnyIn_ready (rs := [5]) (by kernel_rfl) (by simp) ?_
          refine AllReadyIn.cons rfl (fun K hK => ?_) AllReadyIn.nil
          refine step_grows_in rfl (.tmp 12) (.tmp 16) 29 rfl 3 i0 (.int .i64 0) 1 8 Tryd.underlying29 hi hz0 hz1 hz2 rfl (by decide) ⟨w.heap.size + 1, 0, none⟩ 7 7 (cs.map (Value.int .i64)) (by rfl) (by simp [h7]) (cells_add HB2.out.2.2.2.1) ⟨w1.heap.size, 0, none⟩ 2 2 [.int .i64 bd, .int .i64 a] (by rfl) rfl (World.news_of_block HN2.out) (by omega) (by unfold maxLen; omega) (by omega) ?_
          intro v' w5 hown hg
          obtain ⟨g5, c5', rfl, ho5⟩ := nine_own h7 hown
          have HO5 := Lib.hid ho5
          have HB5 := Lib.hid (HB2.out.on ((Below.refl _ _).grown hg (Nat.le_refl _) (fun k e => by cases e)))
          clear hown hg ho5
          refine hK _ _ ?_
          clear hK K
          try simp only [zA, zB, zC, Act.put, zD, zE, zF]
          refine wpAnyIn_ready (rs := [6]) (by kernel_rfl) (by simp) ?_
          refine AllReadyIn.cons rfl (fun K hK => ?_) AllReadyIn.nil
          try simp only [zA, zB, zC]
          go_simp
          refine hK _ _ ?_
          clear hK K
          try simp only [zA, zB, zC, Act.put, zD, zE, zF]
          refine wpAnyIn_done (by kernel_rfl) ?_ _
          gi_wp2
          gi_meet
          case rel => exact ⟨_, _, rfl, HO5.out, HB5.out⟩
        refine AllReadyIn.cons rfl (fun K hK => ?_) ?_
        · try simp only [zA, zB, zC]
          go_simp
          refine hK _ _ ?_
          clear hK K
          try simp only [zA, zB, zC, Act.put, zD, zE, zF]
          refine wpAnyIn_ready (rs := [1]) (by kernel_rfl) (by simp) ?_
          refine AllReadyIn.cons rfl (fun K hK => ?_) AllReadyIn.nil
          try simp only [zA, zB, zC]
          go_simp
          refine hK _ _ ?_
          clear hK K
          try simp only [zA, zB, zC, Act.put, zD, zE, zF]
          refine wpAnyIn_ready (rs := [4]) (by kernel_rfl) (by simp) ?_
          refine AllReadyIn.cons rfl (fun K hK => ?_) AllReadyIn.nil
          try simp only [zA, zB, zC]
          go_simp
          obtain ⟨w2, ew2⟩ : ∃ W, W = w1.alloc (.cells #[.int .i64 bd, .int .i64 a] 3) := ⟨_, rfl⟩
          rw [← ew2]
          have HB2 := Lib.hid (HB1.out.on (show Below w1.heap.size w1 w2 by rw [ew2]; exact (Below.refl _ _).alloc (Nat.le_refl _) _))
          have HN2 := Lib.hid (show w2.heap[w1.heap.size]? = some (.cells #[.int .i64 bd, .int .i64 a] 3) by rw [ew2]; exact heap_alloc_new _ _)
          have HS2 := Lib.hid (show W0.heap.size ≤ w2.heap.size by rw [ew2, World.size_alloc]; have := HS1.out; omega)
          clear ew2
          refine hK _ _ ?_
          clear hK K
          try simp only [zA, zB, zC, Act.put, zD, zE, zF]
          refine wpAnyIn_ready (rs := [5]) (by kernel_rfl) (by simp) ?_
          refine AllReadyIn.cons rfl (fun K hK => ?_) AllReadyIn.nil
          refine step_grows_in rfl (.tmp 12) (.tmp 16) 29 rfl 3 i0 (.int .i64 0) 1 8 Tryd.underlying29 hi hz0 hz1 hz2 rfl (by decide) ⟨w.heap.size + 1, 0, none⟩ 7 7 (cs.map (Value.int .i64)) (by rfl) (by simp [h7]) (cells_add HB2.out.2.2.2.1) ⟨w1.heap.size, 0, none⟩ 2 2 [.int .i64 bd, .int .i64 a] (by rfl) rfl (World.news_of_block HN2.out) (by omega) (by unfold maxLen; omega) (by omega) ?_
          intro v' w5 hown hg
          obtain ⟨g5, c5', rfl, ho5⟩ := nine_own h7 hown
          have HO5 := Lib.hid ho5
          have HB5 := Lib.hid (HB2.out.on ((Below.refl _ _).grown hg (Nat.le_refl _) (fun k e => by cases e)))
          clear hown hg ho5
          refine hK _ _ ?_
          clear hK K
          try simp only [zA, zB, zC, Act.put, zD, zE, zF]
          refine wpAnyIn_ready (rs := [6]) (by kernel_rfl) (by simp) ?_
          refine AllReadyIn.cons rfl (fun K hK => ?_) AllReadyIn.nil
          try simp only [zA, zB, zC]
          go_simp
          refine hK _ _ ?_
          clear hK K
          try simp only [zA, zB, zC, Act.put, zD, zE, zF]
          refine wpAnyIn_done (by kernel_rfl) ?_ _
          gi_wp2
          gi_meet
          case rel => exact ⟨_, _, rfl, HO5.out, HB5.out⟩
        exact AllReadyIn.nil
      exact AllReadyIn.nil
    refine AllReadyIn.cons rfl (fun K hK => ?_) ?_
    · try simp only [zA, zB, zC]
      go_simp
      refine hK _ _ ?_
      clear hK K
      try simp only [zA, zB, zC, Act.put, zD, zE, zF]
      refine wpAnyIn_ready (rs := [0, 2]) (by kernel_rfl) (by simp) ?_
      refine AllReadyIn.cons rfl (fun K hK => ?_) ?_
      · try simp only [zA, zB, zC]
        go_simp
        refine hK _ _ ?_
        clear hK K
        try simp only [zA, zB, zC, Act.put, zD, zE, zF]
        refine wpAnyIn_ready (rs := [2]) (by kernel_rfl) (by simp) ?_
        refine AllReadyIn.cons rfl (fun K hK => ?_) AllReadyIn.nil
        try simp only [zA, zB, zC]
        go_simp
        refine hK _ _ ?_
        clear hK K
        try simp only [zA, zB, zC, Act.put, zD, zE, zF]
        refine wpAnyIn_ready (rs := [3]) (by kernel_rfl) (by simp) ?_
        refine AllReadyIn.cons rfl (fun K hK => ?_) AllReadyIn.nil
        try simp only [zA, zB, zC]
        go_simp
        refine hK _ _ ?_
        clear hK K
        try simp only [zA, zB, zC, Act.put, zD, zE, zF]
        refine wpAnyIn_ready (rs := [4]) (by kernel_rfl) (by simp) ?_
        refine AllReadyIn.cons rfl (fun K hK => ?_) AllReadyIn.nil
        try simp only [zA, zB, zC]
        go_simp
        obtain ⟨w2, ew2⟩ : ∃ W, W = w1.alloc (.cells #[.int .i64 bd, .int .i64 a] 3) := ⟨_, rfl⟩
        rw [← ew2]
        have HB2 := Lib.hid (HB1.out.on (show Below w1.heap.size w1 w2 by rw [ew2]; exact (Below.refl _ _).alloc (Nat.le_refl _) _))
        have HN2 := Lib.hid (show w2.heap[w1.heap.size]? = some (.cells #[.int .i64 bd, .int .i64 a] 3) by rw [ew2]; exact heap_alloc_new _ _)
        have HS2 := Lib.hid (show W0.heap.size ≤ w2.heap.size by rw [ew2, World.size_alloc]; have := HS1.out; omega)
        clear ew2
        refine hK _ _ ?_
        clear hK K
        try simp only [zA, zB, zC, Act.put, zD, zE, zF]
        refine wpAnyIn_ready (rs := [5]) (by kernel_rfl) (by simp) ?_
        refine AllReadyIn.cons rfl (fun K hK => ?_) AllReadyIn.nil
        refine step_grows_in rfl (.tmp 12) (.tmp 16) 29 rfl 3 i0 (.int .i64 0) 1 8 Tryd.underlying29 hi hz0 hz1 hz2 rfl (by decide) ⟨w.heap.size + 1, 0, none⟩ 7 7 (cs.map (Value.int .i64)) (by rfl) (by simp [h7]) (cells_add HB2.out.2.2.2.1) ⟨w1.heap.size, 0, none⟩ 2 2 [.int .i64 bd, .int .i64 a] (by rfl) rfl (World.news_of_block HN2.out) (by omega) (by unfold maxLen; omega) (by omega) ?_
        intro v' w5 hown hg
        obtain ⟨g5, c5', rfl, ho5⟩ := nine_own h7 hown
        have HO5 := Lib.hid ho5
        have HB5 := Lib.hid (HB2.out.on ((Below.refl _ _).grown hg (Nat.le_refl _) (fun k e => by cases e)))
        clear hown hg ho5
        refine hK _ _ ?_
        clear hK K
        try simp only [zA, zB, zC, Act.put, zD, zE, zF]
        refine wpAnyIn_ready (rs := [6]) (by kernel_rfl) (by simp) ?_
        refine AllReadyIn.cons rfl (fun K hK => ?_) AllReadyIn.nil
        try simp only [zA, zB, zC]
        go_simp
        refine hK _ _ ?_
        clear hK K
        try simp only [zA, zB, zC, Act.put, zD, zE, zF]
        refine wpAnyIn_done (by kernel_rfl) ?_ _
        gi_wp2
        gi_meet
        case rel => exact ⟨_, _, rfl, HO5.out, HB5.out⟩
      refine AllReadyIn.cons rfl (fun K hK => ?_) ?_
      · try simp only [zA, zB, zC]
        go_simp
        refine hK _ _ ?_
        clear hK K
        try simp only [zA, zB, zC, Act.put, zD, zE, zF]
        refine wpAnyIn_ready (rs := [0, 3]) (by kernel_rfl) (by simp) ?_
        refine AllReadyIn.cons rfl (fun K hK => ?_) ?_
        · try simp only [zA, zB, zC]
          go_simp
          refine hK _ _ ?_
          clear hK K
          try simp only [zA, zB, zC, Act.put, zD, zE, zF]
          refine wpAnyIn_ready (rs := [3]) (by kernel_rfl) (by simp) ?_
          refine AllReadyIn.cons rfl (fun K hK => ?_) AllReadyIn.nil
          try simp only [zA, zB, zC]
          go_simp
          refine hK _ _ ?_
          clear hK K
          try simp only [zA, zB, zC, Act.put, zD, zE, zF]
          refine wpAnyIn_ready (rs := [4]) (by kernel_rfl) (by simp) ?_
          refine AllReadyIn.cons rfl (fun K hK => ?_) AllReadyIn.nil
          try simp only [zA, zB, zC]
          go_simp
          obtain ⟨w2, ew2⟩ : ∃ W, W = w1.alloc (.cells #[.int .i64 bd, .int .i64 a] 3) := ⟨_, rfl⟩
          rw [← ew2]
          have HB2 := Lib.hid (HB1.out.on (show Below w1.heap.size w1 w2 by rw [ew2]; exact (Below.refl _ _).alloc (Nat.le_refl _) _))
          have HN2 := Lib.hid (show w2.heap[w1.heap.size]? = some (.cells #[.int .i64 bd, .int .i64 a] 3) by rw [ew2]; exact heap_alloc_new _ _)
          have HS2 := Lib.hid (show W0.heap.size ≤ w2.heap.size by rw [ew2, World.size_alloc]; have := HS1.out; omega)
          clear ew2
          refine hK _ _ ?_
          clear hK K
          try simp only [zA, zB, zC, Act.put, zD, zE, zF]
          refine wpAnyIn_ready (rs := [5]) (by kernel_rfl) (by simp) ?_
          refine AllReadyIn.cons rfl (fun K hK => ?_) AllReadyIn.nil
          refine step_grows_in rfl (.tmp 12) (.tmp 16) 29 rfl 3 i0 (.int .i64 0) 1 8 Tryd.underlying29 hi hz0 hz1 hz2 rfl (by decide) ⟨w.heap.size + 1, 0, none⟩ 7 7 (cs.map (Value.int .i64)) (by rfl) (by simp [h7]) (cells_add HB2.out.2.2.2.1) ⟨w1.heap.size, 0, none⟩ 2 2 [.int .i64 bd, .int .i64 a] (by rfl) rfl (World.news_of_block HN2.out) (by omega) (by unfold maxLen; omega) (by omega) ?_
          intro v' w5 hown hg
          obtain ⟨g5, c5', rfl, ho5⟩ := nine_own h7 hown
          have HO5 := Lib.hid ho5
          have HB5 := Lib.hid (HB2.out.on ((Below.refl _ _).grown hg (Nat.le_refl _) (fun k e => by cases e)))
          clear hown hg ho5
          refine hK _ _ ?_
          clear hK K
          try simp only [zA, zB, zC, Act.put, zD, zE, zF]
          refine wpAnyIn_ready (rs := [6]) (by kernel_rfl) (by simp) ?_
          refine AllReadyIn.cons rfl (fun K hK => ?_) AllReadyIn.nil
          try simp only [zA, zB, zC]
          go_simp
          refine hK _ _ ?_
          clear hK K
          try simp only [zA, zB, zC, Act.put, zD, zE, zF]
          refine wpAnyIn_done (by kernel_rfl) ?_ _
          gi_wp2
          gi_meet
          case rel => exact ⟨_, _, rfl, HO5.out, HB5.out⟩
        refine AllReadyIn.cons rfl (fun K hK => ?_) ?_
        · try simp only [zA, zB, zC]
          go_simp
          refine hK _ _ ?_
          clear hK K
          try simp only [zA, zB, zC, Act.put, zD, zE, zF]
          refine wpAnyIn_ready (rs := [0, 4]) (by kernel_rfl) (by simp) ?_
          refine AllReadyIn.cons rfl (fun K hK => ?_) ?_
          · try simp only [zA, zB, zC]
            go_simp
            refine hK _ _ ?_
            clear hK K
            try simp only [zA, zB, zC, Act.put, zD, zE, zF]
            refine wpAnyIn_ready (rs := [4]) (by kernel_rfl) (by simp) ?_
            refine AllReadyIn.cons rfl (fun K hK => ?_) AllReadyIn.nil
            try simp only [zA, zB, zC]
            go_simp
            obtain ⟨w2, ew2⟩ : ∃ W, W = w1.alloc (.cells #[.int .i64 bd, .int .i64 a] 3) := ⟨_, rfl⟩
            rw [← ew2]
            have HB2 := Lib.hid (HB1.out.on (show Below w1.heap.size w1 w2 by rw [ew2]; exact (Below.refl _ _).alloc (Nat.le_refl _) _))
            have HN2 := Lib.hid (show w2.heap[w1.heap.size]? = some (.cells #[.int .i64 bd, .int .i64 a] 3) by rw [ew2]; exact heap_alloc_new _ _)
            have HS2 := Lib.hid (show W0.heap.size ≤ w2.heap.size by rw [ew2, World.size_alloc]; have := HS1.out; omega)
            clear ew2
            refine hK _ _ ?_
            clear hK K
            try simp only [zA, zB, zC, Act.put, zD, zE, zF]
            refine wpAnyIn_ready (rs := [5]) (by kernel_rfl) (by simp) ?_
            refine AllReadyIn.cons rfl (fun K hK => ?_) AllReadyIn.nil
            refine step_grows_in rfl (.tmp 12) (.tmp 16) 29 rfl 3 i0 (.int .i64 0) 1 8 Tryd.underlying29 hi hz0 hz1 hz2 rfl (by decide) ⟨w.heap.size + 1, 0, none⟩ 7 7 (cs.map (Value.int .i64)) (by rfl) (by simp [h7]) (cells_add HB2.out.2.2.2.1) ⟨w1.heap.size, 0, none⟩ 2 2 [.int .i64 bd, .int .i64 a] (by rfl) rfl (World.news_of_block HN2.out) (by omega) (by unfold maxLen; omega) (by omega) ?_
            intro v' w5 hown hg
            obtain ⟨g5, c5', rfl, ho5⟩ := nine_own h7 hown
            have HO5 := Lib.hid ho5
            have HB5 := Lib.hid (HB2.out.on ((Below.refl _ _).grown hg (Nat.le_refl _) (fun k e => by cases e)))
            clear hown hg ho5
            refine hK _ _ ?_
            clear hK K
            try simp only [zA, zB, zC, Act.put, zD, zE, zF]
            refine wpAnyIn_ready (rs := [6]) (by kernel_rfl) (by simp) ?_
            refine AllReadyIn.cons rfl (fun K hK => ?_) AllReadyIn.nil
            try simp only [zA, zB, zC]
            go_simp
            refine hK _ _ ?_
            clear hK K
            try simp only [zA, zB, zC, Act.put, zD, zE, zF]
            refine wpAnyIn_done (by kernel_rfl) ?_ _
            gi_wp2
            gi_meet
            case rel => exact ⟨_, _, rfl, HO5.out, HB5.out⟩
          refine AllReadyIn.cons rfl (fun K hK => ?_) ?_
          · try simp only [zA, zB, zC]
            go_simp
            obtain ⟨w2, ew2⟩ : ∃ W, W = w1.alloc (.cells #[.int .i64 bd, .int .i64 a] 3) := ⟨_, rfl⟩
            rw [← ew2]
            have HB2 := Lib.hid (HB1.out.on (show Below w1.heap.size w1 w2 by rw [ew2]; exact (Below.refl _ _).alloc (Nat.le_refl _) _))
            have HN2 := Lib.hid (show w2.heap[w1.heap.size]? = some (.cells #[.int .i64 bd, .int .i64 a] 3) by rw [ew2]; exact heap_alloc_new _ _)
            have HS2 := Lib.hid (show W0.heap.size ≤ w2.heap.size by rw [ew2, World.size_alloc]; have := HS1.out; omega)
            clear ew2
            refine hK _ _ ?_
            clear hK K
            try simp only [zA, zB, zC, Act.put, zD, zE, zF]
            refine wpAnyIn_ready (rs := [0]) (by kernel_rfl) (by simp) ?_
            refine AllReadyIn.cons rfl (fun K hK => ?_) AllReadyIn.nil
            try simp only [zA, zB, zC]
            go_simp
            refine hK _ _ ?_
            clear hK K
            try simp only [zA, zB, zC, Act.put, zD, zE, zF]
            refine wpAnyIn_ready (rs := [5]) (by kernel_rfl) (by simp) ?_
            refine AllReadyIn.cons rfl (fun K hK => ?_) AllReadyIn.nil
            refine step_grows_in rfl (.tmp 12) (.tmp 16) 29 rfl 3 i0 (.int .i64 0) 1 8 Tryd.underlying29 hi hz0 hz1 hz2 rfl (by decide) ⟨w.heap.size + 1, 0, none⟩ 7 7 (cs.map (Value.int .i64)) (by rfl) (by simp [h7]) (cells_add HB2.out.2.2.2.1) ⟨w1.heap.size, 0, none⟩ 2 2 [.int .i64 bd, .int .i64 a] (by rfl) rfl (World.news_of_block HN2.out) (by omega) (by unfold maxLen; omega) (by omega) ?_
            intro v' w5 hown hg
            obtain ⟨g5, c5', rfl, ho5⟩ := nine_own h7 hown
            have HO5 := Lib.hid ho5
            have HB5 := Lib.hid (HB2.out.on ((Below.refl _ _).grown hg (Nat.le_refl _) (fun k e => by cases e)))
            clear hown hg ho5
            refine hK _ _ ?_
            clear hK K
            try simp only [zA, zB, zC, Act.put, zD, zE, zF]
            refine wpAnyIn_ready (rs := [6]) (by kernel_rfl) (by simp) ?_
            refine AllReadyIn.cons rfl (fun K hK => ?_) AllReadyIn.nil
            try simp only [zA, zB, zC]
            go_simp
            refine hK _ _ ?_
            clear hK K
            try simp only [zA, zB, zC, Act.put, zD, zE, zF]
            refine wpAnyIn_done (by kernel_rfl) ?_ _
            gi_wp2
            gi_meet
            case rel => exact ⟨_, _, rfl, HO5.out, HB5.out⟩
          exact AllReadyIn.nil
        exact AllReadyIn.nil
      exact AllReadyIn.nil
    refine AllReadyIn.cons rfl (fun K hK => ?_) ?_
    · try simp only [zA, zB, zC]
      go_simp
      refine hK _ _ ?_
      clear hK K
      try simp only [zA, zB, zC, Act.put, zD, zE, zF]
      refine wpAnyIn_ready (rs := [0, 1, 3]) (by kernel_rfl) (by simp) ?_
      refine AllReadyIn.cons rfl (fun K hK => ?_) ?_
      · try simp only [zA, zB, zC]
        go_simp
        refine hK _ _ ?_
        clear hK K
        try simp only [zA, zB, zC, Act.put, zD, zE, zF]
        refine wpAnyIn_ready (rs := [1, 3]) (by kernel_rfl) (by simp) ?_
        refine AllReadyIn.cons rfl (fun K hK => ?_) ?_
        · try simp only [zA, zB, zC]
          go_simp
          refine hK _ _ ?_
          clear hK K
          try simp only [zA, zB, zC, Act.put, zD, zE, zF]
          refine wpAnyIn_ready (rs := [3]) (by kernel_rfl) (by simp) ?_
          refine AllReadyIn.cons rfl (fun K hK => ?_) AllReadyIn.nil
          try simp only [zA, zB, zC]
          go_simp
          refine hK _ _ ?_
          clear hK K
          try simp only [zA, zB, zC, Act.put, zD, zE, zF]
          refine wpAnyIn_ready (rs := [4]) (by kernel_rfl) (by simp) ?_
          refine AllReadyIn.cons rfl (fun K hK => ?_) AllReadyIn.nil
          try simp only [zA, zB, zC]
          go_simp
          obtain ⟨w2, ew2⟩ : ∃ W, W = w1.alloc (.cells #[.int .i64 bd, .int .i64 a] 3) := ⟨_, rfl⟩
          rw [← ew2]
          have HB2 := Lib.hid (HB1.out.on (show Below w1.heap.size w1 w2 by rw [ew2]; exact (Below.refl _ _).alloc (Nat.le_refl _) _))
          have HN2 := Lib.hid (show w2.heap[w1.heap.size]? = some (.cells #[.int .i64 bd, .int .i64 a] 3) by rw [ew2]; exact heap_alloc_new _ _)
          have HS2 := Lib.hid (show W0.heap.size ≤ w2.heap.size by rw [ew2, World.size_alloc]; have := HS1.out; omega)
          clear ew2
          refine hK _ _ ?_
          clear hK K
          try simp only [zA, zB, zC, Act.put, zD, zE, zF]
          refine wpAnyIn_ready (rs := [5]) (by kernel_rfl) (by simp) ?_
          refine AllReadyIn.cons rfl (fun K hK => ?_) AllReadyIn.nil
          refine step_grows_in rfl (.tmp 12) (.tmp 16) 29 rfl 3 i0 (.int .i64 0) 1 8 Tryd.underlying29 hi hz0 hz1 hz2 rfl (by decide) ⟨w.heap.size + 1, 0, none⟩ 7 7 (cs.map (Value.int .i64)) (by rfl) (by simp [h7]) (cells_add HB2.out.2.2.2.1) ⟨w1.heap.size, 0, none⟩ 2 2 [.int .i64 bd, .int .i64 a] (by rfl) rfl (World.news_of_block HN2.out) (by omega) (by unfold maxLen; omega) (by omega) ?_
          intro v' w5 hown hg
          obtain ⟨g5, c5', rfl, ho5⟩ := nine_own h7 hown
          have HO5 := Lib.hid ho5
          have HB5 := Lib.hid (HB2.out.on ((Below.refl _ _).grown hg (Nat.le_refl _) (fun k e => by cases e)))
          clear hown hg ho5
          refine hK _ _ ?_
          clear hK K
          try simp only [zA, zB, zC, Act.put, zD, zE, zF]
          refine wpAnyIn_ready (rs := [6]) (by kernel_rfl) (by simp) ?_
          refine AllReadyIn.cons rfl (fun K hK => ?_) AllReadyIn.nil
          try simp only [zA, zB, zC]
          go_simp
          refine hK _ _ ?_
          clear hK K
          try simp only [zA, zB, zC, Act.put, zD, zE, zF]
          refine wpAnyIn_done (by kernel_rfl) ?_ _
          gi_wp2
          gi_meet
          case rel => exact ⟨_, _, rfl, HO5.out, HB5.out⟩
        refine AllReadyIn.cons rfl (fun K hK => ?_) ?_
        · try simp only [zA, zB, zC]
          go_simp
          refine hK _ _ ?_
          clear hK K
          try simp only [zA, zB, zC, Act.put, zD, zE, zF]
          refine wpAnyIn_ready (rs := [1]) (by kernel_rfl) (by simp) ?_
          refine AllReadyIn.cons rfl (fun K hK => ?_) AllReadyIn.nil
          try simp only [zA, zB, zC]
          go_simp
          refine hK _ _ ?_
          clear hK K
          try simp only [zA, zB, zC, Act.put, zD, zE, zF]
          refine wpAnyIn_ready (rs := [4]) (by kernel_rfl) (by simp) ?_
          refine AllReadyIn.cons rfl (fun K hK => ?_) AllReadyIn.nil
          try simp only [zA, zB, zC]
          go_simp
          obtain ⟨w2, ew2⟩ : ∃ W, W = w1.alloc (.cells #[.int .i64 bd, .int .i64 a] 3) := ⟨_, rfl⟩
          rw [← ew2]
          have HB2 := Lib.hid (HB1.out.on (show Below w1.heap.size w1 w2 by rw [ew2]; exact (Below.refl _ _).alloc (Nat.le_refl _) _))
          have HN2 := Lib.hid (show w2.heap[w1.heap.size]? = some (.cells #[.int .i64 bd, .int .i64 a] 3) by rw [ew2]; exact heap_alloc_new _ _)
          have HS2 := Lib.hid (show W0.heap.size ≤ w2.heap.size by rw [ew2, World.size_alloc]; have := HS1.out; omega)
          clear ew2
          refine hK _ _ ?_
          clear hK K
          try simp only [zA, zB, zC, Act.put, zD, zE, zF]
          refine wpAnyIn_ready (rs := [5]) (by kernel_rfl) (by simp) ?_
          refine AllReadyIn.cons rfl (fun K hK => ?_) AllReadyIn.nil
          refine step_grows_in rfl (.tmp 12) (.tmp 16) 29 rfl 3 i0 (.int .i64 0) 1 8 Tryd.underlying29 hi hz0 hz1 hz2 rfl (by decide) ⟨w.heap.size + 1, 0, none⟩ 7 7 (cs.map (Value.int .i64)) (by rfl) (by simp [h7]) (cells_add HB2.out.2.2.2.1) ⟨w1.heap.size, 0, none⟩ 2 2 [.int .i64 bd, .int .i64 a] (by rfl) rfl (World.news_of_block HN2.out) (by omega) (by unfold maxLen; omega) (by omega) ?_
          intro v' w5 hown hg
          obtain ⟨g5, c5', rfl, ho5⟩ := nine_own h7 hown
          have HO5 := Lib.hid ho5
          have HB5 := Lib.hid (HB2.out.on ((Below.refl _ _).grown hg (Nat.le_refl _) (fun k e => by cases e)))
          clear hown hg ho5
          refine hK _ _ ?_
          clear hK K
          try simp only [zA, zB, zC, Act.put, zD, zE, zF]
          refine wpAnyIn_ready (rs := [6]) (by kernel_rfl) (by simp) ?_
          refine AllReadyIn.cons rfl (fun K hK => ?_) AllReadyIn.nil
          try simp only [zA, zB, zC]
          go_simp
          refine hK _ _ ?_
          clear hK K
          try simp only [zA, zB, zC, Act.put, zD, zE, zF]
          refine wpAnyIn_done (by kernel_rfl) ?_ _
          gi_wp2
          gi_meet
          case rel => exact ⟨_, _, rfl, HO5.out, HB5.out⟩
        exact AllReadyIn.nil
      refine AllReadyIn.cons rfl (fun K hK => ?_) ?_
      · try simp only [zA, zB, zC]
        go_simp
        refine hK _ _ ?_
        clear hK K
        try simp only [zA, zB, zC, Act.put, zD, zE, zF]
        refine wpAnyIn_ready (rs := [0, 3]) (by kernel_rfl) (by simp) ?_
        refine AllReadyIn.cons rfl (fun K hK => ?_) ?_
        · try simp only [zA, zB, zC]
          go_simp
          refine hK _ _ ?_
          clear hK K
          try simp only [zA, zB, zC, Act.put, zD, zE, zF]
          refine wpAnyIn_ready (rs := [3]) (by kernel_rfl) (by simp) ?_
          refine AllReadyIn.cons rfl (fun K hK => ?_) AllReadyIn.nil
          try simp only [zA, zB, zC]
          go_simp
          refine hK _ _ ?_
          clear hK K
          try simp only [zA, zB, zC, Act.put, zD, zE, zF]
          refine wpAnyIn_ready (rs := [4]) (by kernel_rfl) (by simp) ?_
          refine AllReadyIn.cons rfl (fun K hK => ?_) AllReadyIn.nil
          try simp only [zA, zB, zC]
          go_simp
          obtain ⟨w2, ew2⟩ : ∃ W, W = w1.alloc (.cells #[.int .i64 bd, .int .i64 a] 3) := ⟨_, rfl⟩
          rw [← ew2]
          have HB2 := Lib.hid (HB1.out.on (show Below w1.heap.size w1 w2 by rw [ew2]; exact (Below.refl _ _).alloc (Nat.le_refl _) _))
          have HN2 := Lib.hid (show w2.heap[w1.heap.size]? = some (.cells #[.int .i64 bd, .int .i64 a] 3) by rw [ew2]; exact heap_alloc_new _ _)
          have HS2 := Lib.hid (show W0.heap.size ≤ w2.heap.size by rw [ew2, World.size_alloc]; have := HS1.out; omega)
          clear ew2
          refine hK _ _ ?_
          clear hK K
          try simp only [zA, zB, zC, Act.put, zD, zE, zF]
          refine wpAnyIn_ready (rs := [5]) (by kernel_rfl) (by simp) ?_
          refine AllReadyIn.cons rfl (fun K hK => ?_) AllReadyIn.nil
          refine step_grows_in rfl (.tmp 12) (.tmp 16) 29 rfl 3 i0 (.int .i64 0) 1 8 Tryd.underlying29 hi hz0 hz1 hz2 rfl (by decide) ⟨w.heap.size + 1, 0, none⟩ 7 7 (cs.map (Value.int .i64)) (by rfl) (by simp [h7]) (cells_add HB2.out.2.2.2.1) ⟨w1.heap.size, 0, none⟩ 2 2 [.int .i64 bd, .int .i64 a] (by rfl) rfl (World.news_of_block HN2.out) (by omega) (by unfold maxLen; omega) (by omega) ?_
          intro v' w5 hown hg
          obtain ⟨g5, c5', rfl, ho5⟩ := nine_own h7 hown
          have HO5 := Lib.hid ho5
          have HB5 := Lib.hid (HB2.out.on ((Below.refl _ _).grown hg (Nat.le_refl _) (fun k e => by cases e)))
          clear hown hg ho5
          refine hK _ _ ?_
          clear hK K
          try simp only [zA, zB, zC, Act.put, zD, zE, zF]
          refine wpAnyIn_ready (rs := [6]) (by kernel_rfl) (by simp) ?_
          refine AllReadyIn.cons rfl (fun K hK => ?_) AllReadyIn.nil
          try simp only [zA, zB, zC]
          go_simp
          refine hK _ _ ?_
          clear hK K
          try simp only [zA, zB, zC, Act.put, zD, zE, zF]
          refine wpAnyIn_done (by kernel_rfl) ?_ _
          gi_wp2
          gi_meet
          case rel => exact ⟨_, _, rfl, HO5.out, HB5.out⟩
        refine AllReadyIn.cons rfl (fun K hK => ?_) ?_
        · try simp only [zA, zB, zC]
          go_simp
          refine hK _ _ ?_
          clear hK K
          try simp only [zA, zB, zC, Act.put, zD, zE, zF]
          refine wpAnyIn_ready (rs := [0, 4]) (by kernel_rfl) (by simp) ?_
          refine AllReadyIn.cons rfl (fun K hK => ?_) ?_
          · try simp only [zA, zB, zC]
            go_simp
            refine hK _ _ ?_
            clear hK K
            try simp only [zA, zB, zC, Act.put, zD, zE, zF]
            refine wpAnyIn_ready (rs := [4]) (by kernel_rfl) (by simp) ?_
            refine AllReadyIn.cons rfl (fun K hK => ?_) AllReadyIn.nil
            try simp only [zA, zB, zC]
            go_simp
            obtain ⟨w2, ew2⟩ : ∃ W, W = w1.alloc (.cells #[.int .i64 bd, .int .i64 a] 3) := ⟨_, rfl⟩
            rw [← ew2]
            have HB2 := Lib.hid (HB1.out.on (show Below w1.heap.size w1 w2 by rw [ew2]; exact (Below.refl _ _).alloc (Nat.le_refl _) _))
            have HN2 := Lib.hid (show w2.heap[w1.heap.size]? = some (.cells #[.int .i64 bd, .int .i64 a] 3) by rw [ew2]; exact heap_alloc_new _ _)
            have HS2 := Lib.hid (show W0.heap.size ≤ w2.heap.size by rw [ew2, World.size_alloc]; have := HS1.out; omega)
            clear ew2
            refine hK _ _ ?_
            clear hK K
            try simp only [zA, zB, zC, Act.put, zD, zE, zF]
            refine wpAnyIn_ready (rs := [5]) (by kernel_rfl) (by simp) ?_
            refine AllReadyIn.cons rfl (fun K hK => ?_) AllReadyIn.nil
            refine step_grows_in rfl (.tmp 12) (.tmp 16) 29 rfl 3 i0 (.int .i64 0) 1 8 Tryd.underlying29 hi hz0 hz1 hz2 rfl (by decide) ⟨w.heap.size + 1, 0, none⟩ 7 7 (cs.map (Value.int .i64)) (by rfl) (by simp [h7]) (cells_add HB2.out.2.2.2.1) ⟨w1.heap.size, 0, none⟩ 2 2 [.int .i64 bd, .int .i64 a] (by rfl) rfl (World.news_of_block HN2.out) (by omega) (by unfold maxLen; omega) (by omega) ?_
            intro v' w5 hown hg
            obtain ⟨g5, c5', rfl, ho5⟩ := nine_own h7 hown
            have HO5 := Lib.hid ho5
            have HB5 := Lib.hid (HB2.out.on ((Below.refl _ _).grown hg (Nat.le_refl _) (fun k e => by cases e)))
            clear hown hg ho5
            refine hK _ _ ?_
            clear hK K
            try simp only [zA, zB, zC, Act.put, zD, zE, zF]
            refine wpAnyIn_ready (rs := [6]) (by kernel_rfl) (by simp) ?_
            refine AllReadyIn.cons rfl (fun K hK => ?_) AllReadyIn.nil
            try simp only [zA, zB, zC]
            go_simp
            refine hK _ _ ?_
            clear hK K
            try simp only [zA, zB, zC, Act.put, zD, zE, zF]
            refine wpAnyIn_done (by kernel_rfl) ?_ _
            gi_wp2
            gi_meet
            case rel => exact ⟨_, _, rfl, HO5.out, HB5.out⟩
          refine AllReadyIn.cons rfl (fun K hK => ?_) ?_
          · try simp only [zA, zB, zC]
            go_simp
            obtain ⟨w2, ew2⟩ : ∃ W, W = w1.alloc (.cells #[.int .i64 bd, .int .i64 a] 3) := ⟨_, rfl⟩
            rw [← ew2]
            have HB2 := Lib.hid (HB1.out.on (show Below w1.heap.size w1 w2 by rw [ew2]; exact (Below.refl _ _).alloc (Nat.le_refl _) _))
            have HN2 := Lib.hid (show w2.heap[w1.heap.size]? = some (.cells #[.int .i64 bd, .int .i64 a] 3) by rw [ew2]; exact heap_alloc_new _ _)
            have HS2 := Lib.hid (show W0.heap.size ≤ w2.heap.size by rw [ew2, World.size_alloc]; have := HS1.out; omega)
            clear ew2
            refine hK _ _ ?_
            clear hK K
            try simp only [zA, zB, zC, Act.put, zD, zE, zF]
            refine wpAnyIn_ready (rs := [0]) (by kernel_rfl) (by simp) ?_
            refine AllReadyIn.cons rfl (fun K hK => ?_) AllReadyIn.nil
            try simp only [zA, zB, zC]
            go_simp
            refine hK _ _ ?_
            clear hK K
            try simp only [zA, zB, zC, Act.put, zD, zE, zF]
            refine wpAnyIn_ready (rs := [5]) (by kernel_rfl) (by simp) ?_
            refine AllReadyIn.cons rfl (fun K hK => ?_) AllReadyIn.nil
            refine step_grows_in rfl (.tmp 12) (.tmp 16) 29 rfl 3 i0 (.int .i64 0) 1 8 Tryd.underlying29 hi hz0 hz1 hz2 rfl (by decide) ⟨w.heap.size + 1, 0, none⟩ 7 7 (cs.map (Value.int .i64)) (by rfl) (by simp [h7]) (cells_add HB2.out.2.2.2.1) ⟨w1.heap.size, 0, none⟩ 2 2 [.int .i64 bd, .int .i64 a] (by rfl) rfl (World.news_of_block HN2.out) (by omega) (by unfold maxLen; omega) (by omega) ?_
            intro v' w5 hown hg
            obtain ⟨g5, c5', rfl, ho5⟩ := nine_own h7 hown
            have HO5 := Lib.hid ho5
            have HB5 := Lib.hid (HB2.out.on ((Below.refl _ _).grown hg (Nat.le_refl _) (fun k e => by cases e)))
            clear hown hg ho5
            refine hK _ _ ?_
            clear hK K
            try simp only [zA, zB, zC, Act.put, zD, zE, zF]
            refine wpAnyIn_ready (rs := [6]) (by kernel_rfl) (by simp) ?_
            refine AllReadyIn.cons rfl (fun K hK => ?_) AllReadyIn.nil
            try simp only [zA, zB, zC]
            go_simp
            refine hK _ _ ?_
            clear hK K
            try simp only [zA, zB, zC, Act.put, zD, zE, zF]
            refine wpAnyIn_done (by kernel_rfl) ?_ _
            gi_wp2
            gi_meet
            case rel => exact ⟨_, _, rfl, HO5.out, HB5.out⟩
          exact AllReadyIn.nil
        exact AllReadyIn.nil
      refine AllReadyIn.cons rfl (fun K hK => ?_) ?_
      · try simp only [zA, zB, zC]
        go_simp
        refine hK _ _ ?_
        clear hK K
        try simp only [zA, zB, zC, Act.put, zD, zE, zF]
        refine wpAnyIn_ready (rs := [0, 1]) (by kernel_rfl) (by simp) ?_
        refine AllReadyIn.cons rfl (fun K hK => ?_) ?_
        · try simp only [zA, zB, zC]
          go_simp
          refine hK _ _ ?_
          clear hK K
          try simp only [zA, zB, zC, Act.put, zD, zE, zF]
          refine wpAnyIn_ready (rs := [1]) (by kernel_rfl) (by simp) ?_
          refine AllReadyIn.cons rfl (fun K hK => ?_) AllReadyIn.nil
          try simp only [zA, zB, zC]
          go_simp
          refine hK _ _ ?_
          clear hK K
          try simp only [zA, zB, zC, Act.put, zD, zE, zF]
          refine wpAnyIn_ready (rs := [4]) (by kernel_rfl) (by simp) ?_
          refine AllReadyIn.cons rfl (fun K hK => ?_) AllReadyIn.nil
          try simp only [zA, zB, zC]
          go_simp
          obtain ⟨w2, ew2⟩ : ∃ W, W = w1.alloc (.cells #[.int .i64 bd, .int .i64 a] 3) := ⟨_, rfl⟩
          rw [← ew2]
          have HB2 := Lib.hid (HB1.out.on (show Below w1.heap.size w1 w2 by rw [ew2]; exact (Below.refl _ _).alloc (Nat.le_refl _) _))
          have HN2 := Lib.hid (show w2.heap[w1.heap.size]? = some (.cells #[.int .i64 bd, .int .i64 a] 3) by rw [ew2]; exact heap_alloc_new _ _)
          have HS2 := Lib.hid (show W0.heap.size ≤ w2.heap.size by rw [ew2, World.size_alloc]; have := HS1.out; omega)
          clear ew2
          refine hK _ _ ?_
          clear hK K
          try simp only [zA, zB, zC, Act.put, zD, zE, zF]
          refine wpAnyIn_ready (rs := [5]) (by kernel_rfl) (by simp) ?_
          refine AllReadyIn.cons rfl (fun K hK => ?_) AllReadyIn.nil
          refine step_grows_in rfl (.tmp 12) (.tmp 16) 29 rfl 3 i0 (.int .i64 0) 1 8 Tryd.underlying29 hi hz0 hz1 hz2 rfl (by decide) ⟨w.heap.size + 1, 0, none⟩ 7 7 (cs.map (Value.int .i64)) (by rfl) (by simp [h7]) (cells_add HB2.out.2.2.2.1) ⟨w1.heap.size, 0, none⟩ 2 2 [.int .i64 bd, .int .i64 a] (by rfl) rfl (World.news_of_block HN2.out) (by omega) (by unfold maxLen; omega) (by omega) ?_
          intro v' w5 hown hg
          obtain ⟨g5, c5', rfl, ho5⟩ := nine_own h7 hown
          have HO5 := Lib.hid ho5
          have HB5 := Lib.hid (HB2.out.on ((Below.refl _ _).grown hg (Nat.le_refl _) (fun k e => by cases e)))
          clear hown hg ho5
          refine hK _ _ ?_
          clear hK K
          try simp only [zA, zB, zC, Act.put, zD, zE, zF]
          refine wpAnyIn_ready (rs := [6]) (by kernel_rfl) (by simp) ?_
          refine AllReadyIn.cons rfl (fun K hK => ?_) AllReadyIn.nil
          try simp only [zA, zB, zC]
          go_simp
          refine hK _ _ ?_
          clear hK K
          try simp only [zA, zB, zC, Act.put, zD, zE, zF]
          refine wpAnyIn_done (by kernel_rfl) ?_ _
          gi_wp2
          gi_meet
          case rel => exact ⟨_, _, rfl, HO5.out, HB5.out⟩
        refine AllReadyIn.cons rfl (fun K hK => ?_) ?_
        · try simp only [zA, zB, zC]
          go_simp
          refine hK _ _ ?_
          clear hK K
          try simp only [zA, zB, zC, Act.put, zD, zE, zF]
          refine wpAnyIn_ready (rs := [0, 4]) (by kernel_rfl) (by simp) ?_
          refine AllReadyIn.cons rfl (fun K hK => ?_) ?_
          · try simp only [zA, zB, zC]
            go_simp
            refine hK _ _ ?_
            clear hK K
            try simp only [zA, zB, zC, Act.put, zD, zE, zF]
            refine wpAnyIn_ready (rs := [4]) (by kernel_rfl) (by simp) ?_
            refine AllReadyIn.cons rfl (fun K hK => ?_) AllReadyIn.nil
            try simp only [zA, zB, zC]
            go_simp
            obtain ⟨w2, ew2⟩ : ∃ W, W = w1.alloc (.cells #[.int .i64 bd, .int .i64 a] 3) := ⟨_, rfl⟩
            rw [← ew2]
            have HB2 := Lib.hid (HB1.out.on (show Below w1.heap.size w1 w2 by rw [ew2]; exact (Below.refl _ _).alloc (Nat.le_refl _) _))
            have HN2 := Lib.hid (show w2.heap[w1.heap.size]? = some (.cells #[.int .i64 bd, .int .i64 a] 3) by rw [ew2]; exact heap_alloc_new _ _)
            have HS2 := Lib.hid (show W0.heap.size ≤ w2.heap.size by rw [ew2, World.size_alloc]; have := HS1.out; omega)
            clear ew2
            refine hK _ _ ?_
            clear hK K
            try simp only [zA, zB, zC, Act.put, zD, zE, zF]
            refine wpAnyIn_ready (rs := [5]) (by kernel_rfl) (by simp) ?_
            refine AllReadyIn.cons rfl (fun K hK => ?_) AllReadyIn.nil
            refine step_grows_in rfl (.tmp 12) (.tmp 16) 29 rfl 3 i0 (.int .i64 0) 1 8 Tryd.underlying29 hi hz0 hz1 hz2 rfl (by decide) ⟨w.heap.size + 1, 0, none⟩ 7 7 (cs.map (Value.int .i64)) (by rfl) (by simp [h7]) (cells_add HB2.out.2.2.2.1) ⟨w1.heap.size, 0, none⟩ 2 2 [.int .i64 bd, .int .i64 a] (by rfl) rfl (World.news_of_block HN2.out) (by omega) (by unfold maxLen; omega) (by omega) ?_
            intro v' w5 hown hg
            obtain ⟨g5, c5', rfl, ho5⟩ := nine_own h7 hown
            have HO5 := Lib.hid ho5
            have HB5 := Lib.hid (HB2.out.on ((Below.refl _ _).grown hg (Nat.le_refl _) (fun k e => by cases e)))
            clear hown hg ho5
            refine hK _ _ ?_
            clear hK K
            try simp only [zA, zB, zC, Act.put, zD, zE, zF]
            refine wpAnyIn_ready (rs := [6]) (by kernel_rfl) (by simp) ?_
            refine AllReadyIn.cons rfl (fun K hK => ?_) AllReadyIn.nil
            try simp only [zA, zB, zC]
            go_simp
            refine hK _ _ ?_
            clear hK K
            try simp only [zA, zB, zC, Act.put, zD, zE, zF]
            refine wpAnyIn_done (by kernel_rfl) ?_ _
            gi_wp2
            gi_meet
            case rel => exact ⟨_, _, rfl, HO5.out, HB5.out⟩
          refine AllReadyIn.cons rfl (fun K hK => ?_) ?_
          · try simp only [zA, zB, zC]
            go_simp
            obtain ⟨w2, ew2⟩ : ∃ W, W = w1.alloc (.cells #[.int .i64 bd, .int .i64 a] 3) := ⟨_, rfl⟩
            rw [← ew2]
            have HB2 := Lib.hid (HB1.out.on (show Below w1.heap.size w1 w2 by rw [ew2]; exact (Below.refl _ _).alloc (Nat.le_refl _) _))
            have HN2 := Lib.hid (show w2.heap[w1.heap.size]? = some (.cells #[.int .i64 bd, .int .i64 a] 3) by rw [ew2]; exact heap_alloc_new _ _)
            have HS2 := Lib.hid (show W0.heap.size ≤ w2.heap.size by rw [ew2, World.size_alloc]; have := HS1.out; omega)
            clear ew2
            refine hK _ _ ?_
            clear hK K
            try simp only [zA, zB, zC, Act.put, zD, zE, zF]
            refine wpAnyIn_ready (rs := [0]) (by kernel_rfl) (by simp) ?_
            refine AllReadyIn.cons rfl (fun K hK => ?_) AllReadyIn.nil
            try simp only [zA, zB, zC]
            go_simp
            refine hK _ _ ?_
            clear hK K
            try simp only [zA, zB, zC, Act.put, zD, zE, zF]
            refine wpAnyIn_ready (rs := [5]) (by kernel_rfl) (by simp) ?_
            refine AllReadyIn.cons rfl (fun K hK => ?_) AllReadyIn.nil
            refine step_grows_in rfl (.tmp 12) (.tmp 16) 29 rfl 3 i0 (.int .i64 0) 1 8 Tryd.underlying29 hi hz0 hz1 hz2 rfl (by decide) ⟨w.heap.size + 1, 0, none⟩ 7 7 (cs.map (Value.int .i64)) (by rfl) (by simp [h7]) (cells_add HB2.out.2.2.2.1) ⟨w1.heap.size, 0, none⟩ 2 2 [.int .i64 bd, .int .i64 a] (by rfl) rfl (World.news_of_block HN2.out) (by omega) (by unfold maxLen; omega) (by omega) ?_
            intro v' w5 hown hg
            obtain ⟨g5, c5', rfl, ho5⟩ := nine_own h7 hown
            have HO5 := Lib.hid ho5
            have HB5 := Lib.hid (HB2.out.on ((Below.refl _ _).grown hg (Nat.le_refl _) (fun k e => by cases e)))
            clear hown hg ho5
            refine hK _ _ ?_
            clear hK K
            try simp only [zA, zB, zC, Act.put, zD, zE, zF]
            refine wpAnyIn_ready (rs := [6]) (by kernel_rfl) (by simp) ?_
            refine AllReadyIn.cons rfl (fun K hK => ?_) AllReadyIn.nil
            try simp only [zA, zB, zC]
            go_simp
            refine hK _ _ ?_
            clear hK K
            try simp only [zA, zB, zC, Act.put, zD, zE, zF]
            refine wpAnyIn_done (by kernel_rfl) ?_ _
            gi_wp2
            gi_meet
            case rel => exact ⟨_, _, rfl, HO5.out, HB5.out⟩
          exact AllReadyIn.nil
        exact AllReadyIn.nil
      exact AllReadyIn.nil
    exact AllReadyIn.nil
  case rest =>
    obtain ⟨g, gc, rfl, hn, hb⟩ := hcut
    have HN := Lib.hid hn
    have HB := Lib.hid hb
    clear hn hb HB0
    obtain ⟨zm, ezm⟩ : ∃ zm, zm = decide (0 ≤ Lib.minOf (cs ++ [bd, a])) := ⟨_, rfl⟩
    obtain ⟨zx, ezx⟩ : ∃ zx, zx = decide (Lib.maxOf (cs ++ [bd, a]) < (xs.length : Int)) := ⟨_, rfl⟩
    have HZL := Lib.hid (show levB xs.length (cs ++ [bd, a]) = (zm && zx) by rw [lev_min_max (by simp), ezm, ezx])
    have HMN := Lib.hid (fun W (h : Nine W g (cs ++ [bd, a])) => Tryd.slices_Min_int g 0 9 gc (cs ++ [bd, a]) W (by omega) (by simp [h7]) (by omega) h.2)
    have HMX := Lib.hid (fun W (h : Nine W g (cs ++ [bd, a])) => Tryd.slices_Max_int g 0 9 gc (cs ++ [bd, a]) W (by omega) (by simp [h7]) (by omega) h.2)
    have hl9 : (cs ++ [bd, a]).take 9 = cs ++ [bd, a] := List.take_of_length_le (by simp [h7])
    rw [hl9] at HMN HMX
    clear hl9
    generalize Lib.minOf (cs ++ [bd, a]) = mn at ezm HMN
    generalize Lib.maxOf (cs ++ [bd, a]) = mx at ezx HMX
    gi_upto_region 2 with fail
    gi_cut [37] from 18 (fun s37 w9 => s37 = .bool (!(zf && (zr && (zm && zx)))) ∧ CapBx w (.slice ua xs.length uc) cs a m bd w9)
    case first =>
      have HB1 := Lib.hid HB.out.drew
      have HN1 := Lib.hid (show Nine wc.drew g (cs ++ [bd, a]) from HN.out)
      refine wpIn_region_any (by kernel_rfl) ?_
      change wpAnyIn _ _ _ _ _ _ _ _ _ (World.drew _)
      generalize wc.drew = w1 at HB1 HN1 ⊢
      obtain ⟨hc0, hc1, hc2, hc3⟩ := HB1.out.cells
      clear HB HN hT hm HT HE HC
      try simp only [zA, zB, zC, Act.put, zD, zE, zF]
      cases zf with
      | false =>
        refine wpAnyIn_ready (rs := [0]) (by kernel_rfl) (by simp) ?_
        refine AllReadyIn.cons rfl (fun K hK => ?_) AllReadyIn.nil
        try simp only [zA, zB, zC]
        go_simp
        refine hK _ _ ?_
        clear hK K
        try simp only [zA, zB, zC, Act.put, zD, zE, zF]
        refine wpAnyIn_ready (rs := [1]) (by kernel_rfl) (by simp) ?_
        refine AllReadyIn.cons rfl (fun K hK => ?_) AllReadyIn.nil
        try simp only [zA, zB, zC]
        go_simp
        refine ⟨trivial, ?_⟩
        gi_at_call 45
        refine (callsIn_wide.2 (HFIT.out _)).mono ?_
        rintro e w2 ⟨rfl, hb⟩
        rw [← HZF.out]
        have HB2 := Lib.hid (HB1.out.on hb)
        have HN2 := Lib.hid (HN1.out.on hb)
        clear hb hc0 hc1 hc2 hc3
        obtain ⟨hc0, hc1, hc2, hc3⟩ := HB2.out.cells
        try dsimp only
        refine hK _ _ ?_
        clear hK K
        try simp only [zA, zB, zC, Act.put, zD, zE, zF]
        refine wpAnyIn_ready (rs := [2]) (by kernel_rfl) (by simp) ?_
        refine AllReadyIn.cons rfl (fun K hK => ?_) AllReadyIn.nil
        try simp only [zA, zB, zC]
        go_simp
        refine hK _ _ ?_
        clear hK K
        try simp only [zA, zB, zC, Act.put, zD, zE, zF]
        refine wpAnyIn_ready (rs := [3]) (by kernel_rfl) (by simp) ?_
        refine AllReadyIn.cons rfl (fun K hK => ?_) AllReadyIn.nil
        try simp only [zA, zB, zC]
        go_simp
        refine hK _ _ ?_
        clear hK K
        try simp only [zA, zB, zC, Act.put, zD, zE, zF]
        refine wpAnyIn_ready (rs := [4]) (by kernel_rfl) (by simp) ?_
        refine AllReadyIn.cons rfl (fun K hK => ?_) AllReadyIn.nil
        try simp only [zA, zB, zC]
        go_simp
        refine hK _ _ ?_
        clear hK K
        try simp only [zA, zB, zC, Act.put, zD, zE, zF]
        refine wpAnyIn_ready (rs := [5]) (by kernel_rfl) (by simp) ?_
        refine AllReadyIn.cons rfl (fun K hK => ?_) AllReadyIn.nil
        try simp only [zA, zB, zC]
        go_simp
        refine ⟨trivial, ?_⟩
        refine hK _ _ ?_
        clear hK K
        try simp only [zA, zB, zC, Act.put, zD, zE, zF]
        refine wpAnyIn_ready (rs := [6]) (by kernel_rfl) (by simp) ?_
        refine AllReadyIn.cons rfl (fun K hK => ?_) AllReadyIn.nil
        try simp only [zA, zB, zC]
        go_simp
        refine hK _ _ ?_
        clear hK K
        try simp only [zA, zB, zC, Act.put, zD, zE, zF]
        refine wpAnyIn_ready (rs := [7]) (by kernel_rfl) (by simp) ?_
        refine AllReadyIn.cons rfl (fun K hK => ?_) AllReadyIn.nil
        try simp only [zA, zB, zC]
        go_simp
        refine hK _ _ ?_
        clear hK K
        try simp only [zA, zB, zC, Act.put, zD, zE, zF]
        refine wpAnyIn_ready (rs := [8]) (by kernel_rfl) (by simp) ?_
        refine AllReadyIn.cons rfl (fun K hK => ?_) AllReadyIn.nil
        try simp only [zA, zB, zC]
        go_simp
        refine hK _ _ ?_
        clear hK K
        try simp only [zA, zB, zC, Act.put, zD, zE, zF]
        refine wpAnyIn_ready (rs := [9]) (by kernel_rfl) (by simp) ?_
        refine AllReadyIn.cons rfl (fun K hK => ?_) AllReadyIn.nil
        try simp only [zA, zB, zC]
        go_simp
        refine hK _ _ ?_
        clear hK K
        try simp only [zA, zB, zC, Act.put, zD, zE, zF]
        refine wpAnyIn_ready (rs := [10]) (by kernel_rfl) (by simp) ?_
        refine AllReadyIn.cons rfl (fun K hK => ?_) AllReadyIn.nil
        try simp only [zA, zB, zC]
        go_simp
        refine ⟨trivial, ?_⟩
        refine hK _ _ ?_
        clear hK K
        try simp only [zA, zB, zC, Act.put, zD, zE, zF]
        refine wpAnyIn_ready (rs := [11]) (by kernel_rfl) (by simp) ?_
        refine AllReadyIn.cons rfl (fun K hK => ?_) AllReadyIn.nil
        try simp only [zA, zB, zC]
        go_simp
        refine hK _ _ ?_
        clear hK K
        try simp only [zA, zB, zC, Act.put, zD, zE, zF]
        refine wpAnyIn_ready (rs := [12]) (by kernel_rfl) (by simp) ?_
        refine AllReadyIn.cons rfl (fun K hK => ?_) AllReadyIn.nil
        try simp only [zA, zB, zC]
        go_simp
        refine hK _ _ ?_
        clear hK K
        try simp only [zA, zB, zC, Act.put, zD, zE, zF]
        refine wpAnyIn_ready (rs := [13]) (by kernel_rfl) (by simp) ?_
        refine AllReadyIn.cons rfl (fun K hK => ?_) AllReadyIn.nil
        try simp only [zA, zB, zC]
        go_simp
        refine hK _ _ ?_
        clear hK K
        try simp only [zA, zB, zC, Act.put, zD, zE, zF]
        refine wpAnyIn_ready (rs := [14, 16]) (by kernel_rfl) (by simp) ?_
        refine AllReadyIn.cons rfl (fun K hK => ?_) ?_
        · try simp only [zA, zB, zC]
          go_simp
          refine hK _ _ ?_
          clear hK K
          try simp only [zA, zB, zC, Act.put, zD, zE, zF]
          refine wpAnyIn_ready (rs := [15, 16]) (by kernel_rfl) (by simp) ?_
          refine AllReadyIn.cons rfl (fun K hK => ?_) ?_
          · try simp only [zA, zB, zC]
            go_simp
            refine ⟨trivial, ?_⟩
            refine hK _ _ ?_
            clear hK K
            try simp only [zA, zB, zC, Act.put, zD, zE, zF]
            refine wpAnyIn_ready (rs := [16]) (by kernel_rfl) (by simp) ?_
            refine AllReadyIn.cons rfl (fun K hK => ?_) AllReadyIn.nil
            try simp only [zA, zB, zC]
            go_simp
            refine hK _ _ ?_
            clear hK K
            try simp only [zA, zB, zC, Act.put, zD, zE, zF]
            refine wpAnyIn_ready (rs := [17]) (by kernel_rfl) (by simp) ?_
            refine AllReadyIn.cons rfl (fun K hK => ?_) AllReadyIn.nil
            try simp only [zA, zB, zC]
            go_simp
            refine hK _ _ ?_
            clear hK K
            try simp only [zA, zB, zC, Act.put, zD, zE, zF]
            refine wpAnyIn_ready (rs := [18]) (by kernel_rfl) (by simp) ?_
            refine AllReadyIn.cons rfl (fun K hK => ?_) AllReadyIn.nil
            try simp only [zA, zB, zC]
            go_simp
            refine hK _ _ ?_
            clear hK K
            try simp only [zA, zB, zC, Act.put, zD, zE, zF]
            refine wpAnyIn_ready (rs := [19]) (by kernel_rfl) (by simp) ?_
            refine AllReadyIn.cons rfl (fun K hK => ?_) AllReadyIn.nil
            try simp only [zA, zB, zC]
            go_simp
            refine hK _ _ ?_
            clear hK K
            try simp only [zA, zB, zC, Act.put, zD, zE, zF]
            refine wpAnyIn_done (by kernel_rfl) ?_ _
            gi_wp2
            gi_meet
            case rel => exact ⟨rfl, HB2.out⟩
          refine AllReadyIn.cons rfl (fun K hK => ?_) ?_
          · try simp only [zA, zB, zC]
            go_simp
            refine hK _ _ ?_
            clear hK K
            try simp only [zA, zB, zC, Act.put, zD, zE, zF]
            refine wpAnyIn_ready (rs := [15, 17]) (by kernel_rfl) (by simp) ?_
            refine AllReadyIn.cons rfl (fun K hK => ?_) ?_
            · try simp only [zA, zB, zC]
              go_simp
              refine ⟨trivial, ?_⟩
              refine hK _ _ ?_
              clear hK K
              try simp only [zA, zB, zC, Act.put, zD, zE, zF]
              refine wpAnyIn_ready (rs := [17]) (by kernel_rfl) (by simp) ?_
              refine AllReadyIn.cons rfl (fun K hK => ?_) AllReadyIn.nil
              try simp only [zA, zB, zC]
              go_simp
              refine hK _ _ ?_
              clear hK K
              try simp only [zA, zB, zC, Act.put, zD, zE, zF]
              refine wpAnyIn_ready (rs := [18]) (by kernel_rfl) (by simp) ?_
              refine AllReadyIn.cons rfl (fun K hK => ?_) AllReadyIn.nil
              try simp only [zA, zB, zC]
              go_simp
              refine hK _ _ ?_
              clear hK K
              try simp only [zA, zB, zC, Act.put, zD, zE, zF]
              refine wpAnyIn_ready (rs := [19]) (by kernel_rfl) (by simp) ?_
              refine AllReadyIn.cons rfl (fun K hK => ?_) AllReadyIn.nil
              try simp only [zA, zB, zC]
              go_simp
              refine hK _ _ ?_
              clear hK K
              try simp only [zA, zB, zC, Act.put, zD, zE, zF]
              refine wpAnyIn_done (by kernel_rfl) ?_ _
              gi_wp2
              gi_meet
              case rel => exact ⟨rfl, HB2.out⟩
            refine AllReadyIn.cons rfl (fun K hK => ?_) ?_
            · try simp only [zA, zB, zC]
              go_simp
              refine hK _ _ ?_
              clear hK K
              try simp only [zA, zB, zC, Act.put, zD, zE, zF]
              refine wpAnyIn_ready (rs := [15]) (by kernel_rfl) (by simp) ?_
              refine AllReadyIn.cons rfl (fun K hK => ?_) AllReadyIn.nil
              try simp only [zA, zB, zC]
              go_simp
              refine ⟨trivial, ?_⟩
              refine hK _ _ ?_
              clear hK K
              try simp only [zA, zB, zC, Act.put, zD, zE, zF]
              refine wpAnyIn_ready (rs := [18]) (by kernel_rfl) (by simp) ?_
              refine AllReadyIn.cons rfl (fun K hK => ?_) AllReadyIn.nil
              try simp only [zA, zB, zC]
              go_simp
              refine hK _ _ ?_
              clear hK K
              try simp only [zA, zB, zC, Act.put, zD, zE, zF]
              refine wpAnyIn_ready (rs := [19]) (by kernel_rfl) (by simp) ?_
              refine AllReadyIn.cons rfl (fun K hK => ?_) AllReadyIn.nil
              try simp only [zA, zB, zC]
              go_simp
              refine hK _ _ ?_
              clear hK K
              try simp only [zA, zB, zC, Act.put, zD, zE, zF]
              refine wpAnyIn_done (by kernel_rfl) ?_ _
              gi_wp2
              gi_meet
              case rel => exact ⟨rfl, HB2.out⟩
            exact AllReadyIn.nil
          exact AllReadyIn.nil
        refine AllReadyIn.cons rfl (fun K hK => ?_) ?_
        · try simp only [zA, zB, zC]
          go_simp
          refine hK _ _ ?_
          clear hK K
          try simp only [zA, zB, zC, Act.put, zD, zE, zF]
          refine wpAnyIn_ready (rs := [14, 17]) (by kernel_rfl) (by simp) ?_
          refine AllReadyIn.cons rfl (fun K hK => ?_) ?_
          · try simp only [zA, zB, zC]
            go_simp
            refine hK _ _ ?_
            clear hK K
            try simp only [zA, zB, zC, Act.put, zD, zE, zF]
            refine wpAnyIn_ready (rs := [15, 17]) (by kernel_rfl) (by simp) ?_
            refine AllReadyIn.cons rfl (fun K hK => ?_) ?_
            · try simp only [zA, zB, zC]
              go_simp
              refine ⟨trivial, ?_⟩
              refine hK _ _ ?_
              clear hK K
              try simp only [zA, zB, zC, Act.put, zD, zE, zF]
              refine wpAnyIn_ready (rs := [17]) (by kernel_rfl) (by simp) ?_
              refine AllReadyIn.cons rfl (fun K hK => ?_) AllReadyIn.nil
              try simp only [zA, zB, zC]
              go_simp
              refine hK _ _ ?_
              clear hK K
              try simp only [zA, zB, zC, Act.put, zD, zE, zF]
              refine wpAnyIn_ready (rs := [18]) (by kernel_rfl) (by simp) ?_
              refine AllReadyIn.cons rfl (fun K hK => ?_) AllReadyIn.nil
              try simp only [zA, zB, zC]
              go_simp
              refine hK _ _ ?_
              clear hK K
              try simp only [zA, zB, zC, Act.put, zD, zE, zF]
              refine wpAnyIn_ready (rs := [19]) (by kernel_rfl) (by simp) ?_
              refine AllReadyIn.cons rfl (fun K hK => ?_) AllReadyIn.nil
              try simp only [zA, zB, zC]
              go_simp
              refine hK _ _ ?_
              clear hK K
              try simp only [zA, zB, zC, Act.put, zD, zE, zF]
              refine wpAnyIn_done (by kernel_rfl) ?_ _
              gi_wp2
              gi_meet
              case rel => exact ⟨rfl, HB2.out⟩
            refine AllReadyIn.cons rfl (fun K hK => ?_) ?_
            · try simp only [zA, zB, zC]
              go_simp
              refine hK _ _ ?_
              clear hK K
              try simp only [zA, zB, zC, Act.put, zD, zE, zF]
              refine wpAnyIn_ready (rs := [15]) (by kernel_rfl) (by simp) ?_
              refine AllReadyIn.cons rfl (fun K hK => ?_) AllReadyIn.nil
              try simp only [zA, zB, zC]
              go_simp
              refine ⟨trivial, ?_⟩
              refine hK _ _ ?_
              clear hK K
              try simp only [zA, zB, zC, Act.put, zD, zE, zF]
              refine wpAnyIn_ready (rs := [18]) (by kernel_rfl) (by simp) ?_
              refine AllReadyIn.cons rfl (fun K hK => ?_) AllReadyIn.nil
              try simp only [zA, zB, zC]
              go_simp
              refine hK _ _ ?_
              clear hK K
              try simp only [zA, zB, zC, Act.put, zD, zE, zF]
              refine wpAnyIn_ready (rs := [19]) (by kernel_rfl) (by simp) ?_
              refine AllReadyIn.cons rfl (fun K hK => ?_) AllReadyIn.nil
              try simp only [zA, zB, zC]
              go_simp
              refine hK _ _ ?_
              clear hK K
              try simp only [zA, zB, zC, Act.put, zD, zE, zF]
              refine wpAnyIn_done (by kernel_rfl) ?_ _
              gi_wp2
              gi_meet
              case rel => exact ⟨rfl, HB2.out⟩
            exact AllReadyIn.nil
          refine AllReadyIn.cons rfl (fun K hK => ?_) ?_
          · try simp only [zA, zB, zC]
            go_simp
            refine hK _ _ ?_
            clear hK K
            try simp only [zA, zB, zC, Act.put, zD, zE, zF]
            refine wpAnyIn_ready (rs := [14]) (by kernel_rfl) (by simp) ?_
            refine AllReadyIn.cons rfl (fun K hK => ?_) AllReadyIn.nil
            try simp only [zA, zB, zC]
            go_simp
            refine hK _ _ ?_
            clear hK K
            try simp only [zA, zB, zC, Act.put, zD, zE, zF]
            refine wpAnyIn_ready (rs := [15]) (by kernel_rfl) (by simp) ?_
            refine AllReadyIn.cons rfl (fun K hK => ?_) AllReadyIn.nil
            try simp only [zA, zB, zC]
            go_simp
            refine ⟨trivial, ?_⟩
            refine hK _ _ ?_
            clear hK K
            try simp only [zA, zB, zC, Act.put, zD, zE, zF]
            refine wpAnyIn_ready (rs := [18]) (by kernel_rfl) (by simp) ?_
            refine AllReadyIn.cons rfl (fun K hK => ?_) AllReadyIn.nil
            try simp only [zA, zB, zC]
            go_simp
            refine hK _ _ ?_
            clear hK K
            try simp only [zA, zB, zC, Act.put, zD, zE, zF]
            refine wpAnyIn_ready (rs := [19]) (by kernel_rfl) (by simp) ?_
            refine AllReadyIn.cons rfl (fun K hK => ?_) AllReadyIn.nil
            try simp only [zA, zB, zC]
            go_simp
            refine hK _ _ ?_
            clear hK K
            try simp only [zA, zB, zC, Act.put, zD, zE, zF]
            refine wpAnyIn_done (by kernel_rfl) ?_ _
            gi_wp2
            gi_meet
            case rel => exact ⟨rfl, HB2.out⟩
          exact AllReadyIn.nil
        exact AllReadyIn.nil
      | true =>
        cases zr with
        | false =>
          refine wpAnyIn_ready (rs := [0]) (by kernel_rfl) (by simp) ?_
          refine AllReadyIn.cons rfl (fun K hK => ?_) AllReadyIn.nil
          try simp only [zA, zB, zC]
          go_simp
          refine hK _ _ ?_
          clear hK K
          try simp only [zA, zB, zC, Act.put, zD, zE, zF]
          refine wpAnyIn_ready (rs := [1]) (by kernel_rfl) (by simp) ?_
          refine AllReadyIn.cons rfl (fun K hK => ?_) AllReadyIn.nil
          try simp only [zA, zB, zC]
          go_simp
          refine ⟨trivial, ?_⟩
          gi_at_call 45
          refine (callsIn_wide.2 (HFIT.out _)).mono ?_
          rintro e w2 ⟨rfl, hb⟩
          rw [← HZF.out]
          have HB2 := Lib.hid (HB1.out.on hb)
          have HN2 := Lib.hid (HN1.out.on hb)
          clear hb hc0 hc1 hc2 hc3
          obtain ⟨hc0, hc1, hc2, hc3⟩ := HB2.out.cells
          try dsimp only
          refine hK _ _ ?_
          clear hK K
          try simp only [zA, zB, zC, Act.put, zD, zE, zF]
          refine wpAnyIn_ready (rs := [2]) (by kernel_rfl) (by simp) ?_
          refine AllReadyIn.cons rfl (fun K hK => ?_) AllReadyIn.nil
          try simp only [zA, zB, zC]
          go_simp
          refine hK _ _ ?_
          clear hK K
          try simp only [zA, zB, zC, Act.put, zD, zE, zF]
          refine wpAnyIn_ready (rs := [3]) (by kernel_rfl) (by simp) ?_
          refine AllReadyIn.cons rfl (fun K hK => ?_) AllReadyIn.nil
          try simp only [zA, zB, zC]
          go_simp
          refine hK _ _ ?_
          clear hK K
          try simp only [zA, zB, zC, Act.put, zD, zE, zF]
          refine wpAnyIn_ready (rs := [4]) (by kernel_rfl) (by simp) ?_
          refine AllReadyIn.cons rfl (fun K hK => ?_) AllReadyIn.nil
          try simp only [zA, zB, zC]
          go_simp
          refine hK _ _ ?_
          clear hK K
          try simp only [zA, zB, zC, Act.put, zD, zE, zF]
          refine wpAnyIn_ready (rs := [5]) (by kernel_rfl) (by simp) ?_
          refine AllReadyIn.cons rfl (fun K hK => ?_) AllReadyIn.nil
          try simp only [zA, zB, zC]
          go_simp
          refine ⟨trivial, ?_⟩
          gi_at_call 50
          refine (callsIn_wide.2 (HRT.out w2 HB2.out.1)).mono ?_
          rintro e w3 ⟨rfl, hb⟩
          rw [← HZR.out]
          have HB3 := Lib.hid (HB2.out.on hb)
          have HN3 := Lib.hid (HN2.out.on hb)
          clear hb hc0 hc1 hc2 hc3
          obtain ⟨hc0, hc1, hc2, hc3⟩ := HB3.out.cells
          try dsimp only
          refine hK _ _ ?_
          clear hK K
          try simp only [zA, zB, zC, Act.put, zD, zE, zF]
          refine wpAnyIn_ready (rs := [6]) (by kernel_rfl) (by simp) ?_
          refine AllReadyIn.cons rfl (fun K hK => ?_) AllReadyIn.nil
          try simp only [zA, zB, zC]
          go_simp
          refine hK _ _ ?_
          clear hK K
          try simp only [zA, zB, zC, Act.put, zD, zE, zF]
          refine wpAnyIn_ready (rs := [7]) (by kernel_rfl) (by simp) ?_
          refine AllReadyIn.cons rfl (fun K hK => ?_) AllReadyIn.nil
          try simp only [zA, zB, zC]
          go_simp
          refine hK _ _ ?_
          clear hK K
          try simp only [zA, zB, zC, Act.put, zD, zE, zF]
          refine wpAnyIn_ready (rs := [8]) (by kernel_rfl) (by simp) ?_
          refine AllReadyIn.cons rfl (fun K hK => ?_) AllReadyIn.nil
          try simp only [zA, zB, zC]
          go_simp
          refine hK _ _ ?_
          clear hK K
          try simp only [zA, zB, zC, Act.put, zD, zE, zF]
          refine wpAnyIn_ready (rs := [9]) (by kernel_rfl) (by simp) ?_
          refine AllReadyIn.cons rfl (fun K hK => ?_) AllReadyIn.nil
          try simp only [zA, zB, zC]
          go_simp
          refine hK _ _ ?_
          clear hK K
          try simp only [zA, zB, zC, Act.put, zD, zE, zF]
          refine wpAnyIn_ready (rs := [10]) (by kernel_rfl) (by simp) ?_
          refine AllReadyIn.cons rfl (fun K hK => ?_) AllReadyIn.nil
          try simp only [zA, zB, zC]
          go_simp
          refine ⟨trivial, ?_⟩
          refine hK _ _ ?_
          clear hK K
          try simp only [zA, zB, zC, Act.put, zD, zE, zF]
          refine wpAnyIn_ready (rs := [11]) (by kernel_rfl) (by simp) ?_
          refine AllReadyIn.cons rfl (fun K hK => ?_) AllReadyIn.nil
          try simp only [zA, zB, zC]
          go_simp
          refine hK _ _ ?_
          clear hK K
          try simp only [zA, zB, zC, Act.put, zD, zE, zF]
          refine wpAnyIn_ready (rs := [12]) (by kernel_rfl) (by simp) ?_
          refine AllReadyIn.cons rfl (fun K hK => ?_) AllReadyIn.nil
          try simp only [zA, zB, zC]
          go_simp
          refine hK _ _ ?_
          clear hK K
          try simp only [zA, zB, zC, Act.put, zD, zE, zF]
          refine wpAnyIn_ready (rs := [13]) (by kernel_rfl) (by simp) ?_
          refine AllReadyIn.cons rfl (fun K hK => ?_) AllReadyIn.nil
          try simp only [zA, zB, zC]
          go_simp
          refine hK _ _ ?_
          clear hK K
          try simp only [zA, zB, zC, Act.put, zD, zE, zF]
          refine wpAnyIn_ready (rs := [14, 16]) (by kernel_rfl) (by simp) ?_
          refine AllReadyIn.cons rfl (fun K hK => ?_) ?_
          · try simp only [zA, zB, zC]
            go_simp
            refine hK _ _ ?_
            clear hK K
            try simp only [zA, zB, zC, Act.put, zD, zE, zF]
            refine wpAnyIn_ready (rs := [15, 16]) (by kernel_rfl) (by simp) ?_
            refine AllReadyIn.cons rfl (fun K hK => ?_) ?_
            · try simp only [zA, zB, zC]
              go_simp
              refine ⟨trivial, ?_⟩
              refine hK _ _ ?_
              clear hK K
              try simp only [zA, zB, zC, Act.put, zD, zE, zF]
              refine wpAnyIn_ready (rs := [16]) (by kernel_rfl) (by simp) ?_
              refine AllReadyIn.cons rfl (fun K hK => ?_) AllReadyIn.nil
              try simp only [zA, zB, zC]
              go_simp
              refine hK _ _ ?_
              clear hK K
              try simp only [zA, zB, zC, Act.put, zD, zE, zF]
              refine wpAnyIn_ready (rs := [17]) (by kernel_rfl) (by simp) ?_
              refine AllReadyIn.cons rfl (fun K hK => ?_) AllReadyIn.nil
              try simp only [zA, zB, zC]
              go_simp
              refine hK _ _ ?_
              clear hK K
              try simp only [zA, zB, zC, Act.put, zD, zE, zF]
              refine wpAnyIn_ready (rs := [18]) (by kernel_rfl) (by simp) ?_
              refine AllReadyIn.cons rfl (fun K hK => ?_) AllReadyIn.nil
              try simp only [zA, zB, zC]
              go_simp
              refine hK _ _ ?_
              clear hK K
              try simp only [zA, zB, zC, Act.put, zD, zE, zF]
              refine wpAnyIn_ready (rs := [19]) (by kernel_rfl) (by simp) ?_
              refine AllReadyIn.cons rfl (fun K hK => ?_) AllReadyIn.nil
              try simp only [zA, zB, zC]
              go_simp
              refine hK _ _ ?_
              clear hK K
              try simp only [zA, zB, zC, Act.put, zD, zE, zF]
              refine wpAnyIn_done (by kernel_rfl) ?_ _
              gi_wp2
              gi_meet
              case rel => exact ⟨rfl, HB3.out⟩
            refine AllReadyIn.cons rfl (fun K hK => ?_) ?_
            · try simp only [zA, zB, zC]
              go_simp
              refine hK _ _ ?_
              clear hK K
              try simp only [zA, zB, zC, Act.put, zD, zE, zF]
              refine wpAnyIn_ready (rs := [15, 17]) (by kernel_rfl) (by simp) ?_
              refine AllReadyIn.cons rfl (fun K hK => ?_) ?_
              · try simp only [zA, zB, zC]
                go_simp
                refine ⟨trivial, ?_⟩
                refine hK _ _ ?_
                clear hK K
                try simp only [zA, zB, zC, Act.put, zD, zE, zF]
                refine wpAnyIn_ready (rs := [17]) (by kernel_rfl) (by simp) ?_
                refine AllReadyIn.cons rfl (fun K hK => ?_) AllReadyIn.nil
                try simp only [zA, zB, zC]
                go_simp
                refine hK _ _ ?_
                clear hK K
                try simp only [zA, zB, zC, Act.put, zD, zE, zF]
                refine wpAnyIn_ready (rs := [18]) (by kernel_rfl) (by simp) ?_
                refine AllReadyIn.cons rfl (fun K hK => ?_) AllReadyIn.nil
                try simp only [zA, zB, zC]
                go_simp
                refine hK _ _ ?_
                clear hK K
                try simp only [zA, zB, zC, Act.put, zD, zE, zF]
                refine wpAnyIn_ready (rs := [19]) (by kernel_rfl) (by simp) ?_
                refine AllReadyIn.cons rfl (fun K hK => ?_) AllReadyIn.nil
                try simp only [zA, zB, zC]
                go_simp
                refine hK _ _ ?_
                clear hK K
                try simp only [zA, zB, zC, Act.put, zD, zE, zF]
                refine wpAnyIn_done (by kernel_rfl) ?_ _
                gi_wp2
                gi_meet
                case rel => exact ⟨rfl, HB3.out⟩
              refine AllReadyIn.cons rfl (fun K hK => ?_) ?_
              · try simp only [zA, zB, zC]
                go_simp
                refine hK _ _ ?_
                clear hK K
                try simp only [zA, zB, zC, Act.put, zD, zE, zF]
                refine wpAnyIn_ready (rs := [15]) (by kernel_rfl) (by simp) ?_
                refine AllReadyIn.cons rfl (fun K hK => ?_) AllReadyIn.nil
                try simp only [zA, zB, zC]
                go_simp
                refine ⟨trivial, ?_⟩
                refine hK _ _ ?_
                clear hK K
                try simp only [zA, zB, zC, Act.put, zD, zE, zF]
                refine wpAnyIn_ready (rs := [18]) (by kernel_rfl) (by simp) ?_
                refine AllReadyIn.cons rfl (fun K hK => ?_) AllReadyIn.nil
                try simp only [zA, zB, zC]
                go_simp
                refine hK _ _ ?_
                clear hK K
                try simp only [zA, zB, zC, Act.put, zD, zE, zF]
                refine wpAnyIn_ready (rs := [19]) (by kernel_rfl) (by simp) ?_
                refine AllReadyIn.cons rfl (fun K hK => ?_) AllReadyIn.nil
                try simp only [zA, zB, zC]
                go_simp
                refine hK _ _ ?_
                clear hK K
                try simp only [zA, zB, zC, Act.put, zD, zE, zF]
                refine wpAnyIn_done (by kernel_rfl) ?_ _
                gi_wp2
                gi_meet
                case rel => exact ⟨rfl, HB3.out⟩
              exact AllReadyIn.nil
            exact AllReadyIn.nil
          refine AllReadyIn.cons rfl (fun K hK => ?_) ?_
          · try simp only [zA, zB, zC]
            go_simp
            refine hK _ _ ?_
            clear hK K
            try simp only [zA, zB, zC, Act.put, zD, zE, zF]
            refine wpAnyIn_ready (rs := [14, 17]) (by kernel_rfl) (by simp) ?_
            refine AllReadyIn.cons rfl (fun K hK => ?_) ?_
            · try simp only [zA, zB, zC]
              go_simp
              refine hK _ _ ?_
              clear hK K
              try simp only [zA, zB, zC, Act.put, zD, zE, zF]
              refine wpAnyIn_ready (rs := [15, 17]) (by kernel_rfl) (by simp) ?_
              refine AllReadyIn.cons rfl (fun K hK => ?_) ?_
              · try simp only [zA, zB, zC]
                go_simp
                refine ⟨trivial, ?_⟩
                refine hK _ _ ?_
                clear hK K
                try simp only [zA, zB, zC, Act.put, zD, zE, zF]
                refine wpAnyIn_ready (rs := [17]) (by kernel_rfl) (by simp) ?_
                refine AllReadyIn.cons rfl (fun K hK => ?_) AllReadyIn.nil
                try simp only [zA, zB, zC]
                go_simp
                refine hK _ _ ?_
                clear hK K
                try simp only [zA, zB, zC, Act.put, zD, zE, zF]
                refine wpAnyIn_ready (rs := [18]) (by kernel_rfl) (by simp) ?_
                refine AllReadyIn.cons rfl (fun K hK => ?_) AllReadyIn.nil
                try simp only [zA, zB, zC]
                go_simp
                refine hK _ _ ?_
                clear hK K
                try simp only [zA, zB, zC, Act.put, zD, zE, zF]
                refine wpAnyIn_ready (rs := [19]) (by kernel_rfl) (by simp) ?_
                refine AllReadyIn.cons rfl (fun K hK => ?_) AllReadyIn.nil
                try simp only [zA, zB, zC]
                go_simp
                refine hK _ _ ?_
                clear hK K
                try simp only [zA, zB, zC, Act.put, zD, zE, zF]
                refine wpAnyIn_done (by kernel_rfl) ?_ _
                gi_wp2
                gi_meet
                case rel => exact ⟨rfl, HB3.out⟩
              refine AllReadyIn.cons rfl (fun K hK => ?_) ?_
              · try simp only [zA, zB, zC]
                go_simp
                refine hK _ _ ?_
                clear hK K
                try simp only [zA, zB, zC, Act.put, zD, zE, zF]
                refine wpAnyIn_ready (rs := [15]) (by kernel_rfl) (by simp) ?_
                refine AllReadyIn.cons rfl (fun K hK => ?_) AllReadyIn.nil
                try simp only [zA, zB, zC]
                go_simp
                refine ⟨trivial, ?_⟩
                refine hK _ _ ?_
                clear hK K
                try simp only [zA, zB, zC, Act.put, zD, zE, zF]
                refine wpAnyIn_ready (rs := [18]) (by kernel_rfl) (by simp) ?_
                refine AllReadyIn.cons rfl (fun K hK => ?_) AllReadyIn.nil
                try simp only [zA, zB, zC]
                go_simp
                refine hK _ _ ?_
                clear hK K
                try simp only [zA, zB, zC, Act.put, zD, zE, zF]
                refine wpAnyIn_ready (rs := [19]) (by kernel_rfl) (by simp) ?_
                refine AllReadyIn.cons rfl (fun K hK => ?_) AllReadyIn.nil
                try simp only [zA, zB, zC]
                go_simp
                refine hK _ _ ?_
                clear hK K
                try simp only [zA, zB, zC, Act.put, zD, zE, zF]
                refine wpAnyIn_done (by kernel_rfl) ?_ _
                gi_wp2
                gi_meet
                case rel => exact ⟨rfl, HB3.out⟩
              exact AllReadyIn.nil
            refine AllReadyIn.cons rfl (fun K hK => ?_) ?_
            · try simp only [zA, zB, zC]
              go_simp
              refine hK _ _ ?_
              clear hK K
              try simp only [zA, zB, zC, Act.put, zD, zE, zF]
              refine wpAnyIn_ready (rs := [14]) (by kernel_rfl) (by simp) ?_
              refine AllReadyIn.cons rfl (fun K hK => ?_) AllReadyIn.nil
              try simp only [zA, zB, zC]
              go_simp
              refine hK _ _ ?_
              clear hK K
              try simp only [zA, zB, zC, Act.put, zD, zE, zF]
              refine wpAnyIn_ready (rs := [15]) (by kernel_rfl) (by simp) ?_
              refine AllReadyIn.cons rfl (fun K hK => ?_) AllReadyIn.nil
              try simp only [zA, zB, zC]
              go_simp
              refine ⟨trivial, ?_⟩
              refine hK _ _ ?_
              clear hK K
              try simp only [zA, zB, zC, Act.put, zD, zE, zF]
              refine wpAnyIn_ready (rs := [18]) (by kernel_rfl) (by simp) ?_
              refine AllReadyIn.cons rfl (fun K hK => ?_) AllReadyIn.nil
              try simp only [zA, zB, zC]
              go_simp
              refine hK _ _ ?_
              clear hK K
              try simp only [zA, zB, zC, Act.put, zD, zE, zF]
              refine wpAnyIn_ready (rs := [19]) (by kernel_rfl) (by simp) ?_
              refine AllReadyIn.cons rfl (fun K hK => ?_) AllReadyIn.nil
              try simp only [zA, zB, zC]
              go_simp
              refine hK _ _ ?_
              clear hK K
              try simp only [zA, zB, zC, Act.put, zD, zE, zF]
              refine wpAnyIn_done (by kernel_rfl) ?_ _
              gi_wp2
              gi_meet
              case rel => exact ⟨rfl, HB3.out⟩
            exact AllReadyIn.nil
          exact AllReadyIn.nil
        | true =>
          cases zm with
          | false =>
            have q0 : decide (mn < 0) = true := by have := of_decide_eq_false ezm.symm; exact decide_eq_true (by omega)
            have HQ := Lib.hid ezm
            clear ezm
            refine wpAnyIn_ready (rs := [0]) (by kernel_rfl) (by simp) ?_
            refine AllReadyIn.cons rfl (fun K hK => ?_) AllReadyIn.nil
            try simp only [zA, zB, zC]
            go_simp
            refine hK _ _ ?_
            clear hK K
            try simp only [zA, zB, zC, Act.put, zD, zE, zF]
            refine wpAnyIn_ready (rs := [1]) (by kernel_rfl) (by simp) ?_
            refine AllReadyIn.cons rfl (fun K hK => ?_) AllReadyIn.nil
            try simp only [zA, zB, zC]
            go_simp
            refine ⟨trivial, ?_⟩
            gi_at_call 45
            refine (callsIn_wide.2 (HFIT.out _)).mono ?_
            rintro e w2 ⟨rfl, hb⟩
            rw [← HZF.out]
            have HB2 := Lib.hid (HB1.out.on hb)
            have HN2 := Lib.hid (HN1.out.on hb)
            clear hb hc0 hc1 hc2 hc3
            obtain ⟨hc0, hc1, hc2, hc3⟩ := HB2.out.cells
            try dsimp only
            refine hK _ _ ?_
            clear hK K
            try simp only [zA, zB, zC, Act.put, zD, zE, zF]
            refine wpAnyIn_ready (rs := [2]) (by kernel_rfl) (by simp) ?_
            refine AllReadyIn.cons rfl (fun K hK => ?_) AllReadyIn.nil
            try simp only [zA, zB, zC]
            go_simp
            refine hK _ _ ?_
            clear hK K
            try simp only [zA, zB, zC, Act.put, zD, zE, zF]
            refine wpAnyIn_ready (rs := [3]) (by kernel_rfl) (by simp) ?_
            refine AllReadyIn.cons rfl (fun K hK => ?_) AllReadyIn.nil
            try simp only [zA, zB, zC]
            go_simp
            refine hK _ _ ?_
            clear hK K
            try simp only [zA, zB, zC, Act.put, zD, zE, zF]
            refine wpAnyIn_ready (rs := [4]) (by kernel_rfl) (by simp) ?_
            refine AllReadyIn.cons rfl (fun K hK => ?_) AllReadyIn.nil
            try simp only [zA, zB, zC]
            go_simp
            refine hK _ _ ?_
            clear hK K
            try simp only [zA, zB, zC, Act.put, zD, zE, zF]
            refine wpAnyIn_ready (rs := [5]) (by kernel_rfl) (by simp) ?_
            refine AllReadyIn.cons rfl (fun K hK => ?_) AllReadyIn.nil
            try simp only [zA, zB, zC]
            go_simp
            refine ⟨trivial, ?_⟩
            gi_at_call 50
            refine (callsIn_wide.2 (HRT.out w2 HB2.out.1)).mono ?_
            rintro e w3 ⟨rfl, hb⟩
            rw [← HZR.out]
            have HB3 := Lib.hid (HB2.out.on hb)
            have HN3 := Lib.hid (HN2.out.on hb)
            clear hb hc0 hc1 hc2 hc3
            obtain ⟨hc0, hc1, hc2, hc3⟩ := HB3.out.cells
            try dsimp only
            refine hK _ _ ?_
            clear hK K
            try simp only [zA, zB, zC, Act.put, zD, zE, zF]
            refine wpAnyIn_ready (rs := [6]) (by kernel_rfl) (by simp) ?_
            refine AllReadyIn.cons rfl (fun K hK => ?_) AllReadyIn.nil
            try simp only [zA, zB, zC]
            go_simp
            refine hK _ _ ?_
            clear hK K
            try simp only [zA, zB, zC, Act.put, zD, zE, zF]
            refine wpAnyIn_ready (rs := [7]) (by kernel_rfl) (by simp) ?_
            refine AllReadyIn.cons rfl (fun K hK => ?_) AllReadyIn.nil
            try simp only [zA, zB, zC]
            go_simp
            refine hK _ _ ?_
            clear hK K
            try simp only [zA, zB, zC, Act.put, zD, zE, zF]
            refine wpAnyIn_ready (rs := [8]) (by kernel_rfl) (by simp) ?_
            refine AllReadyIn.cons rfl (fun K hK => ?_) AllReadyIn.nil
            try simp only [zA, zB, zC]
            go_simp
            refine hK _ _ ?_
            clear hK K
            try simp only [zA, zB, zC, Act.put, zD, zE, zF]
            refine wpAnyIn_ready (rs := [9]) (by kernel_rfl) (by simp) ?_
            refine AllReadyIn.cons rfl (fun K hK => ?_) AllReadyIn.nil
            try simp only [zA, zB, zC]
            go_simp
            refine hK _ _ ?_
            clear hK K
            try simp only [zA, zB, zC, Act.put, zD, zE, zF]
            refine wpAnyIn_ready (rs := [10]) (by kernel_rfl) (by simp) ?_
            refine AllReadyIn.cons rfl (fun K hK => ?_) AllReadyIn.nil
            try simp only [zA, zB, zC]
            go_simp
            refine ⟨trivial, ?_⟩
            gi_at_call 51
            refine (callsIn_wide.2 (HMN.out w3 HN3.out)).mono ?_
            rintro e w4 ⟨rfl, rfl⟩
            try dsimp only
            refine hK _ _ ?_
            clear hK K
            try simp only [zA, zB, zC, Act.put, zD, zE, zF]
            refine wpAnyIn_ready (rs := [11]) (by kernel_rfl) (by simp) ?_
            refine AllReadyIn.cons rfl (fun K hK => ?_) AllReadyIn.nil
            try simp only [zA, zB, zC]
            go_simp
            refine hK _ _ ?_
            clear hK K
            try simp only [zA, zB, zC, Act.put, zD, zE, zF]
            refine wpAnyIn_ready (rs := [12]) (by kernel_rfl) (by simp) ?_
            refine AllReadyIn.cons rfl (fun K hK => ?_) AllReadyIn.nil
            try simp only [zA, zB, zC]
            go_simp
            refine hK _ _ ?_
            clear hK K
            try simp only [zA, zB, zC, Act.put, zD, zE, zF]
            refine wpAnyIn_ready (rs := [13]) (by kernel_rfl) (by simp) ?_
            refine AllReadyIn.cons rfl (fun K hK => ?_) AllReadyIn.nil
            try simp only [zA, zB, zC]
            go_simp
            refine hK _ _ ?_
            clear hK K
            try simp only [zA, zB, zC, Act.put, zD, zE, zF]
            refine wpAnyIn_ready (rs := [14, 16]) (by kernel_rfl) (by simp) ?_
            refine AllReadyIn.cons rfl (fun K hK => ?_) ?_
            · try simp only [zA, zB, zC]
              go_simp
              refine hK _ _ ?_
              clear hK K
              try simp only [zA, zB, zC, Act.put, zD, zE, zF]
              refine wpAnyIn_ready (rs := [15, 16]) (by kernel_rfl) (by simp) ?_
              refine AllReadyIn.cons rfl (fun K hK => ?_) ?_
              · try simp only [zA, zB, zC]
                go_simp
                refine ⟨trivial, ?_⟩
                refine hK _ _ ?_
                clear hK K
                try simp only [zA, zB, zC, Act.put, zD, zE, zF]
                refine wpAnyIn_ready (rs := [16]) (by kernel_rfl) (by simp) ?_
                refine AllReadyIn.cons rfl (fun K hK => ?_) AllReadyIn.nil
                try simp only [zA, zB, zC]
                go_simp
                refine hK _ _ ?_
                clear hK K
                try simp only [zA, zB, zC, Act.put, zD, zE, zF]
                refine wpAnyIn_ready (rs := [17]) (by kernel_rfl) (by simp) ?_
                refine AllReadyIn.cons rfl (fun K hK => ?_) AllReadyIn.nil
                try simp only [zA, zB, zC]
                go_simp
                refine hK _ _ ?_
                clear hK K
                try simp only [zA, zB, zC, Act.put, zD, zE, zF]
                refine wpAnyIn_ready (rs := [18]) (by kernel_rfl) (by simp) ?_
                refine AllReadyIn.cons rfl (fun K hK => ?_) AllReadyIn.nil
                try simp only [zA, zB, zC]
                go_simp
                refine hK _ _ ?_
                clear hK K
                try simp only [zA, zB, zC, Act.put, zD, zE, zF]
                refine wpAnyIn_ready (rs := [19]) (by kernel_rfl) (by simp) ?_
                refine AllReadyIn.cons rfl (fun K hK => ?_) AllReadyIn.nil
                try simp only [zA, zB, zC]
                go_simp
                refine hK _ _ ?_
                clear hK K
                try simp only [zA, zB, zC, Act.put, zD, zE, zF]
                refine wpAnyIn_done (by kernel_rfl) ?_ _
                gi_wp2
                gi_meet
                case rel => exact ⟨rfl, HB3.out⟩
              refine AllReadyIn.cons rfl (fun K hK => ?_) ?_
              · try simp only [zA, zB, zC]
                go_simp
                refine hK _ _ ?_
                clear hK K
                try simp only [zA, zB, zC, Act.put, zD, zE, zF]
                refine wpAnyIn_ready (rs := [15, 17]) (by kernel_rfl) (by simp) ?_
                refine AllReadyIn.cons rfl (fun K hK => ?_) ?_
                · try simp only [zA, zB, zC]
                  go_simp
                  refine ⟨trivial, ?_⟩
                  refine hK _ _ ?_
                  clear hK K
                  try simp only [zA, zB, zC, Act.put, zD, zE, zF]
                  refine wpAnyIn_ready (rs := [17]) (by kernel_rfl) (by simp) ?_
                  refine AllReadyIn.cons rfl (fun K hK => ?_) AllReadyIn.nil
                  try simp only [zA, zB, zC]
                  go_simp
                  refine hK _ _ ?_
                  clear hK K
                  try simp only [zA, zB, zC, Act.put, zD, zE, zF]
                  refine wpAnyIn_ready (rs := [18]) (by kernel_rfl) (by simp) ?_
                  refine AllReadyIn.cons rfl (fun K hK => ?_) AllReadyIn.nil
                  try simp only [zA, zB, zC]
                  go_simp
                  refine hK _ _ ?_
                  clear hK K
                  try simp only [zA, zB, zC, Act.put, zD, zE, zF]
                  refine wpAnyIn_ready (rs := [19]) (by kernel_rfl) (by simp) ?_
                  refine AllReadyIn.cons rfl (fun K hK => ?_) AllReadyIn.nil
                  try simp only [zA, zB, zC]
                  go_simp
                  refine hK _ _ ?_
                  clear hK K
                  try simp only [zA, zB, zC, Act.put, zD, zE, zF]
                  refine wpAnyIn_done (by kernel_rfl) ?_ _
                  gi_wp2
                  gi_meet
                  case rel => exact ⟨rfl, HB3.out⟩
                refine AllReadyIn.cons rfl (fun K hK => ?_) ?_
                · try simp only [zA, zB, zC]
                  go_simp
                  refine hK _ _ ?_
                  clear hK K
                  try simp only [zA, zB, zC, Act.put, zD, zE, zF]
                  refine wpAnyIn_ready (rs := [15]) (by kernel_rfl) (by simp) ?_
                  refine AllReadyIn.cons rfl (fun K hK => ?_) AllReadyIn.nil
                  try simp only [zA, zB, zC]
                  go_simp
                  refine ⟨trivial, ?_⟩
                  refine hK _ _ ?_
                  clear hK K
                  try simp only [zA, zB, zC, Act.put, zD, zE, zF]
                  refine wpAnyIn_ready (rs := [18]) (by kernel_rfl) (by simp) ?_
                  refine AllReadyIn.cons rfl (fun K hK => ?_) AllReadyIn.nil
                  try simp only [zA, zB, zC]
                  go_simp
                  refine hK _ _ ?_
                  clear hK K
                  try simp only [zA, zB, zC, Act.put, zD, zE, zF]
                  refine wpAnyIn_ready (rs := [19]) (by kernel_rfl) (by simp) ?_
                  refine AllReadyIn.cons rfl (fun K hK => ?_) AllReadyIn.nil
                  try simp only [zA, zB, zC]
                  go_simp
                  refine hK _ _ ?_
                  clear hK K
                  try simp only [zA, zB, zC, Act.put, zD, zE, zF]
                  refine wpAnyIn_done (by kernel_rfl) ?_ _
                  gi_wp2
                  gi_meet
                  case rel => exact ⟨rfl, HB3.out⟩
                exact AllReadyIn.nil
              exact AllReadyIn.nil
            refine AllReadyIn.cons rfl (fun K hK => ?_) ?_
            · try simp only [zA, zB, zC]
              go_simp
              refine hK _ _ ?_
              clear hK K
              try simp only [zA, zB, zC, Act.put, zD, zE, zF]
              refine wpAnyIn_ready (rs := [14, 17]) (by kernel_rfl) (by simp) ?_
              refine AllReadyIn.cons rfl (fun K hK => ?_) ?_
              · try simp only [zA, zB, zC]
                go_simp
                refine hK _ _ ?_
                clear hK K
                try simp only [zA, zB, zC, Act.put, zD, zE, zF]
                refine wpAnyIn_ready (rs := [15, 17]) (by kernel_rfl) (by simp) ?_
                refine AllReadyIn.cons rfl (fun K hK => ?_) ?_
                · try simp only [zA, zB, zC]
                  go_simp
                  refine ⟨trivial, ?_⟩
                  refine hK _ _ ?_
                  clear hK K
                  try simp only [zA, zB, zC, Act.put, zD, zE, zF]
                  refine wpAnyIn_ready (rs := [17]) (by kernel_rfl) (by simp) ?_
                  refine AllReadyIn.cons rfl (fun K hK => ?_) AllReadyIn.nil
                  try simp only [zA, zB, zC]
                  go_simp
                  refine hK _ _ ?_
                  clear hK K
                  try simp only [zA, zB, zC, Act.put, zD, zE, zF]
                  refine wpAnyIn_ready (rs := [18]) (by kernel_rfl) (by simp) ?_
                  refine AllReadyIn.cons rfl (fun K hK => ?_) AllReadyIn.nil
                  try simp only [zA, zB, zC]
                  go_simp
                  refine hK _ _ ?_
                  clear hK K
                  try simp only [zA, zB, zC, Act.put, zD, zE, zF]
                  refine wpAnyIn_ready (rs := [19]) (by kernel_rfl) (by simp) ?_
                  refine AllReadyIn.cons rfl (fun K hK => ?_) AllReadyIn.nil
                  try simp only [zA, zB, zC]
                  go_simp
                  refine hK _ _ ?_
                  clear hK K
                  try simp only [zA, zB, zC, Act.put, zD, zE, zF]
                  refine wpAnyIn_done (by kernel_rfl) ?_ _
                  gi_wp2
                  gi_meet
                  case rel => exact ⟨rfl, HB3.out⟩
                refine AllReadyIn.cons rfl (fun K hK => ?_) ?_
                · try simp only [zA, zB, zC]
                  go_simp
                  refine hK _ _ ?_
                  clear hK K
                  try simp only [zA, zB, zC, Act.put, zD, zE, zF]
                  refine wpAnyIn_ready (rs := [15]) (by kernel_rfl) (by simp) ?_
                  refine AllReadyIn.cons rfl (fun K hK => ?_) AllReadyIn.nil
                  try simp only [zA, zB, zC]
                  go_simp
                  refine ⟨trivial, ?_⟩
                  refine hK _ _ ?_
                  clear hK K
                  try simp only [zA, zB, zC, Act.put, zD, zE, zF]
                  refine wpAnyIn_ready (rs := [18]) (by kernel_rfl) (by simp) ?_
                  refine AllReadyIn.cons rfl (fun K hK => ?_) AllReadyIn.nil
                  try simp only [zA, zB, zC]
                  go_simp
                  refine hK _ _ ?_
                  clear hK K
                  try simp only [zA, zB, zC, Act.put, zD, zE, zF]
                  refine wpAnyIn_ready (rs := [19]) (by kernel_rfl) (by simp) ?_
                  refine AllReadyIn.cons rfl (fun K hK => ?_) AllReadyIn.nil
                  try simp only [zA, zB, zC]
                  go_simp
                  refine hK _ _ ?_
                  clear hK K
                  try simp only [zA, zB, zC, Act.put, zD, zE, zF]
                  refine wpAnyIn_done (by kernel_rfl) ?_ _
                  gi_wp2
                  gi_meet
                  case rel => exact ⟨rfl, HB3.out⟩
                exact AllReadyIn.nil
              refine AllReadyIn.cons rfl (fun K hK => ?_) ?_
              · try simp only [zA, zB, zC]
                go_simp
                refine hK _ _ ?_
                clear hK K
                try simp only [zA, zB, zC, Act.put, zD, zE, zF]
                refine wpAnyIn_ready (rs := [14]) (by kernel_rfl) (by simp) ?_
                refine AllReadyIn.cons rfl (fun K hK => ?_) AllReadyIn.nil
                try simp only [zA, zB, zC]
                go_simp
                refine hK _ _ ?_
                clear hK K
                try simp only [zA, zB, zC, Act.put, zD, zE, zF]
                refine wpAnyIn_ready (rs := [15]) (by kernel_rfl) (by simp) ?_
                refine AllReadyIn.cons rfl (fun K hK => ?_) AllReadyIn.nil
                try simp only [zA, zB, zC]
                go_simp
                refine ⟨trivial, ?_⟩
                refine hK _ _ ?_
                clear hK K
                try simp only [zA, zB, zC, Act.put, zD, zE, zF]
                refine wpAnyIn_ready (rs := [18]) (by kernel_rfl) (by simp) ?_
                refine AllReadyIn.cons rfl (fun K hK => ?_) AllReadyIn.nil
                try simp only [zA, zB, zC]
                go_simp
                refine hK _ _ ?_
                clear hK K
                try simp only [zA, zB, zC, Act.put, zD, zE, zF]
                refine wpAnyIn_ready (rs := [19]) (by kernel_rfl) (by simp) ?_
                refine AllReadyIn.cons rfl (fun K hK => ?_) AllReadyIn.nil
                try simp only [zA, zB, zC]
                go_simp
                refine hK _ _ ?_
                clear hK K
                try simp only [zA, zB, zC, Act.put, zD, zE, zF]
                refine wpAnyIn_done (by kernel_rfl) ?_ _
                gi_wp2
                gi_meet
                case rel => exact ⟨rfl, HB3.out⟩
              exact AllReadyIn.nil
            exact AllReadyIn.nil
          | true =>
            have q0 : decide (mn < 0) = false := by have := of_decide_eq_true ezm.symm; exact decide_eq_false (by omega)
            have HQ := Lib.hid ezm
            clear ezm
            have q2 : decide ((xs.length : Int) ≤ mx) = !zx := by
              rw [ezx]
              by_cases h : mx < (xs.length : Int)
              · rw [decide_eq_true h, decide_eq_false (by omega)]; rfl
              · rw [decide_eq_false h, decide_eq_true (by omega)]; rfl
            have q1 : decide (mx ≥ (xs.length : Int)) = !zx := q2
            have HQ1 := Lib.hid ezx
            clear ezx
            refine wpAnyIn_ready (rs := [0]) (by kernel_rfl) (by simp) ?_
            refine AllReadyIn.cons rfl (fun K hK => ?_) AllReadyIn.nil
            try simp only [zA, zB, zC]
            go_simp
            refine hK _ _ ?_
            clear hK K
            try simp only [zA, zB, zC, Act.put, zD, zE, zF]
            refine wpAnyIn_ready (rs := [1]) (by kernel_rfl) (by simp) ?_
            refine AllReadyIn.cons rfl (fun K hK => ?_) AllReadyIn.nil
            try simp only [zA, zB, zC]
            go_simp
            refine ⟨trivial, ?_⟩
            gi_at_call 45
            refine (callsIn_wide.2 (HFIT.out _)).mono ?_
            rintro e w2 ⟨rfl, hb⟩
            rw [← HZF.out]
            have HB2 := Lib.hid (HB1.out.on hb)
            have HN2 := Lib.hid (HN1.out.on hb)
            clear hb hc0 hc1 hc2 hc3
            obtain ⟨hc0, hc1, hc2, hc3⟩ := HB2.out.cells
            try dsimp only
            refine hK _ _ ?_
            clear hK K
            try simp only [zA, zB, zC, Act.put, zD, zE, zF]
            refine wpAnyIn_ready (rs := [2]) (by kernel_rfl) (by simp) ?_
            refine AllReadyIn.cons rfl (fun K hK => ?_) AllReadyIn.nil
            try simp only [zA, zB, zC]
            go_simp
            refine hK _ _ ?_
            clear hK K
            try simp only [zA, zB, zC, Act.put, zD, zE, zF]
            refine wpAnyIn_ready (rs := [3]) (by kernel_rfl) (by simp) ?_
            refine AllReadyIn.cons rfl (fun K hK => ?_) AllReadyIn.nil
            try simp only [zA, zB, zC]
            go_simp
            refine hK _ _ ?_
            clear hK K
            try simp only [zA, zB, zC, Act.put, zD, zE, zF]
            refine wpAnyIn_ready (rs := [4]) (by kernel_rfl) (by simp) ?_
            refine AllReadyIn.cons rfl (fun K hK => ?_) AllReadyIn.nil
            try simp only [zA, zB, zC]
            go_simp
            refine hK _ _ ?_
            clear hK K
            try simp only [zA, zB, zC, Act.put, zD, zE, zF]
            refine wpAnyIn_ready (rs := [5]) (by kernel_rfl) (by simp) ?_
            refine AllReadyIn.cons rfl (fun K hK => ?_) AllReadyIn.nil
            try simp only [zA, zB, zC]
            go_simp
            refine ⟨trivial, ?_⟩
            gi_at_call 50
            refine (callsIn_wide.2 (HRT.out w2 HB2.out.1)).mono ?_
            rintro e w3 ⟨rfl, hb⟩
            rw [← HZR.out]
            have HB3 := Lib.hid (HB2.out.on hb)
            have HN3 := Lib.hid (HN2.out.on hb)
            clear hb hc0 hc1 hc2 hc3
            obtain ⟨hc0, hc1, hc2, hc3⟩ := HB3.out.cells
            try dsimp only
            refine hK _ _ ?_
            clear hK K
            try simp only [zA, zB, zC, Act.put, zD, zE, zF]
            refine wpAnyIn_ready (rs := [6]) (by kernel_rfl) (by simp) ?_
            refine AllReadyIn.cons rfl (fun K hK => ?_) AllReadyIn.nil
            try simp only [zA, zB, zC]
            go_simp
            refine hK _ _ ?_
            clear hK K
            try simp only [zA, zB, zC, Act.put, zD, zE, zF]
            refine wpAnyIn_ready (rs := [7]) (by kernel_rfl) (by simp) ?_
            refine AllReadyIn.cons rfl (fun K hK => ?_) AllReadyIn.nil
            try simp only [zA, zB, zC]
            go_simp
            refine hK _ _ ?_
            clear hK K
            try simp only [zA, zB, zC, Act.put, zD, zE, zF]
            refine wpAnyIn_ready (rs := [8]) (by kernel_rfl) (by simp) ?_
            refine AllReadyIn.cons rfl (fun K hK => ?_) AllReadyIn.nil
            try simp only [zA, zB, zC]
            go_simp
            refine hK _ _ ?_
            clear hK K
            try simp only [zA, zB, zC, Act.put, zD, zE, zF]
            refine wpAnyIn_ready (rs := [9]) (by kernel_rfl) (by simp) ?_
            refine AllReadyIn.cons rfl (fun K hK => ?_) AllReadyIn.nil
            try simp only [zA, zB, zC]
            go_simp
            refine hK _ _ ?_
            clear hK K
            try simp only [zA, zB, zC, Act.put, zD, zE, zF]
            refine wpAnyIn_ready (rs := [10]) (by kernel_rfl) (by simp) ?_
            refine AllReadyIn.cons rfl (fun K hK => ?_) AllReadyIn.nil
            try simp only [zA, zB, zC]
            go_simp
            refine ⟨trivial, ?_⟩
            gi_at_call 51
            refine (callsIn_wide.2 (HMN.out w3 HN3.out)).mono ?_
            rintro e w4 ⟨rfl, rfl⟩
            try dsimp only
            refine hK _ _ ?_
            clear hK K
            try simp only [zA, zB, zC, Act.put, zD, zE, zF]
            refine wpAnyIn_ready (rs := [11]) (by kernel_rfl) (by simp) ?_
            refine AllReadyIn.cons rfl (fun K hK => ?_) AllReadyIn.nil
            try simp only [zA, zB, zC]
            go_simp
            refine hK _ _ ?_
            clear hK K
            try simp only [zA, zB, zC, Act.put, zD, zE, zF]
            refine wpAnyIn_ready (rs := [12]) (by kernel_rfl) (by simp) ?_
            refine AllReadyIn.cons rfl (fun K hK => ?_) AllReadyIn.nil
            try simp only [zA, zB, zC]
            go_simp
            refine hK _ _ ?_
            clear hK K
            try simp only [zA, zB, zC, Act.put, zD, zE, zF]
            refine wpAnyIn_ready (rs := [13]) (by kernel_rfl) (by simp) ?_
            refine AllReadyIn.cons rfl (fun K hK => ?_) AllReadyIn.nil
            try simp only [zA, zB, zC]
            go_simp
            refine hK _ _ ?_
            clear hK K
            try simp only [zA, zB, zC, Act.put, zD, zE, zF]
            refine wpAnyIn_ready (rs := [14, 16]) (by kernel_rfl) (by simp) ?_
            refine AllReadyIn.cons rfl (fun K hK => ?_) ?_
            · try simp only [zA, zB, zC]
              go_simp
              refine hK _ _ ?_
              clear hK K
              try simp only [zA, zB, zC, Act.put, zD, zE, zF]
              refine wpAnyIn_ready (rs := [15, 16]) (by kernel_rfl) (by simp) ?_
              refine AllReadyIn.cons rfl (fun K hK => ?_) ?_
              · try simp only [zA, zB, zC]
                go_simp
                refine ⟨trivial, ?_⟩
                gi_at_call 52
                refine (callsIn_wide.2 (HMX.out _ HN3.out)).mono ?_
                rintro e w5 ⟨rfl, rfl⟩
                try dsimp only
                refine hK _ _ ?_
                clear hK K
                try simp only [zA, zB, zC, Act.put, zD, zE, zF]
                refine wpAnyIn_ready (rs := [16]) (by kernel_rfl) (by simp) ?_
                refine AllReadyIn.cons rfl (fun K hK => ?_) AllReadyIn.nil
                try simp only [zA, zB, zC]
                go_simp
                refine hK _ _ ?_
                clear hK K
                try simp only [zA, zB, zC, Act.put, zD, zE, zF]
                refine wpAnyIn_ready (rs := [17]) (by kernel_rfl) (by simp) ?_
                refine AllReadyIn.cons rfl (fun K hK => ?_) AllReadyIn.nil
                try simp only [zA, zB, zC]
                go_simp
                refine hK _ _ ?_
                clear hK K
                try simp only [zA, zB, zC, Act.put, zD, zE, zF]
                refine wpAnyIn_ready (rs := [18]) (by kernel_rfl) (by simp) ?_
                refine AllReadyIn.cons rfl (fun K hK => ?_) AllReadyIn.nil
                try simp only [zA, zB, zC]
                go_simp
                refine hK _ _ ?_
                clear hK K
                try simp only [zA, zB, zC, Act.put, zD, zE, zF]
                refine wpAnyIn_ready (rs := [19]) (by kernel_rfl) (by simp) ?_
                refine AllReadyIn.cons rfl (fun K hK => ?_) AllReadyIn.nil
                try simp only [zA, zB, zC]
                go_simp
                refine hK _ _ ?_
                clear hK K
                try simp only [zA, zB, zC, Act.put, zD, zE, zF]
                refine wpAnyIn_done (by kernel_rfl) ?_ _
                gi_wp2
                gi_meet
                case rel => exact ⟨rfl, HB3.out⟩
              refine AllReadyIn.cons rfl (fun K hK => ?_) ?_
              · try simp only [zA, zB, zC]
                go_simp
                refine hK _ _ ?_
                clear hK K
                try simp only [zA, zB, zC, Act.put, zD, zE, zF]
                refine wpAnyIn_ready (rs := [15, 17]) (by kernel_rfl) (by simp) ?_
                refine AllReadyIn.cons rfl (fun K hK => ?_) ?_
                · try simp only [zA, zB, zC]
                  go_simp
                  refine ⟨trivial, ?_⟩
                  gi_at_call 52
                  refine (callsIn_wide.2 (HMX.out _ HN3.out)).mono ?_
                  rintro e w5 ⟨rfl, rfl⟩
                  try dsimp only
                  refine hK _ _ ?_
                  clear hK K
                  try simp only [zA, zB, zC, Act.put, zD, zE, zF]
                  refine wpAnyIn_ready (rs := [17]) (by kernel_rfl) (by simp) ?_
                  refine AllReadyIn.cons rfl (fun K hK => ?_) AllReadyIn.nil
                  try simp only [zA, zB, zC]
                  go_simp
                  refine hK _ _ ?_
                  clear hK K
                  try simp only [zA, zB, zC, Act.put, zD, zE, zF]
                  refine wpAnyIn_ready (rs := [18]) (by kernel_rfl) (by simp) ?_
                  refine AllReadyIn.cons rfl (fun K hK => ?_) AllReadyIn.nil
                  try simp only [zA, zB, zC]
                  go_simp
                  refine hK _ _ ?_
                  clear hK K
                  try simp only [zA, zB, zC, Act.put, zD, zE, zF]
                  refine wpAnyIn_ready (rs := [19]) (by kernel_rfl) (by simp) ?_
                  refine AllReadyIn.cons rfl (fun K hK => ?_) AllReadyIn.nil
                  try simp only [zA, zB, zC]
                  go_simp
                  refine hK _ _ ?_
                  clear hK K
                  try simp only [zA, zB, zC, Act.put, zD, zE, zF]
                  refine wpAnyIn_done (by kernel_rfl) ?_ _
                  gi_wp2
                  gi_meet
                  case rel => exact ⟨rfl, HB3.out⟩
                refine AllReadyIn.cons rfl (fun K hK => ?_) ?_
                · try simp only [zA, zB, zC]
                  go_simp
                  refine hK _ _ ?_
                  clear hK K
                  try simp only [zA, zB, zC, Act.put, zD, zE, zF]
                  refine wpAnyIn_ready (rs := [15]) (by kernel_rfl) (by simp) ?_
                  refine AllReadyIn.cons rfl (fun K hK => ?_) AllReadyIn.nil
                  try simp only [zA, zB, zC]
                  go_simp
                  refine ⟨trivial, ?_⟩
                  gi_at_call 52
                  refine (callsIn_wide.2 (HMX.out _ HN3.out)).mono ?_
                  rintro e w5 ⟨rfl, rfl⟩
                  try dsimp only
                  refine hK _ _ ?_
                  clear hK K
                  try simp only [zA, zB, zC, Act.put, zD, zE, zF]
                  refine wpAnyIn_ready (rs := [18]) (by kernel_rfl) (by simp) ?_
                  refine AllReadyIn.cons rfl (fun K hK => ?_) AllReadyIn.nil
                  try simp only [zA, zB, zC]
                  go_simp
                  refine hK _ _ ?_
                  clear hK K
                  try simp only [zA, zB, zC, Act.put, zD, zE, zF]
                  refine wpAnyIn_ready (rs := [19]) (by kernel_rfl) (by simp) ?_
                  refine AllReadyIn.cons rfl (fun K hK => ?_) AllReadyIn.nil
                  try simp only [zA, zB, zC]
                  go_simp
                  refine hK _ _ ?_
                  clear hK K
                  try simp only [zA, zB, zC, Act.put, zD, zE, zF]
                  refine wpAnyIn_done (by kernel_rfl) ?_ _
                  gi_wp2
                  gi_meet
                  case rel => exact ⟨rfl, HB3.out⟩
                exact AllReadyIn.nil
              exact AllReadyIn.nil
            refine AllReadyIn.cons rfl (fun K hK => ?_) ?_
            · try simp only [zA, zB, zC]
              go_simp
              refine hK _ _ ?_
              clear hK K
              try simp only [zA, zB, zC, Act.put, zD, zE, zF]
              refine wpAnyIn_ready (rs := [14, 17]) (by kernel_rfl) (by simp) ?_
              refine AllReadyIn.cons rfl (fun K hK => ?_) ?_
              · try simp only [zA, zB, zC]
                go_simp
                refine hK _ _ ?_
                clear hK K
                try simp only [zA, zB, zC, Act.put, zD, zE, zF]
                refine wpAnyIn_ready (rs := [15, 17]) (by kernel_rfl) (by simp) ?_
                refine AllReadyIn.cons rfl (fun K hK => ?_) ?_
                · try simp only [zA, zB, zC]
                  go_simp
                  refine ⟨trivial, ?_⟩
                  gi_at_call 52
                  refine (callsIn_wide.2 (HMX.out _ HN3.out)).mono ?_
                  rintro e w5 ⟨rfl, rfl⟩
                  try dsimp only
                  refine hK _ _ ?_
                  clear hK K
                  try simp only [zA, zB, zC, Act.put, zD, zE, zF]
                  refine wpAnyIn_ready (rs := [17]) (by kernel_rfl) (by simp) ?_
                  refine AllReadyIn.cons rfl (fun K hK => ?_) AllReadyIn.nil
                  try simp only [zA, zB, zC]
                  go_simp
                  refine hK _ _ ?_
                  clear hK K
                  try simp only [zA, zB, zC, Act.put, zD, zE, zF]
                  refine wpAnyIn_ready (rs := [18]) (by kernel_rfl) (by simp) ?_
                  refine AllReadyIn.cons rfl (fun K hK => ?_) AllReadyIn.nil
                  try simp only [zA, zB, zC]
                  go_simp
                  refine hK _ _ ?_
                  clear hK K
                  try simp only [zA, zB, zC, Act.put, zD, zE, zF]
                  refine wpAnyIn_ready (rs := [19]) (by kernel_rfl) (by simp) ?_
                  refine AllReadyIn.cons rfl (fun K hK => ?_) AllReadyIn.nil
                  try simp only [zA, zB, zC]
                  go_simp
                  refine hK _ _ ?_
                  clear hK K
                  try simp only [zA, zB, zC, Act.put, zD, zE, zF]
                  refine wpAnyIn_done (by kernel_rfl) ?_ _
                  gi_wp2
                  gi_meet
                  case rel => exact ⟨rfl, HB3.out⟩
                refine AllReadyIn.cons rfl (fun K hK => ?_) ?_
                · try simp only [zA, zB, zC]
                  go_simp
                  refine hK _ _ ?_
                  clear hK K
                  try simp only [zA, zB, zC, Act.put, zD, zE, zF]
                  refine wpAnyIn_ready (rs := [15]) (by kernel_rfl) (by simp) ?_
                  refine AllReadyIn.cons rfl (fun K hK => ?_) AllReadyIn.nil
                  try simp only [zA, zB, zC]
                  go_simp
                  refine ⟨trivial, ?_⟩
                  gi_at_call 52
                  refine (callsIn_wide.2 (HMX.out _ HN3.out)).mono ?_
                  rintro e w5 ⟨rfl, rfl⟩
                  try dsimp only
                  refine hK _ _ ?_
                  clear hK K
                  try simp only [zA, zB, zC, Act.put, zD, zE, zF]
                  refine wpAnyIn_ready (rs := [18]) (by kernel_rfl) (by simp) ?_
                  refine AllReadyIn.cons rfl (fun K hK => ?_) AllReadyIn.nil
                  try simp only [zA, zB, zC]
                  go_simp
                  refine hK _ _ ?_
                  clear hK K
                  try simp only [zA, zB, zC, Act.put, zD, zE, zF]
                  refine wpAnyIn_ready (rs := [19]) (by kernel_rfl) (by simp) ?_
                  refine AllReadyIn.cons rfl (fun K hK => ?_) AllReadyIn.nil
                  try simp only [zA, zB, zC]
                  go_simp
                  refine hK _ _ ?_
                  clear hK K
                  try simp only [zA, zB, zC, Act.put, zD, zE, zF]
                  refine wpAnyIn_done (by kernel_rfl) ?_ _
                  gi_wp2
                  gi_meet
                  case rel => exact ⟨rfl, HB3.out⟩
                exact AllReadyIn.nil
              refine AllReadyIn.cons rfl (fun K hK => ?_) ?_
              · try simp only [zA, zB, zC]
                go_simp
                refine hK _ _ ?_
                clear hK K
                try simp only [zA, zB, zC, Act.put, zD, zE, zF]
                refine wpAnyIn_ready (rs := [14]) (by kernel_rfl) (by simp) ?_
                refine AllReadyIn.cons rfl (fun K hK => ?_) AllReadyIn.nil
                try simp only [zA, zB, zC]
                go_simp
                refine hK _ _ ?_
                clear hK K
                try simp only [zA, zB, zC, Act.put, zD, zE, zF]
                refine wpAnyIn_ready (rs := [15]) (by kernel_rfl) (by simp) ?_
                refine AllReadyIn.cons rfl (fun K hK => ?_) AllReadyIn.nil
                try simp only [zA, zB, zC]
                go_simp
                refine ⟨trivial, ?_⟩
                gi_at_call 52
                refine (callsIn_wide.2 (HMX.out _ HN3.out)).mono ?_
                rintro e w5 ⟨rfl, rfl⟩
                try dsimp only
                refine hK _ _ ?_
                clear hK K
                try simp only [zA, zB, zC, Act.put, zD, zE, zF]
                refine wpAnyIn_ready (rs := [18]) (by kernel_rfl) (by simp) ?_
                refine AllReadyIn.cons rfl (fun K hK => ?_) AllReadyIn.nil
                try simp only [zA, zB, zC]
                go_simp
                refine hK _ _ ?_
                clear hK K
                try simp only [zA, zB, zC, Act.put, zD, zE, zF]
                refine wpAnyIn_ready (rs := [19]) (by kernel_rfl) (by simp) ?_
                refine AllReadyIn.cons rfl (fun K hK => ?_) AllReadyIn.nil
                try simp only [zA, zB, zC]
                go_simp
                refine hK _ _ ?_
                clear hK K
                try simp only [zA, zB, zC, Act.put, zD, zE, zF]
                refine wpAnyIn_done (by kernel_rfl) ?_ _
                gi_wp2
                gi_meet
                case rel => exact ⟨rfl, HB3.out⟩
              exact AllReadyIn.nil
            exact AllReadyIn.nil
    case rest =>
      obtain ⟨rfl, hb⟩ := hcut
      have HB2 := Lib.hid hb
      clear hb HB HN HMN HMX ezm ezx
      have hcv : capB xs cs a m bd = (zf && (zr && (zm && zx))) := by unfold capB; rw [← HZF.out, ← HZR.out, HZL.out]
      obtain ⟨zz, ezz⟩ : ∃ zz, zz = (zf && (zr && (zm && zx))) := ⟨_, rfl⟩
      rw [← ezz] at hcv ⊢
      cases zz with
      | false =>
        have HCV := Lib.hid hcv
        clear hcv ezz
        obtain ⟨⟨_, _, _, _, _, _, _⟩, _, _, _, _, _, _, _⟩ := one7 HB2.out.2.2.2.2.2.2
        gi_wp2
        have hs := set7_obj HB2.out.2.2.2.2.2.2 (.int .i64 0) (.int .i64 0) (.int .i64 0) (.int .i64 0) (.int .i64 0) (.int .i64 0) (.int .i64 0)
        have HF := Lib.hid (set7_below HB2.out.1 (show w.heap.size ≤ w.heap.size + 1 + 1 + 1 + 1 by omega) (.int .i64 0) (.int .i64 0) (.int .i64 0) (.int .i64 0) (.int .i64 0) (.int .i64 0) (.int .i64 0))
        unfold set7 at hs HF
        generalize ((((((wc.setCell ⟨w.heap.size + 1 + 1 + 1 + 1, 0, none⟩ (.int .i64 0)).setCell ⟨w.heap.size + 1 + 1 + 1 + 1, 1, none⟩ (.int .i64 0)).setCell ⟨w.heap.size + 1 + 1 + 1 + 1, 2, none⟩ (.int .i64 0)).setCell ⟨w.heap.size + 1 + 1 + 1 + 1, 3, none⟩ (.int .i64 0)).setCell ⟨w.heap.size + 1 + 1 + 1 + 1, 4, none⟩ (.int .i64 0)).setCell ⟨w.heap.size + 1 + 1 + 1 + 1, 5, none⟩ (.int .i64 0)).setCell ⟨w.heap.size + 1 + 1 + 1 + 1, 6, none⟩ (.int .i64 0) = w10 at hs HF ⊢
        obtain ⟨⟨q0, q1, q2, q3, q4, q5, q6⟩, _⟩ := one7 hs
        refine ⟨.tuple #[.agg #[.int .i64 0, .int .i64 0, .int .i64 0, .int .i64 0, .int .i64 0, .int .i64 0, .int .i64 0], .bool false], ?_, by rw [HCV.out]; rfl, HF.out⟩
        simp [results, Tryd.f29, go_sem, q0, q1, q2, q3, q4, q5, q6]
      | true =>
        have HCV := Lib.hid hcv
        have hz := ezz.symm
        rw [Bool.and_eq_true, Bool.and_eq_true] at hz
        have HR := Lib.hid (HZR.out.symm.trans hz.2.1)
        have HLV := Lib.hid (show levB xs.length (cs ++ [bd, a]) = true by rw [HZL.out]; exact hz.2.2)
        have HFP := Lib.hid (show ∀ i ∈ MM.bitsOf m, i < 7 by
          have h := HZF.out.symm.trans hz.1
          unfold fitB at h
          rw [Bool.and_eq_true, bitsIn_iff] at h
          exact fun i hi => by have := h.2 i hi; omega)
        clear ezz hz hcv
        have HLC := Lib.hid (show levB xs.length cs = true by have h := HLV.out; rw [levB_app, Bool.and_eq_true] at h; exact h.1)
        have HBD := Lib.hid (show 0 ≤ bd ∧ bd < xs.length from levB_iff.1 HLV.out bd (by simp))
        have HMT := Lib.hid (fun W (hb : Below w.heap.size w W) (c : Int) (hc : 0 ≤ c ∧ c < xs.length) => meet5_any _ xs _ c bd W ((HU.out.below hb).mono hb.size) (Nat.le_refl _) HX.out HXL.out (wf_levC HXL.out hc) (wf_levC HXL.out HBD.out) (HT.out.on hb))
        have hw5 : w.heap.size + 5 ≤ wc.heap.size := HB2.out.2.1
        have hsz : (wc.alloc (.cells #[.int .u64 m] 36)).heap.size = wc.heap.size + 1 := World.size_alloc ..
        have bN := Boxed.new wc 36 (.int .u64 m)
        have HB6 := Lib.hid (HB2.out.on ((Below.refl wc.heap.size wc).alloc (Nat.le_refl _) (.cells #[.int .u64 m] 36)))
        obtain ⟨hc0, hc1, hc2, hc3⟩ := HB2.out.cells
        gi_wp2_with fail
        refine ⟨trivial, (callsIn_wide.2 (all_any _ _)).mono ?_⟩
        rintro e w6 ⟨rfl, rfl⟩
        clear hc0 hc1 hc2 hc3
        obtain ⟨Bs, eBs⟩ : ∃ Bs, Bs = wc.heap.size := ⟨_, rfl⟩
        rw [← eBs] at bN hsz hw5 ⊢
        generalize wc.alloc (.cells #[.int .u64 m] 36) = W6 at bN HB6 hsz ⊢
        clear HB2 eBs
        have hTL := HT.out.lt
        have hT6 : Tz W6 := HT.out.on HB6.out.1
        gi_wp2
        refine wpIn_rangeFunc_ownF rfl (by omega) (gf := 69) (lb := #[.pointer (some ⟨Bs, 0, none⟩)]) rfl trivial (enters_of Tryd.func69 (by kernel_rfl) rfl)
          (all_stopsS _ (by omega) Bs m HM.out.1 HM.out.2 W6 (by omega) bN.cell hT6) (fun h k => h.trans k) (keptAt_b (by omega)) (Below.refl _ _) (fun _ => rfl)
          (fun pre Wr => CapBx w (.slice ua xs.length uc) (capF xs bd cs (pre.map (fun z : InS m => z.1))) a m bd Wr)
          (fun _ _ _ => False)
          (capBx_own (by omega))
          (fun _ _ _ _ _ hs _ _ => hs)
          HB6.out
          (fun z => { tmps := #[.slice ua xs.length uc, .agg #[.int .i64 c0, .int .i64 c1, .int .i64 c2, .int .i64 c3, .int .i64 c4, .int .i64 c5, .int .i64 c6], .agg #[.int .i64 a, .int .u64 m], .int .i64 bd, .pointer (some ⟨w.heap.size, 0, none⟩), .pointer (some ⟨w.heap.size + 1, 0, none⟩), .pointer (some ⟨w.heap.size + 1 + 1, 0, none⟩), .pointer (some ⟨w.heap.size + 1 + 1 + 1, 0, none⟩), .pointer (some ⟨w.heap.size + 1 + 1 + 1 + 1, 0, none⟩), .bool false, .slice (some ⟨g, 0, none⟩) 9 gc, .int .i64 ((z.1 : Nat) : Int), u12, u13, u14, u15, u16, u17, u18, u19, u20, u21, u22, u23, u24, u25, u26, u27, u28, u29, u30, u31, u32, u33, u34, u35, u36, .bool false, u38, .pointer (some ⟨w.heap.size + 1 + 1, 1, none⟩), .int .u64 m, .func (.func 69) #[] #[.pointer (some ⟨Bs, 0, none⟩)], .int .i64 ((z.1 : Nat) : Int), u43, u44, u45, u46, u47, u48, u49, u50, u51, u52, u53, u54], defers := [] }) ?assign ?body ?done ?stop
        case assign =>
          intro l z W K hK
          gi_wp2
          exact hK
        case body =>
          rintro l pre z Wr hI hlt
          obtain ⟨z, hzm⟩ := z
          have hzl := LL.has_lt hzm
          have hz7 : z < 7 := HFP.out z (mem_bits.2 hzm)
          have HI := Lib.hid hI
          clear hI
          obtain ⟨L, eL⟩ : ∃ L, L = capF xs bd cs (pre.map (fun z : InS m => z.1)) := ⟨_, rfl⟩
          rw [← eL] at HI
          have hL7 : L.length = 7 := by rw [eL, capF_len, h7]
          have HLL := Lib.hid (show levB xs.length L = true by rw [eL]; exact capF_lev _ HR.out HBD.out HLC.out)
          have HNX := Lib.hid (show capF xs bd cs ((pre ++ [(⟨z, hzm⟩ : InS m)]).map (fun z : InS m => z.1)) = L.set z (LL.meetI xs (L[z]?.getD 0).toNat bd.toNat) by rw [List.map_append, eL]; exact capF_snoc _ _)
          clear eL
          obtain ⟨y, ey⟩ : ∃ y, y = L[z]?.getD 0 := ⟨_, rfl⟩
          have HY := Lib.hid (show 0 ≤ y ∧ y < xs.length by rw [ey]; exact levB_iff.1 HLL.out _ (GG.getD_mem (d := 0) (by omega)))
          rw [← ey] at HNX
          obtain ⟨mv, emv⟩ : ∃ mv, mv = LL.meetI xs y.toNat bd.toNat := ⟨_, rfl⟩
          rw [← emv] at HNX
          have HYE := Lib.hid ey
          have HME := Lib.hid emv
          clear ey emv
          have i7 : (0 : Int) ≤ z ∧ (z : Int) < 7 := by omega
          gi_wp2
          refine wpIn_region_any (by kernel_rfl) ?_
          change wpAnyIn _ _ _ _ _ _ _ _ _ (World.drew _)
          have HI1 := Lib.hid HI.out.drew
          have HKO := Lib.hid (KeepsOthers.drew Wr)
          have HKA := Lib.hid (show KeptAt tzG Wr Wr.drew from rfl)
          clear HI
          generalize Wr.drew = W1 at HI1 HKO HKA ⊢
          refine wpAnyIn_outR l (no_defer (by kernel_rfl)) _ _ _ _ ?_
          obtain ⟨hc0, hc1, hc2, hc3⟩ := HI1.out.cells
          obtain ⟨hy0, hy1⟩ := HI1.out.at (z := z) (by omega)
          rw [← HYE.out] at hy0
          have hzz : (z : Int).toNat = z := Int.toNat_natCast z
          try simp only [zA, zB, zC, Act.put, zD, zE, zF]
          refine wpAnyIn_take (i := 0) (v := .int .i64 (z : Int)) rfl rfl (by kernel_rfl) (by kernel_rfl) (by kernel_rfl) (fun _ _ _ h => h) ⟨Or.inl ⟨by rfl, fun W => ?_⟩, fun _ => rfl⟩ ?_
          · (go_simp <;> with_reducible rfl)
          try simp only [zA, zB, zC, Act.put, zD, zE, zF]
          refine wpAnyIn_take (i := 2) (v := .int .i64 (z : Int)) rfl rfl (by kernel_rfl) (by kernel_rfl) (by kernel_rfl) (fun _ _ _ h => h) ⟨Or.inl ⟨by rfl, fun W => ?_⟩, fun _ => rfl⟩ ?_
          · (go_simp <;> with_reducible rfl)
          try simp only [zA, zB, zC, Act.put, zD, zE, zF]
          refine wpAnyIn_take (i := 3) (v := .pointer (some ⟨w.heap.size + 1, z, none⟩)) rfl rfl (by kernel_rfl) (by kernel_rfl) (by kernel_rfl) (fun _ _ _ h => h) ⟨Or.inl ⟨by rfl, fun W => ?_⟩, fun _ => rfl⟩ ?_
          · (go_simp <;> with_reducible rfl)
          try simp only [zA, zB, zC, Act.put, zD, zE, zF]
          refine wpAnyIn_ready (rs := [1, 4, 5]) (by kernel_rfl) (by simp) ?_
          refine AllReadyIn.cons rfl (fun K hK => ?_) ?_
          · try simp only [zA, zB, zC]
            go_simp
            refine hK _ _ ?_
            clear hK K
            try simp only [zA, zB, zC, Act.put, zD, zE, zF]
            refine wpAnyIn_ready (rs := [4, 5]) (by kernel_rfl) (by simp) ?_
            refine AllReadyIn.cons rfl (fun K hK => ?_) ?_
            · try simp only [zA, zB, zC]
              go_simp
              refine hK _ _ ?_
              clear hK K
              try simp only [zA, zB, zC, Act.put, zD, zE, zF]
              refine wpAnyIn_ready (rs := [5]) (by kernel_rfl) (by simp) ?_
              refine AllReadyIn.cons rfl (fun K hK => ?_) AllReadyIn.nil
              try simp only [zA, zB, zC]
              go_simp
              refine hK _ _ ?_
              clear hK K
              try simp only [zA, zB, zC, Act.put, zD, zE, zF]
              refine wpAnyIn_ready (rs := [6]) (by kernel_rfl) (by simp) ?_
              refine AllReadyIn.cons rfl (fun K hK => ?_) AllReadyIn.nil
              try simp only [zA, zB, zC]
              go_simp
              refine ⟨trivial, ?_⟩
              gi_at_call 53
              refine (callsIn_wide.2 (HMT.out W1 HI1.out.1 y HY.out)).mono ?_
              rintro e w5 ⟨rfl, hb⟩
              rw [show inB5 xs y bd = true from inB5_of HR.out HY.out HBD.out, if_pos rfl, ← HME.out]
              have HI5 := Lib.hid (HI1.out.on hb)
              have HKO5 := Lib.hid (HKO.out.trans (others_below hb))
              have HKA5 := Lib.hid (HKA.out.trans (KeptAt.of_below hb (by have := HI1.out.1.size; omega)))
              clear hb hc0 hc1 hc2 hc3 hy0 hy1
              obtain ⟨hy0, hy1⟩ := HI5.out.at (z := z) (by omega)
              try dsimp only
              refine hK _ _ ?_
              clear hK K
              try simp only [zA, zB, zC, Act.put, zD, zE, zF]
              refine wpAnyIn_take (i := 7) (v := .tuple #[.int .i64 mv, .bool true]) rfl rfl (by kernel_rfl) (by kernel_rfl) (by kernel_rfl) (fun _ _ _ h => h) ⟨Or.inl ⟨by rfl, fun W => ?_⟩, fun _ => rfl⟩ ?_
              · (go_simp <;> with_reducible rfl)
              try simp only [zA, zB, zC, Act.put, zD, zE, zF]
              refine wpAnyIn_take (i := 8) (v := .int .i64 mv) rfl rfl (by kernel_rfl) (by kernel_rfl) (by kernel_rfl) (fun _ _ _ h => h) ⟨Or.inl ⟨by rfl, fun W => ?_⟩, fun _ => rfl⟩ ?_
              · (go_simp <;> with_reducible rfl)
              try simp only [zA, zB, zC, Act.put, zD, zE, zF]
              refine wpAnyIn_take (i := 9) (v := .bool true) rfl rfl (by kernel_rfl) (by kernel_rfl) (by kernel_rfl) (fun _ _ _ h => h) ⟨Or.inl ⟨by rfl, fun W => ?_⟩, fun _ => rfl⟩ ?_
              · (go_simp <;> with_reducible rfl)
              try simp only [zA, zB, zC, Act.put, zD, zE, zF]
              refine wpAnyIn_take (i := 10) (v := .pointer (some ⟨w.heap.size + 1, z, none⟩)) rfl rfl (by kernel_rfl) (by kernel_rfl) (by kernel_rfl) (fun _ _ _ h => h) ⟨Or.inl ⟨by rfl, fun W => ?_⟩, fun _ => rfl⟩ ?_
              · (go_simp <;> with_reducible rfl)
              try simp only [zA, zB, zC, Act.put, zD, zE, zF]
              refine wpAnyIn_ready (rs := [11]) (by kernel_rfl) (by simp) ?_
              refine AllReadyIn.cons rfl (fun K hK => ?_) AllReadyIn.nil
              try simp only [zA, zB, zC]
              go_simp
              refine hK _ _ ?_
              clear hK K
              try simp only [zA, zB, zC, Act.put, zD, zE, zF]
              refine wpAnyIn_done (by kernel_rfl) ?_ _
              gi_wp2
              exact ⟨HKO5.out.trans (KeepsOthers.setCell _ _ _), HKA5.out.trans (KeptAt.setCell _ _ _ (by show w.heap.size + 1 ≠ tzG; omega)), (by have h := HI5.out.set z mv; rw [← HNX.out] at h; exact h)⟩
            refine AllReadyIn.cons rfl (fun K hK => ?_) ?_
            · try simp only [zA, zB, zC]
              go_simp
              refine hK _ _ ?_
              clear hK K
              try simp only [zA, zB, zC, Act.put, zD, zE, zF]
              refine wpAnyIn_ready (rs := [4]) (by kernel_rfl) (by simp) ?_
              refine AllReadyIn.cons rfl (fun K hK => ?_) AllReadyIn.nil
              try simp only [zA, zB, zC]
              go_simp
              refine hK _ _ ?_
              clear hK K
              try simp only [zA, zB, zC, Act.put, zD, zE, zF]
              refine wpAnyIn_ready (rs := [6]) (by kernel_rfl) (by simp) ?_
              refine AllReadyIn.cons rfl (fun K hK => ?_) AllReadyIn.nil
              try simp only [zA, zB, zC]
              go_simp
              refine ⟨trivial, ?_⟩
              gi_at_call 53
              refine (callsIn_wide.2 (HMT.out W1 HI1.out.1 y HY.out)).mono ?_
              rintro e w5 ⟨rfl, hb⟩
              rw [show inB5 xs y bd = true from inB5_of HR.out HY.out HBD.out, if_pos rfl, ← HME.out]
              have HI5 := Lib.hid (HI1.out.on hb)
              have HKO5 := Lib.hid (HKO.out.trans (others_below hb))
              have HKA5 := Lib.hid (HKA.out.trans (KeptAt.of_below hb (by have := HI1.out.1.size; omega)))
              clear hb hc0 hc1 hc2 hc3 hy0 hy1
              obtain ⟨hy0, hy1⟩ := HI5.out.at (z := z) (by omega)
              try dsimp only
              refine hK _ _ ?_
              clear hK K
              try simp only [zA, zB, zC, Act.put, zD, zE, zF]
              refine wpAnyIn_take (i := 7) (v := .tuple #[.int .i64 mv, .bool true]) rfl rfl (by kernel_rfl) (by kernel_rfl) (by kernel_rfl) (fun _ _ _ h => h) ⟨Or.inl ⟨by rfl, fun W => ?_⟩, fun _ => rfl⟩ ?_
              · (go_simp <;> with_reducible rfl)
              try simp only [zA, zB, zC, Act.put, zD, zE, zF]
              refine wpAnyIn_take (i := 8) (v := .int .i64 mv) rfl rfl (by kernel_rfl) (by kernel_rfl) (by kernel_rfl) (fun _ _ _ h => h) ⟨Or.inl ⟨by rfl, fun W => ?_⟩, fun _ => rfl⟩ ?_
              · (go_simp <;> with_reducible rfl)
              try simp only [zA, zB, zC, Act.put, zD, zE, zF]
              refine wpAnyIn_take (i := 9) (v := .bool true) rfl rfl (by kernel_rfl) (by kernel_rfl) (by kernel_rfl) (fun _ _ _ h => h) ⟨Or.inl ⟨by rfl, fun W => ?_⟩, fun _ => rfl⟩ ?_
              · (go_simp <;> with_reducible rfl)
              try simp only [zA, zB, zC, Act.put, zD, zE, zF]
              refine wpAnyIn_take (i := 10) (v := .pointer (some ⟨w.heap.size + 1, z, none⟩)) rfl rfl (by kernel_rfl) (by kernel_rfl) (by kernel_rfl) (fun _ _ _ h => h) ⟨Or.inl ⟨by rfl, fun W => ?_⟩, fun _ => rfl⟩ ?_
              · (go_simp <;> with_reducible rfl)
              try simp only [zA, zB, zC, Act.put, zD, zE, zF]
              refine wpAnyIn_ready (rs := [11]) (by kernel_rfl) (by simp) ?_
              refine AllReadyIn.cons rfl (fun K hK => ?_) AllReadyIn.nil
              try simp only [zA, zB, zC]
              go_simp
              refine hK _ _ ?_
              clear hK K
              try simp only [zA, zB, zC, Act.put, zD, zE, zF]
              refine wpAnyIn_done (by kernel_rfl) ?_ _
              gi_wp2
              exact ⟨HKO5.out.trans (KeepsOthers.setCell _ _ _), HKA5.out.trans (KeptAt.setCell _ _ _ (by show w.heap.size + 1 ≠ tzG; omega)), (by have h := HI5.out.set z mv; rw [← HNX.out] at h; exact h)⟩
            exact AllReadyIn.nil
          refine AllReadyIn.cons rfl (fun K hK => ?_) ?_
          · try simp only [zA, zB, zC]
            go_simp
            refine hK _ _ ?_
            clear hK K
            try simp only [zA, zB, zC, Act.put, zD, zE, zF]
            refine wpAnyIn_ready (rs := [1, 5]) (by kernel_rfl) (by simp) ?_
            refine AllReadyIn.cons rfl (fun K hK => ?_) ?_
            · try simp only [zA, zB, zC]
              go_simp
              refine hK _ _ ?_
              clear hK K
              try simp only [zA, zB, zC, Act.put, zD, zE, zF]
              refine wpAnyIn_ready (rs := [5]) (by kernel_rfl) (by simp) ?_
              refine AllReadyIn.cons rfl (fun K hK => ?_) AllReadyIn.nil
              try simp only [zA, zB, zC]
              go_simp
              refine hK _ _ ?_
              clear hK K
              try simp only [zA, zB, zC, Act.put, zD, zE, zF]
              refine wpAnyIn_ready (rs := [6]) (by kernel_rfl) (by simp) ?_
              refine AllReadyIn.cons rfl (fun K hK => ?_) AllReadyIn.nil
              try simp only [zA, zB, zC]
              go_simp
              refine ⟨trivial, ?_⟩
              gi_at_call 53
              refine (callsIn_wide.2 (HMT.out W1 HI1.out.1 y HY.out)).mono ?_
              rintro e w5 ⟨rfl, hb⟩
              rw [show inB5 xs y bd = true from inB5_of HR.out HY.out HBD.out, if_pos rfl, ← HME.out]
              have HI5 := Lib.hid (HI1.out.on hb)
              have HKO5 := Lib.hid (HKO.out.trans (others_below hb))
              have HKA5 := Lib.hid (HKA.out.trans (KeptAt.of_below hb (by have := HI1.out.1.size; omega)))
              clear hb hc0 hc1 hc2 hc3 hy0 hy1
              obtain ⟨hy0, hy1⟩ := HI5.out.at (z := z) (by omega)
              try dsimp only
              refine hK _ _ ?_
              clear hK K
              try simp only [zA, zB, zC, Act.put, zD, zE, zF]
              refine wpAnyIn_take (i := 7) (v := .tuple #[.int .i64 mv, .bool true]) rfl rfl (by kernel_rfl) (by kernel_rfl) (by kernel_rfl) (fun _ _ _ h => h) ⟨Or.inl ⟨by rfl, fun W => ?_⟩, fun _ => rfl⟩ ?_
              · (go_simp <;> with_reducible rfl)
              try simp only [zA, zB, zC, Act.put, zD, zE, zF]
              refine wpAnyIn_take (i := 8) (v := .int .i64 mv) rfl rfl (by kernel_rfl) (by kernel_rfl) (by kernel_rfl) (fun _ _ _ h => h) ⟨Or.inl ⟨by rfl, fun W => ?_⟩, fun _ => rfl⟩ ?_
              · (go_simp <;> with_reducible rfl)
              try simp only [zA, zB, zC, Act.put, zD, zE, zF]
              refine wpAnyIn_take (i := 9) (v := .bool true) rfl rfl (by kernel_rfl) (by kernel_rfl) (by kernel_rfl) (fun _ _ _ h => h) ⟨Or.inl ⟨by rfl, fun W => ?_⟩, fun _ => rfl⟩ ?_
              · (go_simp <;> with_reducible rfl)
              try simp only [zA, zB, zC, Act.put, zD, zE, zF]
              refine wpAnyIn_take (i := 10) (v := .pointer (some ⟨w.heap.size + 1, z, none⟩)) rfl rfl (by kernel_rfl) (by kernel_rfl) (by kernel_rfl) (fun _ _ _ h => h) ⟨Or.inl ⟨by rfl, fun W => ?_⟩, fun _ => rfl⟩ ?_
              · (go_simp <;> with_reducible rfl)
              try simp only [zA, zB, zC, Act.put, zD, zE, zF]
              refine wpAnyIn_ready (rs := [11]) (by kernel_rfl) (by simp) ?_
              refine AllReadyIn.cons rfl (fun K hK => ?_) AllReadyIn.nil
              try simp only [zA, zB, zC]
              go_simp
              refine hK _ _ ?_
              clear hK K
              try simp only [zA, zB, zC, Act.put, zD, zE, zF]
              refine wpAnyIn_done (by kernel_rfl) ?_ _
              gi_wp2
              exact ⟨HKO5.out.trans (KeepsOthers.setCell _ _ _), HKA5.out.trans (KeptAt.setCell _ _ _ (by show w.heap.size + 1 ≠ tzG; omega)), (by have h := HI5.out.set z mv; rw [← HNX.out] at h; exact h)⟩
            refine AllReadyIn.cons rfl (fun K hK => ?_) ?_
            · try simp only [zA, zB, zC]
              go_simp
              refine hK _ _ ?_
              clear hK K
              try simp only [zA, zB, zC, Act.put, zD, zE, zF]
              refine wpAnyIn_ready (rs := [1]) (by kernel_rfl) (by simp) ?_
              refine AllReadyIn.cons rfl (fun K hK => ?_) AllReadyIn.nil
              try simp only [zA, zB, zC]
              go_simp
              refine hK _ _ ?_
              clear hK K
              try simp only [zA, zB, zC, Act.put, zD, zE, zF]
              refine wpAnyIn_ready (rs := [6]) (by kernel_rfl) (by simp) ?_
              refine AllReadyIn.cons rfl (fun K hK => ?_) AllReadyIn.nil
              try simp only [zA, zB, zC]
              go_simp
              refine ⟨trivial, ?_⟩
              gi_at_call 53
              refine (callsIn_wide.2 (HMT.out W1 HI1.out.1 y HY.out)).mono ?_
              rintro e w5 ⟨rfl, hb⟩
              rw [show inB5 xs y bd = true from inB5_of HR.out HY.out HBD.out, if_pos rfl, ← HME.out]
              have HI5 := Lib.hid (HI1.out.on hb)
              have HKO5 := Lib.hid (HKO.out.trans (others_below hb))
              have HKA5 := Lib.hid (HKA.out.trans (KeptAt.of_below hb (by have := HI1.out.1.size; omega)))
              clear hb hc0 hc1 hc2 hc3 hy0 hy1
              obtain ⟨hy0, hy1⟩ := HI5.out.at (z := z) (by omega)
              try dsimp only
              refine hK _ _ ?_
              clear hK K
              try simp only [zA, zB, zC, Act.put, zD, zE, zF]
              refine wpAnyIn_take (i := 7) (v := .tuple #[.int .i64 mv, .bool true]) rfl rfl (by kernel_rfl) (by kernel_rfl) (by kernel_rfl) (fun _ _ _ h => h) ⟨Or.inl ⟨by rfl, fun W => ?_⟩, fun _ => rfl⟩ ?_
              · (go_simp <;> with_reducible rfl)
              try simp only [zA, zB, zC, Act.put, zD, zE, zF]
              refine wpAnyIn_take (i := 8) (v := .int .i64 mv) rfl rfl (by kernel_rfl) (by kernel_rfl) (by kernel_rfl) (fun _ _ _ h => h) ⟨Or.inl ⟨by rfl, fun W => ?_⟩, fun _ => rfl⟩ ?_
              · (go_simp <;> with_reducible rfl)
              try simp only [zA, zB, zC, Act.put, zD, zE, zF]
              refine wpAnyIn_take (i := 9) (v := .bool true) rfl rfl (by kernel_rfl) (by kernel_rfl) (by kernel_rfl) (fun _ _ _ h => h) ⟨Or.inl ⟨by rfl, fun W => ?_⟩, fun _ => rfl⟩ ?_
              · (go_simp <;> with_reducible rfl)
              try simp only [zA, zB, zC, Act.put, zD, zE, zF]
              refine wpAnyIn_take (i := 10) (v := .pointer (some ⟨w.heap.size + 1, z, none⟩)) rfl rfl (by kernel_rfl) (by kernel_rfl) (by kernel_rfl) (fun _ _ _ h => h) ⟨Or.inl ⟨by rfl, fun W => ?_⟩, fun _ => rfl⟩ ?_
              · (go_simp <;> with_reducible rfl)
              try simp only [zA, zB, zC, Act.put, zD, zE, zF]
              refine wpAnyIn_ready (rs := [11]) (by kernel_rfl) (by simp) ?_
              refine AllReadyIn.cons rfl (fun K hK => ?_) AllReadyIn.nil
              try simp only [zA, zB, zC]
              go_simp
              refine hK _ _ ?_
              clear hK K
              try simp only [zA, zB, zC, Act.put, zD, zE, zF]
              refine wpAnyIn_done (by kernel_rfl) ?_ _
              gi_wp2
              exact ⟨HKO5.out.trans (KeepsOthers.setCell _ _ _), HKA5.out.trans (KeptAt.setCell _ _ _ (by show w.heap.size + 1 ≠ tzG; omega)), (by have h := HI5.out.set z mv; rw [← HNX.out] at h; exact h)⟩
            exact AllReadyIn.nil
          refine AllReadyIn.cons rfl (fun K hK => ?_) ?_
          · try simp only [zA, zB, zC]
            go_simp
            refine hK _ _ ?_
            clear hK K
            try simp only [zA, zB, zC, Act.put, zD, zE, zF]
            refine wpAnyIn_ready (rs := [1, 4]) (by kernel_rfl) (by simp) ?_
            refine AllReadyIn.cons rfl (fun K hK => ?_) ?_
            · try simp only [zA, zB, zC]
              go_simp
              refine hK _ _ ?_
              clear hK K
              try simp only [zA, zB, zC, Act.put, zD, zE, zF]
              refine wpAnyIn_ready (rs := [4]) (by kernel_rfl) (by simp) ?_
              refine AllReadyIn.cons rfl (fun K hK => ?_) AllReadyIn.nil
              try simp only [zA, zB, zC]
              go_simp
              refine hK _ _ ?_
              clear hK K
              try simp only [zA, zB, zC, Act.put, zD, zE, zF]
              refine wpAnyIn_ready (rs := [6]) (by kernel_rfl) (by simp) ?_
              refine AllReadyIn.cons rfl (fun K hK => ?_) AllReadyIn.nil
              try simp only [zA, zB, zC]
              go_simp
              refine ⟨trivial, ?_⟩
              gi_at_call 53
              refine (callsIn_wide.2 (HMT.out W1 HI1.out.1 y HY.out)).mono ?_
              rintro e w5 ⟨rfl, hb⟩
              rw [show inB5 xs y bd = true from inB5_of HR.out HY.out HBD.out, if_pos rfl, ← HME.out]
              have HI5 := Lib.hid (HI1.out.on hb)
              have HKO5 := Lib.hid (HKO.out.trans (others_below hb))
              have HKA5 := Lib.hid (HKA.out.trans (KeptAt.of_below hb (by have := HI1.out.1.size; omega)))
              clear hb hc0 hc1 hc2 hc3 hy0 hy1
              obtain ⟨hy0, hy1⟩ := HI5.out.at (z := z) (by omega)
              try dsimp only
              refine hK _ _ ?_
              clear hK K
              try simp only [zA, zB, zC, Act.put, zD, zE, zF]
              refine wpAnyIn_take (i := 7) (v := .tuple #[.int .i64 mv, .bool true]) rfl rfl (by kernel_rfl) (by kernel_rfl) (by kernel_rfl) (fun _ _ _ h => h) ⟨Or.inl ⟨by rfl, fun W => ?_⟩, fun _ => rfl⟩ ?_
              · (go_simp <;> with_reducible rfl)
              try simp only [zA, zB, zC, Act.put, zD, zE, zF]
              refine wpAnyIn_take (i := 8) (v := .int .i64 mv) rfl rfl (by kernel_rfl) (by kernel_rfl) (by kernel_rfl) (fun _ _ _ h => h) ⟨Or.inl ⟨by rfl, fun W => ?_⟩, fun _ => rfl⟩ ?_
              · (go_simp <;> with_reducible rfl)
              try simp only [zA, zB, zC, Act.put, zD, zE, zF]
              refine wpAnyIn_take (i := 9) (v := .bool true) rfl rfl (by kernel_rfl) (by kernel_rfl) (by kernel_rfl) (fun _ _ _ h => h) ⟨Or.inl ⟨by rfl, fun W => ?_⟩, fun _ => rfl⟩ ?_
              · (go_simp <;> with_reducible rfl)
              try simp only [zA, zB, zC, Act.put, zD, zE, zF]
              refine wpAnyIn_take (i := 10) (v := .pointer (some ⟨w.heap.size + 1, z, none⟩)) rfl rfl (by kernel_rfl) (by kernel_rfl) (by kernel_rfl) (fun _ _ _ h => h) ⟨Or.inl ⟨by rfl, fun W => ?_⟩, fun _ => rfl⟩ ?_
              · (go_simp <;> with_reducible rfl)
              try simp only [zA, zB, zC, Act.put, zD, zE, zF]
              refine wpAnyIn_ready (rs := [11]) (by kernel_rfl) (by simp) ?_
              refine AllReadyIn.cons rfl (fun K hK => ?_) AllReadyIn.nil
              try simp only [zA, zB, zC]
              go_simp
              refine hK _ _ ?_
              clear hK K
              try simp only [zA, zB, zC, Act.put, zD, zE, zF]
              refine wpAnyIn_done (by kernel_rfl) ?_ _
              gi_wp2
              exact ⟨HKO5.out.trans (KeepsOthers.setCell _ _ _), HKA5.out.trans (KeptAt.setCell _ _ _ (by show w.heap.size + 1 ≠ tzG; omega)), (by have h := HI5.out.set z mv; rw [← HNX.out] at h; exact h)⟩
            refine AllReadyIn.cons rfl (fun K hK => ?_) ?_
            · try simp only [zA, zB, zC]
              go_simp
              refine hK _ _ ?_
              clear hK K
              try simp only [zA, zB, zC, Act.put, zD, zE, zF]
              refine wpAnyIn_ready (rs := [1]) (by kernel_rfl) (by simp) ?_
              refine AllReadyIn.cons rfl (fun K hK => ?_) AllReadyIn.nil
              try simp only [zA, zB, zC]
              go_simp
              refine hK _ _ ?_
              clear hK K
              try simp only [zA, zB, zC, Act.put, zD, zE, zF]
              refine wpAnyIn_ready (rs := [6]) (by kernel_rfl) (by simp) ?_
              refine AllReadyIn.cons rfl (fun K hK => ?_) AllReadyIn.nil
              try simp only [zA, zB, zC]
              go_simp
              refine ⟨trivial, ?_⟩
              gi_at_call 53
              refine (callsIn_wide.2 (HMT.out W1 HI1.out.1 y HY.out)).mono ?_
              rintro e w5 ⟨rfl, hb⟩
              rw [show inB5 xs y bd = true from inB5_of HR.out HY.out HBD.out, if_pos rfl, ← HME.out]
              have HI5 := Lib.hid (HI1.out.on hb)
              have HKO5 := Lib.hid (HKO.out.trans (others_below hb))
              have HKA5 := Lib.hid (HKA.out.trans (KeptAt.of_below hb (by have := HI1.out.1.size; omega)))
              clear hb hc0 hc1 hc2 hc3 hy0 hy1
              obtain ⟨hy0, hy1⟩ := HI5.out.at (z := z) (by omega)
              try dsimp only
              refine hK _ _ ?_
              clear hK K
              try simp only [zA, zB, zC, Act.put, zD, zE, zF]
              refine wpAnyIn_take (i := 7) (v := .tuple #[.int .i64 mv, .bool true]) rfl rfl (by kernel_rfl) (by kernel_rfl) (by kernel_rfl) (fun _ _ _ h => h) ⟨Or.inl ⟨by rfl, fun W => ?_⟩, fun _ => rfl⟩ ?_
              · (go_simp <;> with_reducible rfl)
              try simp only [zA, zB, zC, Act.put, zD, zE, zF]
              refine wpAnyIn_take (i := 8) (v := .int .i64 mv) rfl rfl (by kernel_rfl) (by kernel_rfl) (by kernel_rfl) (fun _ _ _ h => h) ⟨Or.inl ⟨by rfl, fun W => ?_⟩, fun _ => rfl⟩ ?_
              · (go_simp <;> with_reducible rfl)
              try simp only [zA, zB, zC, Act.put, zD, zE, zF]
              refine wpAnyIn_take (i := 9) (v := .bool true) rfl rfl (by kernel_rfl) (by kernel_rfl) (by kernel_rfl) (fun _ _ _ h => h) ⟨Or.inl ⟨by rfl, fun W => ?_⟩, fun _ => rfl⟩ ?_
              · (go_simp <;> with_reducible rfl)
              try simp only [zA, zB, zC, Act.put, zD, zE, zF]
              refine wpAnyIn_take (i := 10) (v := .pointer (some ⟨w.heap.size + 1, z, none⟩)) rfl rfl (by kernel_rfl) (by kernel_rfl) (by kernel_rfl) (fun _ _ _ h => h) ⟨Or.inl ⟨by rfl, fun W => ?_⟩, fun _ => rfl⟩ ?_
              · (go_simp <;> with_reducible rfl)
              try simp only [zA, zB, zC, Act.put, zD, zE, zF]
              refine wpAnyIn_ready (rs := [11]) (by kernel_rfl) (by simp) ?_
              refine AllReadyIn.cons rfl (fun K hK => ?_) AllReadyIn.nil
              try simp only [zA, zB, zC]
              go_simp
              refine hK _ _ ?_
              clear hK K
              try simp only [zA, zB, zC, Act.put, zD, zE, zF]
              refine wpAnyIn_done (by kernel_rfl) ?_ _
              gi_wp2
              exact ⟨HKO5.out.trans (KeepsOthers.setCell _ _ _), HKA5.out.trans (KeptAt.setCell _ _ _ (by show w.heap.size + 1 ≠ tzG; omega)), (by have h := HI5.out.set z mv; rw [← HNX.out] at h; exact h)⟩
            exact AllReadyIn.nil
          exact AllReadyIn.nil
        case done =>
          rintro D ys W hD hys hI hK
          rw [hys] at hI
          obtain ⟨d0, d1, d2, d3, d4, d5, d6, eL⟩ := seven ((capF_len (xs := xs) (bd := bd) (MM.bitsOf m)).trans h7)
          rw [eL] at hI
          have HRE := Lib.hid (show capRet (capB xs cs a m bd) (capF xs bd cs (MM.bitsOf m)) = .tuple #[.agg #[.int .i64 d0, .int .i64 d1, .int .i64 d2, .int .i64 d3, .int .i64 d4, .int .i64 d5, .int .i64 d6], .bool true] by rw [HCV.out, eL]; rfl)
          have HI := Lib.hid hI
          have HKD := Lib.hid hK
          have HD := Lib.hid hD
          clear hys hI hK eL hD
          obtain ⟨⟨_, _, _, _, _, _, _⟩, _, _, _, _, _, _, _⟩ := one7 HI.out.2.2.2.1
          obtain ⟨⟨_, _, _, _, _, _, _⟩, _, _, _, _, _, _, _⟩ := one7 HI.out.2.2.2.2.2.2
          gi_wp2
          have hs := set7_obj HI.out.2.2.2.2.2.2 (.int .i64 d0) (.int .i64 d1) (.int .i64 d2) (.int .i64 d3) (.int .i64 d4) (.int .i64 d5) (.int .i64 d6)
          have HF := Lib.hid (set7_below HI.out.1 (show w.heap.size ≤ w.heap.size + 1 + 1 + 1 + 1 by omega) (.int .i64 d0) (.int .i64 d1) (.int .i64 d2) (.int .i64 d3) (.int .i64 d4) (.int .i64 d5) (.int .i64 d6))
          have hK10 := (set7_others W (w.heap.size + 1 + 1 + 1 + 1) (.int .i64 d0) (.int .i64 d1) (.int .i64 d2) (.int .i64 d3) (.int .i64 d4) (.int .i64 d5) (.int .i64 d6)).same D _ HKD.out rfl
          unfold set7 at hs HF hK10
          generalize ((((((W.setCell ⟨w.heap.size + 1 + 1 + 1 + 1, 0, none⟩ (.int .i64 d0)).setCell ⟨w.heap.size + 1 + 1 + 1 + 1, 1, none⟩ (.int .i64 d1)).setCell ⟨w.heap.size + 1 + 1 + 1 + 1, 2, none⟩ (.int .i64 d2)).setCell ⟨w.heap.size + 1 + 1 + 1 + 1, 3, none⟩ (.int .i64 d3)).setCell ⟨w.heap.size + 1 + 1 + 1 + 1, 4, none⟩ (.int .i64 d4)).setCell ⟨w.heap.size + 1 + 1 + 1 + 1, 5, none⟩ (.int .i64 d5)).setCell ⟨w.heap.size + 1 + 1 + 1 + 1, 6, none⟩ (.int .i64 d6) = w10 at hs HF hK10 ⊢
          obtain ⟨⟨q0, q1, q2, q3, q4, q5, q6⟩, _⟩ := one7 hs
          have p0 := cell_kept q0 (grownBy_putObj' _ D (.deferred none)) (fun r e => (by cases e; exact ⟨_, hK10, rfl⟩))
          have p1 := cell_kept q1 (grownBy_putObj' _ D (.deferred none)) (fun r e => (by cases e; exact ⟨_, hK10, rfl⟩))
          have p2 := cell_kept q2 (grownBy_putObj' _ D (.deferred none)) (fun r e => (by cases e; exact ⟨_, hK10, rfl⟩))
          have p3 := cell_kept q3 (grownBy_putObj' _ D (.deferred none)) (fun r e => (by cases e; exact ⟨_, hK10, rfl⟩))
          have p4 := cell_kept q4 (grownBy_putObj' _ D (.deferred none)) (fun r e => (by cases e; exact ⟨_, hK10, rfl⟩))
          have p5 := cell_kept q5 (grownBy_putObj' _ D (.deferred none)) (fun r e => (by cases e; exact ⟨_, hK10, rfl⟩))
          have p6 := cell_kept q6 (grownBy_putObj' _ D (.deferred none)) (fun r e => (by cases e; exact ⟨_, hK10, rfl⟩))
          refine ⟨by simp, .inl ⟨_, _, rfl, run_takeDeferred hK10, ?_⟩⟩
          refine ⟨.tuple #[.agg #[.int .i64 d0, .int .i64 d1, .int .i64 d2, .int .i64 d3, .int .i64 d4, .int .i64 d5, .int .i64 d6], .bool true], ?_, by rw [HRE.out], HF.out.trans (belowK_b (w := w) (Nat.le_refl _) _ D _ _ (by have := HD.out; omega) hK10 rfl rfl)⟩
          simp [results, Tryd.f29, go_sem, p0, p1, p2, p3, p4, p5, p6]
        case stop =>
          rintro D c pre W _ _ h _
          exact h.elim
end Go.Proofs.YtodhoplchficpaaDoor
