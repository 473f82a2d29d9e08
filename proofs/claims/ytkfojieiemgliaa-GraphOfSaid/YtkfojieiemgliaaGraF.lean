import Derived.Test.YtkfojieiemgliaaGraZ
import Derived.Test.YtkfojieiemgliaaGraD
set_option linter.unusedSimpArgs false
set_option linter.unusedVariables false
/-! graphs: the blocks of a function -/
namespace Go.Proofs.Ytkfojieiemgliaa
open Go.RowKit
/-- an instruction as it lies in memory -/
structure OpV where
  (k o d r a : Int) (xa : Option Addr) (xl xc : Nat) (ya : Option Addr) (yl yc : Nat) (n t : Int)
def opCells (v : OpV) : List Value := [.int .u8 v.k, .int .u8 v.o, .int .i64 v.d, .int .i64 v.r, .int .i64 v.a, .slice v.xa v.xl v.xc, .slice v.ya v.yl v.yc, .int .i64 v.n, .int .i64 v.t]
def Ops (n₀ : Nat) (W : World) (v : Value) (b : List OpV) : Prop :=
  ((∃ a cap, v = .slice a 0 cap) ∧ b = []) ∨ ∃ blk off cap, v = .slice (some ⟨blk, off, none⟩) b.length cap ∧ blk < n₀ ∧ ∀ j x, b[j]? = some x → ∀ c u, (opCells x)[c]? = some u → W.cell? ⟨blk, off + j * 9 + c, none⟩ = some u
theorem Ops.below {n₀ : Nat} {A B : World} (h : Below n₀ A B) {v : Value} {b : List OpV} : Ops n₀ A v b → Ops n₀ B v b
  | .inl e => .inl e
  | .inr ⟨blk, off, cap, e, hb, hc⟩ => .inr ⟨blk, off, cap, e, hb, fun j x hj c u hu => (h.cell (p := ⟨blk, off + j * 9 + c, none⟩) hb).trans (hc j x hj c u hu)⟩
theorem Ops.mono {n n' : Nat} (h : n ≤ n') {A : World} {v : Value} {b : List OpV} : Ops n A v b → Ops n' A v b
  | .inl e => .inl e
  | .inr ⟨blk, off, cap, e, hb, hc⟩ => .inr ⟨blk, off, cap, e, by omega, hc⟩
theorem Ops.form {n₀ : Nat} {A : World} {v : Value} {b : List OpV} (h : Ops n₀ A v b) : ∃ a cap, v = .slice a b.length cap := by
  rcases h with ⟨⟨_, _, rfl⟩, rfl⟩ | ⟨blk, off, cap, rfl, _⟩
  · exact ⟨_, _, rfl⟩
  · exact ⟨_, _, rfl⟩
/-- the last one -/
theorem Ops.last {n₀ : Nat} {W : World} {v : Value} {b : List OpV} {p : Nat} (h : Ops n₀ W v b) (hp : b.length = p + 1) :
    ∃ blk off cap x, v = .slice (some ⟨blk, off, none⟩) (p + 1) cap ∧ blk < n₀ ∧ b.getLast? = some x ∧ ∀ c u, (opCells x)[c]? = some u → W.cell? ⟨blk, off + p * 9 + c, none⟩ = some u := by
  rcases h with ⟨_, rfl⟩ | ⟨blk, off, cap, rfl, hb, hc⟩
  · simp at hp
  · have hx : b[p]? = some b[p] := List.getElem?_eq_getElem (by omega)
    have hll : b.getLast? = some b[p] := by
      rw [List.getLast?_eq_getElem?, show b.length - 1 = p by omega]
      exact hx
    exact ⟨blk, off, cap, b[p], by rw [hp], hb, hll, hc p _ hx⟩
def BlocksM (n₀ : Nat) (W : World) (v : Value) (bs : List (List OpV)) : Prop :=
  ∃ vs, Cells n₀ W v vs ∧ vs.length = bs.length ∧ ∀ j, j < bs.length → ∃ r, vs[j]? = some r ∧ Ops n₀ W r (bs[j]?.getD [])
theorem BlocksM.below {n₀ : Nat} {A B : World} (h : Below n₀ A B) {v : Value} {bs : List (List OpV)} : BlocksM n₀ A v bs → BlocksM n₀ B v bs
  | ⟨vs, h1, h2, h3⟩ => ⟨vs, h1.below h, h2, fun j hj => by obtain ⟨r, e, g⟩ := h3 j hj; exact ⟨r, e, g.below h⟩⟩
theorem BlocksM.mono {n n' : Nat} (h : n ≤ n') {A : World} {v : Value} {bs : List (List OpV)} : BlocksM n A v bs → BlocksM n' A v bs
  | ⟨vs, h1, h2, h3⟩ => ⟨vs, h1.mono h, h2, fun j hj => by obtain ⟨r, e, g⟩ := h3 j hj; exact ⟨r, e, g.mono h⟩⟩
theorem BlocksM.on {n : Nat} {W W' : World} {v : Value} {bs : List (List OpV)} (h : BlocksM n W v bs) (hb : Below n W W') (hn : n ≤ W'.heap.size) : BlocksM W'.heap.size W' v bs := (h.below hb).mono hn
theorem BlocksM.form {n₀ : Nat} {A : World} {v : Value} {bs : List (List OpV)} (h : BlocksM n₀ A v bs) : ∃ a cap, v = .slice a bs.length cap := by
  obtain ⟨vs, h1, h2, _⟩ := h
  obtain ⟨a, cap, rfl⟩ := h1.form
  exact ⟨a, cap, by rw [h2]⟩
theorem BlocksM.at {n₀ : Nat} {W : World} {a : Option Addr} {n cap : Nat} {bs : List (List OpV)} (h : BlocksM n₀ W (.slice a n cap) bs) {j : Nat} (hj : j < bs.length) :
    ∃ b off a' cap', a = some ⟨b, off, none⟩ ∧ b < n₀ ∧ W.cell? ⟨b, off + j, none⟩ = some (.slice a' (bs[j]?.getD []).length cap') ∧ Ops n₀ W (.slice a' (bs[j]?.getD []).length cap') (bs[j]?.getD []) := by
  obtain ⟨vs, h1, h2, h3⟩ := h
  obtain ⟨b', off', cap', e, hb, hc⟩ := h1.at (by omega)
  cases e
  obtain ⟨r, e, g⟩ := h3 j hj
  obtain ⟨a', c', rfl⟩ := g.form
  exact ⟨b', off', a', c', rfl, hb, hc j _ e, g⟩
/-- where a block leads; none: it does not end -/
def leadsI (b : List OpV) : Option (List Int) :=
  match b.getLast? with
  | none => none
  | some x => if x.k = 13 then some [] else if x.k = 11 then some [x.r] else if x.k = 12 then (if x.r = x.a then some [x.r] else some [x.r, x.a]) else none
theorem leadsI_nil : leadsI [] = none := rfl
theorem leadsI_last {b : List OpV} {x : OpV} (h : b.getLast? = some x) : leadsI b = if x.k = 13 then some [] else if x.k = 11 then some [x.r] else if x.k = 12 then (if x.r = x.a then some [x.r] else some [x.r, x.a]) else none := by
  unfold leadsI; rw [h]
/-- the first i blocks' ways -/
def waysI (bs : List (List OpV)) (i : Nat) : List (List Int) := (bs.take i).map fun b => (leadsI b).getD []
def okI (bs : List (List OpV)) : Bool := bs.all fun b => (leadsI b).isSome
def ofB (bs : List (List OpV)) : Bool := okI bs && GG.rightG (waysI bs bs.length)
def ofL (bs : List (List OpV)) : List (List Int) := if ofB bs = true then waysI bs bs.length else []
theorem waysI_succ {bs : List (List OpV)} {i : Nat} (hi : i < bs.length) : waysI bs i ++ [(leadsI (bs[i]?.getD [])).getD []] = waysI bs (i + 1) := by
  unfold waysI
  rw [List.take_succ_eq_append_getElem hi, List.map_append, List.getElem?_eq_getElem hi]
  rfl
theorem waysI_len {bs : List (List OpV)} {i : Nat} (hi : i ≤ bs.length) : (waysI bs i).length = i := by unfold waysI; rw [List.length_map, List.length_take]; omega
theorem leads_short (b : List OpV) : ((leadsI b).getD []).length ≤ 2 := by
  unfold leadsI
  split
  · simp
  · split
    · simp
    · split
      · simp
      · split
        · split <;> simp
        · simp
theorem waysI_small {bs : List (List OpV)} {i : Nat} (hi : i ≤ bs.length) (h : bs.length ≤ 17592186044416) : Small (waysI bs i) := by
  refine ⟨by rw [waysI_len hi]; omega, fun row hr => ?_⟩
  unfold waysI at hr
  obtain ⟨b, _, rfl⟩ := List.mem_map.1 hr
  have := leads_short b
  omega
theorem okI_no {bs : List (List OpV)} {i : Nat} (hi : i < bs.length) (h : leadsI (bs[i]?.getD []) = none) : okI bs = false := by
  unfold okI
  cases hb : bs.all (fun b => (leadsI b).isSome)
  · rfl
  · rw [List.all_eq_true] at hb
    have := hb _ (GG.getD_mem (d := []) hi)
    rw [h] at this; cases this
theorem okI_yes {bs : List (List OpV)} (h : ∀ i, i < bs.length → (leadsI (bs[i]?.getD [])).isSome = true) : okI bs = true := by
  unfold okI
  rw [List.all_eq_true]
  intro b hb
  obtain ⟨i, hi, rfl⟩ := List.getElem_of_mem hb
  have := h i hi
  rwa [List.getElem?_eq_getElem hi] at this

def zop : Array Value := (opCells ⟨0, 0, 0, 0, 0, none, 0, 0, none, 0, 0, 0, 0⟩).toArray
theorem info57 : (Try.prog.info? 57).map (fun i => (i.zero, i.size)) = some (some (.agg zop), 9) := by kernel_rfl
theorem run_zero57 (w : World) : (zeroValue 57).run Try.prog w = .ok (.agg zop) w := by
  have h := info57
  cases hi : Try.prog.info? 57 with
  | none => rw [hi] at h; cases h
  | some i =>
    rw [hi] at h
    simp only [Option.map_some, Option.some.injEq, Prod.mk.injEq] at h
    simp [zeroValue, typeInfo, hi, h.1]
theorem run_load57 (w : World) (blk off : Nat) (v : OpV) (hc : ∀ c u, (opCells v)[c]? = some u → w.cell? ⟨blk, off + c, none⟩ = some u) :
    (loadVar 57 ⟨blk, off, none⟩).run Try.prog w = .ok (.agg (opCells v).toArray) w := by
  have hl : (loadCells ⟨blk, off, none⟩ 9).run Try.prog w = .ok (opCells v).toArray w :=
    run_loadCells_list (P := Try.prog) w ⟨blk, off, none⟩ (opCells v) (fun j u hu => by rw [Addr.add_lit]; exact hc j u hu)
  have hagg : (isAgg 57).run Try.prog w = .ok true w := by kernel_rfl
  have hs : (sizeOf 57).run Try.prog w = .ok 9 w := by kernel_rfl
  simp [loadVar, Sem.run_bind, hagg, hs, hl]
theorem wpList_load57 {ops : Array Oper} {rest : List Oper} {o : Oper} {a : Act} {w : World} {Q : Exit → Act → World → Prop} (hgd : o.guard = none) (x : Operand) (ho : o.op = .load 57 x)
    (blk off : Nat) (hx : a.eval x = .pointer (some ⟨blk, off, none⟩)) (v : OpV) (hc : ∀ c u, (opCells v)[c]? = some u → w.cell? ⟨blk, off + c, none⟩ = some u)
    (h : wpList Try.prog ops Q rest (a.put o.dst (.agg (opCells v).toArray)) w) : wpList Try.prog ops Q (o :: rest) a w := by
  refine wpList_plain hgd fun K hK => ?_
  unfold Oper.wp execOp
  simp only [ho, hx, Instr.loadAt, Instr.sureAddr, Sem.run_bind, Sem.run_pure, Result.andThen_ok, run_load57 w blk off v hc]
  exact hK _ _ h
theorem op_one (v : OpV) : (opCells v).toArray.all (·.oneCell') = true := by
  simp [opCells, Value.oneCell']
theorem op_cell (w : World) (v : OpV) (c : Nat) {u : Value} (h : (opCells v)[c]? = some u) : (w.alloc (.cells (opCells v).toArray 57)).cell? ⟨w.heap.size, c, none⟩ = some u := by
  simp only [World.cell?, heap_alloc_new]
  simpa using h
/-- what the project's leads hands back -/
def LeadsP (b : List OpV) (e : Ending) (W W' : World) : Prop :=
  ∃ a cap, e = .returned (.tuple #[.slice a ((leadsI b).getD []).length cap, .bool (leadsI b).isSome]) ∧ W'.ownsRow W.heap.size 3 1 (.slice a ((leadsI b).getD []).length cap) ((leadsI b).getD []).length (intsV ((leadsI b).getD [])) ∧ Below W.heap.size W W'
theorem leadsP_of {b : List OpV} {l : List Int} {s : Bool} {W W' : World} {a : Option Addr} {cap : Nat} (h : leadsI b = if s then some l else none) (hl : s = false → l = []) (ho : W'.ownsRow W.heap.size 3 1 (.slice a l.length cap) l.length (intsV l)) (hB : Below W.heap.size W W') :
    LeadsP b (.returned (.tuple #[.slice a l.length cap, .bool s])) W W' := by
  cases s
  · have := hl rfl
    subst this
    exact ⟨a, cap, by rw [h]; rfl, by rw [h]; exact ho, hB⟩
  · exact ⟨a, cap, by rw [h]; rfl, by rw [h]; exact ho, hB⟩
theorem row_own (W : World) (xs : List Int) (B : Nat) (h : B ≤ W.heap.size) (hm : xs.length ≤ maxLen) : (W.alloc (.cells (intsV xs).toArray 3)).ownsRow B 3 1 (.slice (some ⟨W.heap.size, 0, none⟩) xs.length xs.length) xs.length (intsV xs) := by
  have := World.ownsRow_lit (base := B) (e := 3) (size := 1) W (intsV xs).toArray xs.length h hm (by simp [intsV])
  simpa using this

set_option maxRecDepth 100000 in
set_option maxHeartbeats 3200000 in
theorem leadsP_any {v : Value} {b : List OpV} (W : World) (hv : Ops W.heap.size W v b) (hl : b.length ≤ 17592186044416) :
    Calls Try.prog 37 #[v] W fun e W' => LeadsP b e W W' := by
  have hz := fun (w : World) => run_zero57 w
  by_cases h0 : b.length = 0
  · obtain rfl : b = [] := List.length_eq_zero_iff.1 h0
    obtain ⟨va, vc, rfl⟩ := hv.form
    clear hv h0 hl
    go_enter Try.func37, Try.ntmps37
    go_wp2_with fail
    go_ret2
    exact leadsP_of (l := []) (s := false) rfl (fun _ => rfl) (World.ownsRow_nil _ _ _ _) (Below.refl _ _)
  · obtain ⟨p, hp⟩ : ∃ p, b.length = p + 1 := ⟨b.length - 1, by omega⟩
    obtain ⟨blk, off, cap, x, rfl, hb, hlast, hc⟩ := hv.last hp
    have HL := Lib.hid (leadsI_last hlast)
    have HC := Lib.hid hc
    have h1 := op_cell W x 0 rfl
    have h2 := op_cell W x 3 rfl
    have h3 := op_cell W x 4 rfl
    have hpb : p ≤ 17592186044416 := by omega
    clear hv hc hlast hl h0 hp
    have hsz : (W.alloc (.cells (opCells x).toArray 57)).heap.size = W.heap.size + 1 := by simp
    by_cases k13 : x.k = 13
    · have t1 : (x.k == 13) = true := beq_iff_eq.2 k13
      have HE := Lib.hid (show leadsI b = if true then some [] else none by rw [HL.out, if_pos k13]; rfl)
      clear k13 hsz
      go_enter Try.func37, Try.ntmps37
      go_wp2_with (first
        | (refine wpList_load57 rfl (.tmp 12) rfl blk (off + p * 9) rfl x (fun c u hu => HC.out c u hu) ?_)
        | (refine wpList_store_row rfl 57 (.tmp 4) (.tmp 13) rfl _ (opCells x).toArray rfl rfl 57 zop (heap_alloc_new _ _) (by kernel_rfl) rfl (op_one x) ?_
           rw [setRow_new]))
      go_ret2
      exact leadsP_of (l := []) (s := true) HE.out (fun h => by cases h) (World.ownsRow_nil _ _ _ _) ((Below.refl _ _).alloc (Nat.le_refl _) _)
    · have t1 : (x.k == 13) = false := beq_eq_false_iff_ne.2 k13
      by_cases k11 : x.k = 11
      · have t2 : (x.k == 11) = true := beq_iff_eq.2 k11
        have HE := Lib.hid (show leadsI b = if true then some [x.r] else none by rw [HL.out, if_neg k13, if_pos k11]; rfl)
        have HO := Lib.hid (row_own (W.alloc (.cells (opCells x).toArray 57)) [x.r] W.heap.size (by simp) (by unfold maxLen; simp))
        rw [hsz] at HO
        clear k13 k11 hsz
        go_enter Try.func37, Try.ntmps37
        go_wp2_with (first
          | (refine wpList_load57 rfl (.tmp 12) rfl blk (off + p * 9) rfl x (fun c u hu => HC.out c u hu) ?_)
          | (refine wpList_store_row rfl 57 (.tmp 4) (.tmp 13) rfl _ (opCells x).toArray rfl rfl 57 zop (heap_alloc_new _ _) (by kernel_rfl) rfl (op_one x) ?_
             rw [setRow_new]))
        go_ret2
        exact leadsP_of (l := [x.r]) (s := true) HE.out (fun h => by cases h) HO.out (((Below.refl _ _).alloc (Nat.le_refl _) _).alloc (by simp) _)
      · have t2 : (x.k == 11) = false := beq_eq_false_iff_ne.2 k11
        by_cases k12 : x.k = 12
        · have t3 : (x.k == 12) = true := beq_iff_eq.2 k12
          by_cases hra : x.r = x.a
          · have t4 : (x.r == x.a) = true := beq_iff_eq.2 hra
            have HE := Lib.hid (show leadsI b = if true then some [x.r] else none by rw [HL.out, if_neg k13, if_neg k11, if_pos k12, if_pos hra]; rfl)
            have HO := Lib.hid (row_own (W.alloc (.cells (opCells x).toArray 57)) [x.r] W.heap.size (by simp) (by unfold maxLen; simp))
            rw [hsz] at HO
            clear k13 k11 k12 hsz hra
            go_enter Try.func37, Try.ntmps37
            go_wp2_with (first
              | (refine wpList_load57 rfl (.tmp 12) rfl blk (off + p * 9) rfl x (fun c u hu => HC.out c u hu) ?_)
              | (refine wpList_store_row rfl 57 (.tmp 4) (.tmp 13) rfl _ (opCells x).toArray rfl rfl 57 zop (heap_alloc_new _ _) (by kernel_rfl) rfl (op_one x) ?_
                 rw [setRow_new]))
            go_ret2
            exact leadsP_of (l := [x.r]) (s := true) HE.out (fun h => by cases h) HO.out (((Below.refl _ _).alloc (Nat.le_refl _) _).alloc (by simp) _)
          · have t4 : (x.r == x.a) = false := beq_eq_false_iff_ne.2 hra
            have HE := Lib.hid (show leadsI b = if true then some [x.r, x.a] else none by rw [HL.out, if_neg k13, if_neg k11, if_pos k12, if_neg hra]; rfl)
            have HO := Lib.hid (row_own (W.alloc (.cells (opCells x).toArray 57)) [x.r, x.a] W.heap.size (by simp) (by unfold maxLen; simp))
            rw [hsz] at HO
            clear k13 k11 k12 hsz hra
            go_enter Try.func37, Try.ntmps37
            go_wp2_with (first
              | (refine wpList_load57 rfl (.tmp 12) rfl blk (off + p * 9) rfl x (fun c u hu => HC.out c u hu) ?_)
              | (refine wpList_store_row rfl 57 (.tmp 4) (.tmp 13) rfl _ (opCells x).toArray rfl rfl 57 zop (heap_alloc_new _ _) (by kernel_rfl) rfl (op_one x) ?_
                 rw [setRow_new]))
            go_ret2
            exact leadsP_of (l := [x.r, x.a]) (s := true) HE.out (fun h => by cases h) HO.out (((Below.refl _ _).alloc (Nat.le_refl _) _).alloc (by simp) _)
        · have t3 : (x.k == 12) = false := beq_eq_false_iff_ne.2 k12
          have HE := Lib.hid (show leadsI b = if false then some [] else none by rw [HL.out, if_neg k13, if_neg k11, if_neg k12]; rfl)
          clear k13 k11 k12 hsz
          go_enter Try.func37, Try.ntmps37
          go_wp2_with (first
            | (refine wpList_load57 rfl (.tmp 12) rfl blk (off + p * 9) rfl x (fun c u hu => HC.out c u hu) ?_)
            | (refine wpList_store_row rfl 57 (.tmp 4) (.tmp 13) rfl _ (opCells x).toArray rfl rfl 57 zop (heap_alloc_new _ _) (by kernel_rfl) rfl (op_one x) ?_
               rw [setRow_new]))
          go_ret2
          exact leadsP_of (l := []) (s := false) HE.out (fun _ => rfl) (World.ownsRow_nil _ _ _ _) ((Below.refl _ _).alloc (Nat.le_refl _) _)
/-- what the calls hand back -/
def OfP (bs : List (List OpV)) (e : Ending) (W W' : World) : Prop := ∃ v, e = .returned (.tuple #[v, .bool (ofB bs)]) ∧ GraphM W'.heap.size W' v (ofL bs) ∧ Below W.heap.size W W'
theorem ofB_no {bs : List (List OpV)} (h : okI bs = false) : ofB bs = false ∧ ofL bs = [] := by
  have h1 : ofB bs = false := by unfold ofB; rw [h]; rfl
  exact ⟨h1, by unfold ofL; rw [if_neg (by rw [h1]; simp)]⟩
theorem ofB_yes {bs : List (List OpV)} (h : okI bs = true) : ofB bs = GG.rightG (waysI bs bs.length) := by unfold ofB; rw [h]; rfl
theorem graphM_nil (n : Nat) (W : World) : GraphM n W (.slice none 0 0) [] := ⟨[], cells_empty _ _ _ _ (fun _ => rfl), rfl, fun j hj => absurd hj (Nat.not_lt_zero _)⟩
theorem own_em0 (v : Value) : v.ownBlock = none ∨ v.ownBlock ≠ none := Classical.em _
/-- a row that is appended to a table of rows -/
theorem rows_app {B : Nat} {W w1 w2 : World} {out v2 : Value} {vs : List Value} {to : List (List Int)} {row : List Int} {n : Nat} {a : Option Addr} {cap : Nat} {o : Obj} (hB1 : Below B W w1) (hs1 : B ≤ w1.heap.size) (hR : GG.Rows B w1 vs to) (hO : w1.ownsRow B 32 1 out n vs) (hr : w1.ownsRow B 3 1 (.slice a row.length cap) row.length (intsV row))
    (ho : w2.ownsRow B 32 1 v2 (n + 1) (vs ++ [.slice a row.length cap])) (hg : (w1.alloc o).grownBy w2 out.ownBlock) :
    w2.ownsRow B 32 1 v2 (n + 1) (vs ++ [.slice a row.length cap]) ∧ GG.Rows B w2 (vs ++ [.slice a row.length cap]) (to ++ [row]) ∧ Below B W w2 :=
  ⟨ho, ((hR.snoc hr).alloc o).kept (hO.alloc o) (by decide) hg, (hB1.alloc hs1 o).grown hg (by simp; omega) (fun k e => (hO.lt k e).1)⟩

set_option maxRecDepth 100000 in
set_option maxHeartbeats 3200000 in
theorem of_any {v : Value} {bs : List (List OpV)} (x y : Int) (W : World) (hv : BlocksM W.heap.size W v bs) (hl : bs.length ≤ 4294967296) (hll : ∀ b ∈ bs, b.length ≤ 17592186044416) :
    Calls Try.prog 27 #[.agg #[.int .i64 x, .int .i64 y, v]] W fun e W' => OfP bs e W W' := by
  obtain ⟨va, vc, rfl⟩ := hv.form
  obtain ⟨j0, hj0, hy0, hy1, hy2⟩ := info_parts Try.infoGRow
  obtain ⟨W0, eW0⟩ : ∃ W0, W0 = W.alloc (.cells #[.int .i64 x, .int .i64 y, .slice va bs.length vc] 40) := ⟨_, rfl⟩
  have HB0 := Lib.hid (show Below W.heap.size W W0 by rw [eW0]; exact (Below.refl _ _).alloc (Nat.le_refl _) _)
  have HV0 := Lib.hid (hv.on HB0.out HB0.out.size)
  have HLL := Lib.hid (fun i (hi : i < bs.length) => hll _ (GG.getD_mem (d := []) hi))
  have EW0 := Lib.hid eW0
  clear hv hll eW0
  go_enter Try.func27, Try.ntmps27
  go_wp2_with fail
  rw [← EW0.out]
  go_loopw [4, 12] (fun o k wr => ∃ (i : Nat) (vs : List Value), i ≤ bs.length ∧ k = .int .i64 (i : Int) ∧ wr.ownsRow W0.heap.size 32 1 o i vs ∧ GG.Rows W0.heap.size wr vs (waysI bs i) ∧ Below W0.heap.size W0 wr ∧ RowKit.Hid (∀ j, j < i → (leadsI (bs[j]?.getD [])).isSome = true)) (fun _ k _ => bs.length - (intOf k).toNat)
  case atStart => exact ⟨0, [], Nat.zero_le _, rfl, World.ownsRow_nil _ _ _ _, GG.Rows.nil _ _, Below.refl _ _, Lib.hid (fun j hj => absurd hj (Nat.not_lt_zero _))⟩
  case round =>
    obtain ⟨i, vs, hi, rfl, hO, hR, hB, HOK⟩ := hrel
    have HO := Lib.hid hO
    have HR := Lib.hid hR
    have HB := Lib.hid hB
    clear hO hR hB
    by_cases hlt : i < bs.length
    · obtain ⟨vb, vo, ba, bc, e1, hvb, hx1, hops⟩ := (HV0.out.below HB.out).at hlt
      subst e1
      have i1 : (0 : Int) ≤ i ∧ (i : Int) < bs.length := by omega
      have b1 := HLL.out i hlt
      have HWS := Lib.hid (waysI_succ hlt)
      have HNO := Lib.hid (fun h => okI_no hlt h)
      obtain ⟨r, er⟩ : ∃ r, r = bs[i]?.getD [] := ⟨_, rfl⟩
      rw [← er] at hx1 hops b1 HWS HNO
      have HER := Lib.hid er
      have HOPS := Lib.hid hops
      clear er hops
      cases hs : (leadsI r).isSome
      · have HS := Lib.hid hs
        have HN := Lib.hid (ofB_no (HNO.out (by simpa using hs)))
        clear hs
        go_wp2_with (go_at_call 37
                     refine (leadsP_any _ (HOPS.out.mono HB.out.size) b1).mono ?_
                     rintro e w1 ⟨a, cap, rfl, ho, hb⟩
                     rw [HS.out]
                     have HB1 := Lib.hid (HB.out.trans (hb.mono HB.out.size))
                     clear ho hb)
        go_ret2
        exact ⟨_, by rw [HN.out.1]; rfl, by rw [HN.out.2]; exact graphM_nil _ _, HB0.out.trans (HB1.out.mono HB0.out.size)⟩
      · have HS := Lib.hid hs
        have HN := Lib.hid (show ∀ j, j < i + 1 → (leadsI (bs[j]?.getD [])).isSome = true from fun j hj => (Nat.lt_succ_iff_lt_or_eq.1 hj).elim (HOK.out j) (fun e => by rw [e, ← HER.out]; exact hs))
        clear hs
        go_wp2_with (first
          | (go_at_call 37
             refine (leadsP_any _ (HOPS.out.mono HB.out.size) b1).mono ?_
             rintro e w1 ⟨a, cap, rfl, ho, hb⟩
             rw [HS.out]
             have HB1 := Lib.hid (HB.out.trans (hb.mono HB.out.size))
             have HR1 := Lib.hid (GG.Rows.grown HR.out (b := none) ⟨hb.os, hb.tape, hb.output, hb.size, fun k hk _ => hb.block k hk⟩ (fun k e => by cases e))
             have HO1 := Lib.hid (HO.out.kept (row := none) ⟨hb.os, hb.tape, hb.output, hb.size, fun k hk _ => hb.block k hk⟩ (own_em0 _))
             have HW1 := Lib.hid (own_base HB.out.size ho)
             have HSZ := Lib.hid (Nat.le_trans HB.out.size hb.size)
             clear ho hb)
          | (at_builtin
             go_loud (refine GG.wpList_append_any rfl _ _ 22 rfl W0.heap.size 32 j0 (.slice none 0 0) 1 24 Try.underlying22 hj0 hy0 hy1 hy2 rfl (by decide) u4 i vs rfl (HO1.out.alloc _) (.slice (some ⟨w1.heap.size, 0, none⟩) 1 1) 1 [.slice a ((leadsI r).getD []).length cap] rfl rfl (.inr ⟨_, _, rfl, GG.cell_one _ _ _⟩) (by intro u hu; rw [List.mem_singleton.1 hu]; rfl) (by unfold maxLen; omega) (by omega) (by have := HSZ.out; simp; omega) ?_)
             intro v2 w2 ho hg
             have HHO := Lib.hid ho
             have HHG := Lib.hid hg
             clear ho hg))
        have HD := Lib.hid (rows_app HB1.out HSZ.out HR1.out HO1.out HW1.out HHO.out HHG.out)
        go_roundw
        case rel => exact ⟨i + 1, _, by omega, by go_num, HD.out.1, by rw [← HWS.out]; exact HD.out.2.1, HD.out.2.2, HN⟩
        case measure => simp [intOf]; omega
    · have hie : i = bs.length := by omega
      have HOKB := Lib.hid (ofB_yes (okI_yes fun j hj => HOK.out j (by omega)))
      have HG := Lib.hid (show GraphM wr.heap.size wr u4 (waysI bs bs.length) by
        have h1 := HR.out
        have h2 := HO.out
        rw [hie] at h1 h2
        have h3 : (waysI bs bs.length).length = bs.length := waysI_len (Nat.le_refl _)
        exact h1.graph (by rw [h3]; exact h2))
      have HSM := Lib.hid (waysI_small (Nat.le_refl bs.length) (by omega))
      clear HO HR
      cases hr : GG.rightG (waysI bs bs.length)
      · have HRI := Lib.hid hr
        have HF := Lib.hid (show ofB bs = false ∧ ofL bs = [] from ⟨by rw [HOKB.out, hr], by unfold ofL; rw [if_neg (by rw [HOKB.out, hr]; simp)]⟩)
        clear hr hie
        go_wp2_with (go_at_call 14; refine (rightG_any _ (waysI bs bs.length) _ HG.out HSM.out).mono ?_; rintro e w' ⟨rfl, hb⟩; have HB1 := Lib.hid (HB.out.trans (hb.mono HB.out.size)); clear hb; rw [HRI.out])
        go_ret2
        exact ⟨_, by rw [HF.out.1]; rfl, by rw [HF.out.2]; exact graphM_nil _ _, HB0.out.trans (HB1.out.mono HB0.out.size)⟩
      · have HRI := Lib.hid hr
        have HF := Lib.hid (show ofB bs = true ∧ ofL bs = waysI bs bs.length from ⟨by rw [HOKB.out, hr], by unfold ofL; rw [if_pos (by rw [HOKB.out, hr])]⟩)
        clear hr hie
        go_wp2_with (go_at_call 14; refine (rightG_any _ (waysI bs bs.length) _ HG.out HSM.out).mono ?_; rintro e w' ⟨rfl, hb⟩; have HB1 := Lib.hid (HB.out.trans (hb.mono HB.out.size)); have HG1 := Lib.hid (HG.out.on hb hb.size); clear hb; rw [HRI.out])
        go_ret2
        exact ⟨_, by rw [HF.out.1]; rfl, by rw [HF.out.2]; exact HG1.out, HB0.out.trans (HB1.out.mono HB0.out.size)⟩
end Go.Proofs.Ytkfojieiemgliaa
