import Derived.Test.YtkoofibhddkpiaaDoorSolBN
set_option linter.unusedSimpArgs false
set_option linter.unusedVariables false
/-! solve's laws: a system in memory of its own; the reference's Right -/
namespace Go.Proofs.YtkoofibhddkpiaaDoor
open Go.RowKit
open SV (Lab SysOk Least labs sumOf mu sumP at' natsL askT askI fanN lok Bnd val valT)
theorem labV_len (l : List (Int × Int)) : (labV l).length = l.length * 2 := by
  induction l with
  | nil => rfl
  | cons e l ih => simp [labV, List.flatMap_cons] at ih ⊢; omega
theorem labV_snoc (l : List (Int × Int)) (p : Int × Int) : labV (l ++ [p]) = labV l ++ [.int .i64 p.1, .int .u64 p.2] := by simp [labV]
theorem labV_cell {l : List (Int × Int)} : ∀ {j : Nat} {u : Value}, (labV l)[j]? = some u → ∃ i, i < l.length ∧ ((j = i * 2 ∧ u = .int .i64 (l[i]?.getD s0).1) ∨ (j = i * 2 + 1 ∧ u = .int .u64 (l[i]?.getD s0).2)) := by
  intro j u h
  have hj : j < l.length * 2 := by rw [← labV_len]; exact (List.getElem?_eq_some_iff.1 h).1
  have h1 := labV_at (s := l) (i := j / 2) (by omega)
  refine ⟨j / 2, by omega, ?_⟩
  rcases Nat.mod_two_eq_zero_or_one j with e | e
  · have ej : j = j / 2 * 2 := by omega
    refine .inl ⟨ej, ?_⟩
    rw [← ej, h] at h1
    exact Option.some.inj h1.1
  · have ej : j = j / 2 * 2 + 1 := by omega
    refine .inr ⟨ej, ?_⟩
    rw [← ej, h] at h1
    exact Option.some.inj h1.2
theorem labV_one (l : List (Int × Int)) : ∀ u ∈ labV l, u.oneCell' = true := by
  intro u hu
  obtain ⟨p, _, hp⟩ := List.mem_flatMap.1 hu
  simp only [List.mem_cons, List.mem_nil_iff, or_false] at hp
  rcases hp with rfl | rfl <;> rfl
theorem LabRow.src {n₀ : Nat} {W : World} {v : Value} {l : List (Int × Int)} (h : LabRow n₀ W v l) :
    v = .slice none 0 0 ∧ l.length = 0 ∨ ∃ ad c, v = .slice (some ad) l.length c ∧ ∀ j u, (labV l)[j]? = some u → W.cell? (ad.add j) = some u := by
  rcases h with ⟨⟨a, c, rfl, hn⟩, rfl⟩ | ⟨b, off, c, rfl, _, hc⟩
  · cases a with
    | none => rw [hn rfl]; exact .inl ⟨rfl, rfl⟩
    | some x => exact .inr ⟨x, c, rfl, fun j u hj => by simp [labV] at hj⟩
  · refine .inr ⟨_, c, rfl, fun j u hj => ?_⟩
    rw [Addr.add_lit]
    obtain ⟨i, hi, hc2⟩ := labV_cell hj
    have h3 := hc i hi
    rcases hc2 with ⟨rfl, rfl⟩ | ⟨rfl, rfl⟩
    · exact h3.1
    · rw [← Nat.add_assoc]; exact h3.2
theorem lab_ownV {V : World} {B : Nat} {lv : Value} {s : List (Int × Int)} (h : V.ownsRow B 49 2 lv s.length (labV s)) : LabRow V.heap.size V lv s := by
  obtain ⟨a, c, rfl⟩ := SS.ownOf h
  by_cases h0 : s.length = 0
  · have e : s = [] := List.length_eq_zero_iff.1 h0
    subst e
    refine .inl ⟨⟨a, c, rfl, fun e => ?_⟩, rfl⟩
    subst e
    rcases h.2 with ⟨e1, _⟩ | ⟨g, cap, cur, e1, _⟩
    · cases e1; rfl
    · cases e1
  · obtain ⟨g, cap, e⟩ := SS.own_some h (by omega)
    cases e
    refine .inr ⟨g, 0, _, rfl, (h.lt g rfl).2, fun j hj => ?_⟩
    have h2 := labV_at hj
    rw [Nat.zero_add]
    exact ⟨own_cellZ h h2.1, own_cellZ h h2.2⟩
/-- an append of what may be nil, in a region that draws -/
theorem step_append_anyS {P : Program} {w : World} {ops : Array Oper} {o : Oper} {a : Act} {K : Act → World → Prop} {Q : Exit → Act → World → Prop} {E : Prop} (hg : o.guard = none) (s x : Operand) (t : TypeId)
    (ho : o.op = .call { callee := .builtin .append, args := #[s, x], argTypes := #[t, t] })
    (base : Nat) (e : TypeId) (i : TypeInfo) (z : Value) (size bytes : Nat) (ht : P.underlying t = some (.slice e)) (hi : P.info? e = some i) (hz : i.zero = some z)
    (hsize : i.size = size) (hby : i.bytes = bytes) (hzs : z.cells.size = size) (hsz : 0 < size)
    (v : Value) (n : Nat) (xs : List Value) (hs : a.eval s = v) (hown : w.ownsRow base e size v n xs)
    (xv : Value) (m : Nat) (news : List Value) (hx : a.eval x = xv) (hl : news.length = m * size)
    (hsrc : xv = .slice none 0 0 ∧ m = 0 ∨ ∃ ad c, xv = .slice (some ad) m c ∧ ∀ j u, news[j]? = some u → w.cell? (ad.add j) = some u) (h1 : ∀ u ∈ news, u.oneCell' = true)
    (h63 : n + m ≤ maxLen) (hbytes : (n + m) * bytes ≤ 140737488355328) (hbase : base ≤ w.heap.size)
    (h : ∀ v' w', w'.ownsRow base e size v' (n + m) (xs ++ news) → w.grownBy w' v.ownBlock → K (a.put o.dst v') w') :
    if Region.wanted o (yielded ops a.tmps) = true then Oper.wp P o a w K Q else E := by
  rw [if_pos (by simp [Region.wanted, hg])]
  rcases hsrc with ⟨rfl, rfl⟩ | ⟨ad, c, rfl, hn⟩
  · have hn : news = [] := List.eq_nil_of_length_eq_zero (by simpa using hl)
    subst hn
    have hr := run_append_owned_none (P := P) (w := w) base t o.type e i size ht hi v n xs hown
    unfold Oper.wp execOp
    simp only [ho, resolve, invoke, builtin, Sem.run_bind, Sem.run_pure, Result.andThen_ok, List.map_toArray, List.map_cons, List.map_nil, hs, hx, hr]
    exact h v w (by simpa using hown) ⟨rfl, rfl, rfl, Nat.le_refl _, fun _ _ _ => rfl⟩
  · exact wp_append_own w s x t ho base e i z size bytes ht hi hz hsize hby hzs hsz v n xs hs hown ad m c news hx hl hn h1 h63 hbytes hbase (fun v' w' p1 p2 _ => h v' w' p1 p2)
theorem own0S {w : World} {base e size n : Nat} {v : Value} {xs : List Value} (h : w.ownsRow base e size v (0 + n) ([] ++ xs)) : w.ownsRow base e size v n xs := by
  rw [Nat.zero_add, List.nil_append] at h
  exact h
theorem lit_rowS {V : World} {g B size : Nat} {t : TypeId} (hg : V.heap[g]? = some (.cells #[] t)) (hB : B ≤ g) : V.ownsRow B t size (.slice (some ⟨g, 0, none⟩) 0 0) 0 [] :=
  ⟨by simp, .inr ⟨g, 0, #[], rfl, hB, hg, Nat.le_refl _, by unfold maxLen; omega, by simp, by simp⟩⟩
/-- rows in blocks apart -/
def Apart (vs : List Value) : Prop := ∀ (j k : Nat) (r s : Value) (b : Nat), j ≠ k → vs[j]? = some r → vs[k]? = some s → r.ownBlock = some b → s.ownBlock ≠ some b
theorem rows_lt {B : Nat} {w : World} {vs : List Value} {to : List (List Int)} (h : GG.Rows B w vs to) {j b : Nat} {r : Value} (hj : vs[j]? = some r) (hb : r.ownBlock = some b) : B ≤ b ∧ b < w.heap.size := by
  have h1 := (List.getElem?_eq_some_iff.1 hj).1
  obtain ⟨r', e, g⟩ := h.2 j (by rw [← h.1]; exact h1)
  rw [hj] at e
  cases e
  exact g.lt b hb
theorem apart_snoc {vs : List Value} {r' : Value} {N : Nat} (h : Apart vs) (hl : ∀ (j b : Nat) (r : Value), vs[j]? = some r → r.ownBlock = some b → b < N) (hn : ∀ b, r'.ownBlock = some b → N ≤ b) : Apart (vs ++ [r']) := by
  intro j k r s b hjk hj hk hr hs
  have e1 : ∀ {i : Nat} {x : Value}, (vs ++ [r'])[i]? = some x → vs[i]? = some x ∨ (i = vs.length ∧ x = r') := by
    intro i x hx
    have hi : i < (vs ++ [r']).length := (List.getElem?_eq_some_iff.1 hx).1
    by_cases hl : i < vs.length
    · rw [List.getElem?_append_left hl] at hx; exact .inl hx
    · have e : i = vs.length := by simp at hi; omega
      subst e
      simp at hx
      exact .inr ⟨rfl, hx.symm⟩
  rcases e1 hj with h1 | ⟨h1, rfl⟩
  · rcases e1 hk with h2 | ⟨h2, rfl⟩
    · exact h j k r s b hjk h1 h2 hr hs
    · have := hl j b r h1 hr; have := hn b hs; omega
  · rcases e1 hk with h2 | ⟨h2, rfl⟩
    · have := hl k b s h2 hs; have := hn b hr; omega
    · omega
set_option maxRecDepth 100000 in
set_option maxHeartbeats 1600000 in
theorem copyG_own (a : Value) (to : List (List Int)) (w : World) (ha : GraphM w.heap.size w a to) (hx : Small to) (hl : to.length ≤ 4294967296) :
    Calls Tryd.prog 9 #[a] w fun e w' => ∃ v vs, e = .returned v ∧ w'.ownsRow w.heap.size 29 1 v to.length vs ∧ GG.Rows w.heap.size w' vs to ∧ Below w.heap.size w w' ∧ Apart vs := by
  obtain ⟨aa, ca, rfl⟩ := ha.form
  obtain ⟨i0, hi, hz0, hz1, hz2⟩ := info_parts Tryd.infoGInt
  obtain ⟨j0, hj, hy0, hy1, hy2⟩ := info_parts Tryd.infoGRow
  have HA := Lib.hid ha
  have HX := Lib.hid hx
  clear ha hx
  go_enter Tryd.func9, Tryd.ntmps9
  go_wp2_with fail
  go_loopw [3, 4] (fun o k wr => ∃ (i : Nat) (vs : List Value), i ≤ to.length ∧ k = .int .i64 (i : Int) ∧ wr.ownsRow w.heap.size 29 1 o i vs ∧ GG.Rows w.heap.size wr vs (to.take i) ∧ Below w.heap.size w wr ∧ Apart vs) (fun _ k _ => to.length - (intOf k).toNat)
  case atStart => exact ⟨0, [], by omega, rfl, World.ownsRow_nil _ _ _ _, GG.Rows.nil _ _, Below.refl _ _, fun j k r s b _ h => by simp at h⟩
  case round =>
    obtain ⟨i, vs, hi', rfl, hO, hR, hB, hap⟩ := hrel
    have HAP := Lib.hid hap
    clear hap
    have HO := Lib.hid hO
    have HR := Lib.hid hR
    have HB := Lib.hid hB
    clear hO hR hB
    by_cases hlt : i < to.length
    · obtain ⟨xb, xo, xc, e1⟩ := HA.out.addr (by omega)
      cases e1
      have HB1 := Lib.hid (HB.out.alloc HB.out.size (.cells #[] 3))
      obtain ⟨ra, rac, hx1, hrx⟩ := (HA.out.below HB1.out).at hlt
      have i1 : (0 : Int) ≤ i ∧ (i : Int) < to.length := by omega
      have b1 := HX.out.row i
      have HT := Lib.hid (show to.take i ++ [to[i]?.getD []] = to.take (i + 1) by rw [List.take_succ_eq_append_getElem hlt, List.getElem?_eq_getElem hlt]; rfl)
      obtain ⟨r, er⟩ : ∃ r, r = to[i]?.getD [] := ⟨_, rfl⟩
      rw [← er] at hx1 hrx b1 HT
      have HRX := Lib.hid (Cells.src (show Cells w.heap.size (wr.alloc (.cells #[] 3)) (.slice ra r.length rac) (intsV r) from hrx))
      clear er hrx
      go_wp2_with (first
        | (at_builtin
           refine GG.wpList_append_any rfl _ _ 29 rfl wr.heap.size 3 i0 (.int .i64 0) 1 8 Tryd.underlying29 hi hz0 hz1 hz2 rfl (by decide) (.slice (some ⟨wr.heap.size, 0, none⟩) 0 0) 0 [] rfl (GG.lit_row wr (Nat.le_refl _) (by decide) rfl) (.slice ra r.length rac) r.length (intsV r) rfl (by rw [intsV_len, Nat.mul_one]) (by have h := HRX.out; rw [intsV_len] at h; exact h) (GG.oneCell_ints r) (by unfold maxLen; omega) (by omega) (by simp) ?_
           intro v1 w1 ho hg
           rw [Nat.zero_add, List.nil_append] at ho
           have HNB := Lib.hid (fun b e => (ho.lt b e).1)
           replace ho := SS.own_lower HB.out.size ho
           obtain ⟨va, vc, rfl⟩ := GG.own_slice ho
           have HC := Lib.hid (copy_in HB.out HR.out HO.out HB.out.size ho hg)
           clear ho hg)
        | (at_builtin
           refine GG.wpList_append_any rfl _ _ 24 rfl w.heap.size 29 j0 (.slice none 0 0) 1 24 Tryd.underlying24 hj hy0 hy1 hy2 rfl (by decide) u3 i vs rfl (HC.out.2.1.alloc _) (.slice (some ⟨w1.heap.size, 0, none⟩) 1 1) 1 [.slice va r.length vc] rfl rfl (.inr ⟨_, _, rfl, GG.cell_one _ _ _⟩) (by intro u hu; rw [List.mem_singleton.1 hu]; rfl) (by unfold maxLen; omega) (by omega) (by have := HC.out.2.2.2; simp; omega) ?_
           intro v2 w2 ho hg
           have HD := Lib.hid (show w2.ownsRow w.heap.size 29 1 v2 (i + 1) (vs ++ [.slice va r.length vc]) ∧ GG.Rows w.heap.size w2 (vs ++ [.slice va r.length vc]) (to.take (i + 1)) ∧ Below w.heap.size w w2 from ⟨ho, by rw [← HT.out]; exact (HC.out.1.alloc _).kept (HC.out.2.1.alloc _) (by decide) hg, (HC.out.2.2.1.alloc HC.out.2.2.2 _).grown hg (by have := HC.out.2.2.2; simp; omega) (fun k e => (HC.out.2.1.lt k e).1)⟩)
           clear ho hg))
      go_roundw
      case rel => exact ⟨i + 1, _, by omega, by go_num, HD.out.1, HD.out.2.1, HD.out.2.2, apart_snoc HAP.out (fun j b r h1 h2 => (rows_lt HR.out h1 h2).2) HNB.out⟩
      case measure => simp [intOf]; omega
    · have HS := Lib.hid (show i = to.length ∧ to.take i = to from ⟨by omega, List.take_of_length_le (by omega)⟩)
      have HE := Lib.hid (show GG.Rows w.heap.size wr vs to by have h1 := HR.out; rw [HS.out.2] at h1; exact h1)
      have HE2 := Lib.hid (show wr.ownsRow w.heap.size 29 1 u3 to.length vs by have h2 := HO.out; rw [HS.out.1] at h2; exact h2)
      go_wp2_with fail
      go_ret
      exact ⟨_, _, rfl, HE2.out, HE.out, HB.out, HAP.out⟩
/-- .. and each row in a block apart from the others -/
def CopyA (c : List (Int × Int)) (to : List (List Int)) (W : World) (e : Ending) (V : World) : Prop :=
  ∃ a cap b cap2 vs, e = .returned (.agg #[.slice a c.length cap, .slice b to.length cap2]) ∧ V.ownsRow W.heap.size 49 2 (.slice a c.length cap) c.length (labV c) ∧ V.ownsRow W.heap.size 29 1 (.slice b to.length cap2) to.length vs ∧ GG.Rows W.heap.size V vs to ∧ Below W.heap.size W V ∧ Apart vs
def CopyE (c : List (Int × Int)) (to : List (List Int)) (W : World) (e : Ending) (V : World) : Prop :=
  ∃ a cap b cap2 vs, e = .returned (.agg #[.slice a c.length cap, .slice b to.length cap2]) ∧ V.ownsRow W.heap.size 49 2 (.slice a c.length cap) c.length (labV c) ∧ V.ownsRow W.heap.size 29 1 (.slice b to.length cap2) to.length vs ∧ GG.Rows W.heap.size V vs to ∧ Below W.heap.size W V
theorem rows_lower {B B' : Nat} {w : World} {vs : List Value} {to : List (List Int)} (h : GG.Rows B w vs to) (hb : B' ≤ B) : GG.Rows B' w vs to := ⟨h.1, fun j hj => by obtain ⟨r, e, g⟩ := h.2 j hj; exact ⟨r, e, SS.own_lower hb g⟩⟩
theorem rows_blocks {B : Nat} {w w' : World} {vs : List Value} {to : List (List Int)} (h : GG.Rows B w vs to) (hk : ∀ k, B ≤ k → k < w.heap.size → w'.heap[k]? = w.heap[k]?) : GG.Rows B w' vs to := ⟨h.1, fun j hj => by obtain ⟨r, e, g⟩ := h.2 j hj; exact ⟨r, e, SS.own_of_block g (fun k e => hk k (g.lt k e).1 (g.lt k e).2)⟩⟩
set_option maxRecDepth 100000 in
set_option maxHeartbeats 3200000 in
theorem copied_anyA {cv nv : Value} {c : List (Int × Int)} {to : List (List Int)} (W : World) (hv : LabRow W.heap.size W cv c) (hg : GraphM W.heap.size W nv to) (hs : Small to) (hc : c.length ≤ 4294967296) (ht : to.length ≤ 4294967296) :
    Calls Tryd.prog 5 #[.agg #[cv, nv]] W fun e V => CopyA c to W e V := by
  obtain ⟨ca, cc, rfl⟩ := hv.form
  obtain ⟨na, nc, rfl⟩ := hg.form
  obtain ⟨i0, hi0, hz0, hz1, hz2⟩ := info_parts infoLab
  have HC := Lib.hid hv
  have HG := Lib.hid hg
  have HS := Lib.hid hs
  have HTL := Lib.hid ht
  clear hv hg hs ht
  obtain ⟨W0, eW0⟩ : ∃ W0, W0 = (W.alloc (.cells #[.slice ca c.length cc, .slice na to.length nc] 26)).alloc (.cells #[.slice none 0 0, .slice none 0 0] 26) := ⟨_, rfl⟩
  have HB0 := Lib.hid (show Below W.heap.size W W0 by rw [eW0]; exact ((Below.refl _ _).alloc (Nat.le_refl _) _).alloc (by simp) _)
  have HZ := Lib.hid (show W0.heap.size = W.heap.size + 2 by rw [eW0]; simp)
  have HH1 := Lib.hid (show W0.heap[W.heap.size]? = some (.cells #[.slice ca c.length cc, .slice na to.length nc] 26) by rw [eW0, heap_alloc_old _ _ (by simp), heap_alloc_new])
  have HH2 := Lib.hid (show W0.heap[W.heap.size + 1]? = some (.cells #[.slice none 0 0, .slice none 0 0] 26) by rw [eW0]; exact SS.new_at (by simp))
  go_enter Tryd.func5, Tryd.ntmps5
  go_upto_region 1 with fail
  rw [← eW0]
  clear eW0
  have hb0 := HB0.out.drew
  have hz := HZ.out
  have hh1 := HH1.out
  have hh2 := HH2.out
  refine wp_region_held_drew (S := (fun V => V.cell? ⟨W.heap.size, 0, none⟩ = some (.slice ca c.length cc) ∧ V.cell? ⟨W.heap.size, 1, none⟩ = some (.slice na to.length nc))) (by kernel_rfl) ?_ (fun hHeld => ?_)
  · exact ⟨cell_of_row _ _ 0 _ _ _ HH1.out, cell_of_row _ _ 1 _ _ _ HH1.out⟩
  have HB4 := Lib.hid hb0
  have HZ4 := Lib.hid (show W0.drew.heap.size = W.heap.size + 2 from hz)
  have HH5 := Lib.hid (show W0.drew.heap[W.heap.size + 1]? = _ from hh2)
  clear hb0 hz hh1 hh2
  generalize W0.drew = w7 at HB4 HZ4 HH5 hHeld ⊢
  refine wpAnyH_take (i := 1) (v := .pointer (some ⟨W.heap.size, 0, none⟩)) rfl (by kernel_rfl) (by kernel_rfl) (by kernel_rfl) (fun _ _ _ h => h) (Or.inl ⟨by rfl, fun W hSW => ?_⟩) hHeld ?_
  · ((try dsimp only at hSW); go_split_ands; go_simp <;> with_reducible rfl)
  try simp only [List.getElem_toArray, List.getElem_cons_succ, List.getElem_cons_zero, Act.put, List.setIfInBounds_toArray, List.set_cons_zero, List.set_cons_succ]
  refine wpAnyH_take (i := 2) (v := .slice ca c.length cc) rfl (by kernel_rfl) (by kernel_rfl) (by kernel_rfl) (fun _ _ _ h => h) (Or.inl ⟨by rfl, fun W hSW => ?_⟩) hHeld ?_
  · ((try dsimp only at hSW); go_split_ands; go_simp <;> with_reducible rfl)
  try simp only [List.getElem_toArray, List.getElem_cons_succ, List.getElem_cons_zero, Act.put, List.setIfInBounds_toArray, List.set_cons_zero, List.set_cons_succ]
  refine wpAnyH_take (i := 4) (v := .pointer (some ⟨W.heap.size, 1, none⟩)) rfl (by kernel_rfl) (by kernel_rfl) (by kernel_rfl) (fun _ _ _ h => h) (Or.inl ⟨by rfl, fun W hSW => ?_⟩) hHeld ?_
  · ((try dsimp only at hSW); go_split_ands; go_simp <;> with_reducible rfl)
  try simp only [List.getElem_toArray, List.getElem_cons_succ, List.getElem_cons_zero, Act.put, List.setIfInBounds_toArray, List.set_cons_zero, List.set_cons_succ]
  refine wpAnyH_take (i := 5) (v := .slice na to.length nc) rfl (by kernel_rfl) (by kernel_rfl) (by kernel_rfl) (fun _ _ _ h => h) (Or.inl ⟨by rfl, fun W hSW => ?_⟩) hHeld ?_
  · ((try dsimp only at hSW); go_split_ands; go_simp <;> with_reducible rfl)
  try simp only [List.getElem_toArray, List.getElem_cons_succ, List.getElem_cons_zero, Act.put, List.setIfInBounds_toArray, List.set_cons_zero, List.set_cons_succ]
  refine wpAnyH_ready (rs := [0]) (by kernel_rfl) (by simp) ?_
  refine AllReadyH.cons rfl (fun K hK => ?_) AllReadyH.nil
  try simp only [List.getElem_toArray, List.getElem_cons_succ, List.getElem_cons_zero]
  go_simp
  try go_wp2_with fail
  refine hK.out _ _ ?_ (fun hHeld => ?_)
  · exact ⟨(cell_blk (heap_alloc_old _ _ (by rw [HZ4.out]; omega))).trans hHeld.1, (cell_blk (heap_alloc_old _ _ (by rw [HZ4.out]; omega))).trans hHeld.2⟩
  clear hK K
  try simp only [List.getElem_toArray, List.getElem_cons_succ, List.getElem_cons_zero, Act.put, List.setIfInBounds_toArray, List.set_cons_zero, List.set_cons_succ]
  have HB5 := Lib.hid (show Below w7.heap.size w7 (w7.alloc (.cells #[] 49)) from (Below.refl _ _).alloc (Nat.le_refl _) _)
  have HL5 := Lib.hid (show (w7.alloc (.cells #[] 49)).ownsRow w7.heap.size 49 2 (.slice (some ⟨w7.heap.size, 0, none⟩) 0 0) 0 [] from lit_rowS (heap_alloc_new _ _) (Nat.le_refl _))
  have HBA := Lib.hid (HB4.out.trans (HB5.out.mono HB4.out.size))
  refine wpAnyH_ready (rs := [3]) (by kernel_rfl) (by simp) ?_
  refine AllReadyH.cons rfl (fun K hK => ?_) AllReadyH.nil
  refine step_append_anyS rfl (.tmp 3) (.tmp 5) 23 rfl w7.heap.size 49 i0 (.agg #[.int .i64 0, .int .u64 0]) 2 16 Tryd.underlying23 hi0 hz0 hz1 hz2 rfl (by decide) (.slice (some ⟨w7.heap.size, 0, none⟩) 0 0) 0 [] (by rfl) HL5.out (.slice ca c.length cc) c.length (labV c) (by rfl) (labV_len c) (HC.out.below HBA.out).src (labV_one c) (by unfold maxLen; omega) (by omega) HB5.out.size ?_
  intro v6 w6 ho hg6
  have HO6 := Lib.hid (own0S ho)
  have HB6 := Lib.hid (show Below w7.heap.size w7 w6 from HB5.out.grown hg6 HB5.out.size (fun k e => by have h1 : w7.heap.size = k := Option.some.inj e; omega))
  have HBC := Lib.hid (HB4.out.trans (HB6.out.mono HB4.out.size))
  obtain ⟨va, vc, rfl⟩ := SS.ownOf HO6.out
  refine hK.out _ _ ?_ (fun hHeld => ?_)
  · exact ⟨(HB6.out.cell (p := ⟨W.heap.size, 0, none⟩) (by rw [HZ4.out]; show W.heap.size < W.heap.size + 2; omega)).trans ((cell_blk (Below.heap_alloc _ _ _ (by rw [HZ4.out]; omega))).symm.trans hHeld.1), (HB6.out.cell (p := ⟨W.heap.size, 1, none⟩) (by rw [HZ4.out]; show W.heap.size < W.heap.size + 2; omega)).trans ((cell_blk (Below.heap_alloc _ _ _ (by rw [HZ4.out]; omega))).symm.trans hHeld.2)⟩
  clear hK K ho hg6
  try simp only [List.getElem_toArray, List.getElem_cons_succ, List.getElem_cons_zero, Act.put, List.setIfInBounds_toArray, List.set_cons_zero, List.set_cons_succ]
  refine wpAnyH_ready (rs := [6]) (by kernel_rfl) (by simp) ?_
  refine AllReadyH.cons rfl (fun K hK => ?_) AllReadyH.nil
  try simp only [List.getElem_toArray, List.getElem_cons_succ, List.getElem_cons_zero]
  go_simp
  (go_at_call 9; refine (copyG_own _ to _ ((HG.out.below HBC.out).mono HBC.out.size) HS.out HTL.out).mono ?_; rintro e w8 ⟨gv, vs, rfl, hgo, hgr, hb8, hap⟩; obtain ⟨ga, gc, rfl⟩ := SS.ownOf hgo)
  try go_wp2_with fail
  refine hK.out _ _ ?_ (fun hHeld => ?_)
  · exact ⟨(hb8.cell (p := ⟨W.heap.size, 0, none⟩) (by have h1 := HB6.out.size; have h2 := HZ4.out; show W.heap.size < _; omega)).trans hHeld.1, (hb8.cell (p := ⟨W.heap.size, 1, none⟩) (by have h1 := HB6.out.size; have h2 := HZ4.out; show W.heap.size < _; omega)).trans hHeld.2⟩
  clear hK K
  try simp only [List.getElem_toArray, List.getElem_cons_succ, List.getElem_cons_zero, Act.put, List.setIfInBounds_toArray, List.set_cons_zero, List.set_cons_succ]
  have HGO := Lib.hid hgo
  have HGR := Lib.hid hgr
  have HS6 := Lib.hid (show W.heap.size + 2 ≤ w6.heap.size from by have h1 := HB6.out.size; have h2 := HZ4.out; omega)
  have HB8 := Lib.hid (HBC.out.trans (hb8.mono HBC.out.size))
  have HO8 := Lib.hid (SS.own_of_block HO6.out (fun k e => hb8.block k (HO6.out.lt k e).2))
  have HH8 := Lib.hid (show w8.heap[W.heap.size + 1]? = _ from (hb8.block _ (by have h1 := HB6.out.size; have h2 := HZ4.out; omega)).trans ((HB6.out.block _ (by rw [HZ4.out]; omega)).trans HH5.out))
  have HS8 := Lib.hid (show W.heap.size + 2 ≤ w8.heap.size from by have h1 := HB6.out.size; have h2 := HZ4.out; have h3 := hb8.size; omega)
  have hz0' : w8.cell? ⟨W.heap.size + 1, 0, none⟩ = some (.slice none 0 0) := cell_of_row _ _ 0 _ _ _ HH8.out
  have hz1' : w8.cell? ⟨W.heap.size + 1, 1, none⟩ = some (.slice none 0 0) := cell_of_row _ _ 1 _ _ _ HH8.out
  have hf0 : w8.frozen? ⟨W.heap.size + 1, 0, none⟩ = false := by simp [World.frozen?, HH8.out]
  have hf1 : w8.frozen? ⟨W.heap.size + 1, 1, none⟩ = false := by simp [World.frozen?, HH8.out]
  have HAP := Lib.hid hap
  clear hgo hgr hb8 hap
  refine wpAnyH_take (i := 7) (v := .agg #[.slice va c.length vc, .slice ga to.length gc]) rfl (by kernel_rfl) (by kernel_rfl) (by kernel_rfl) (fun _ _ _ h => h) (Or.inl ⟨by rfl, fun W hSW => ?_⟩) hHeld ?_
  · ((try dsimp only at hSW); go_split_ands; go_simp <;> with_reducible rfl)
  try simp only [List.getElem_toArray, List.getElem_cons_succ, List.getElem_cons_zero, Act.put, List.setIfInBounds_toArray, List.set_cons_zero, List.set_cons_succ]
  refine wpAnyH_ready (rs := [8]) (by kernel_rfl) (by simp) ?_
  refine AllReadyH.cons rfl (fun K hK => ?_) AllReadyH.nil
  try simp only [List.getElem_toArray, List.getElem_cons_succ, List.getElem_cons_zero]
  go_simp
  try go_wp2_with fail
  refine hK.out _ _ ?_ (fun hHeld => ?_)
  · exact ⟨by rw [cell_off _ (by show W.heap.size ≠ W.heap.size + 1; omega), cell_off _ (by show W.heap.size ≠ W.heap.size + 1; omega)]; exact hHeld.1, by rw [cell_off _ (by show W.heap.size ≠ W.heap.size + 1; omega), cell_off _ (by show W.heap.size ≠ W.heap.size + 1; omega)]; exact hHeld.2⟩
  clear hK K
  try simp only [List.getElem_toArray, List.getElem_cons_succ, List.getElem_cons_zero, Act.put, List.setIfInBounds_toArray, List.set_cons_zero, List.set_cons_succ]
  refine wpAnyH_done (by kernel_rfl) ?_ _
  clear hHeld hz0' hz1' hf0 hf1
  have HBW := Lib.hid (show Below W.heap.size W ((w8.setCell ⟨W.heap.size + 1, 0, none⟩ (.slice va c.length vc)).setCell ⟨W.heap.size + 1, 1, none⟩ (.slice ga to.length gc)) from (HB8.out.setCell (p := ⟨W.heap.size + 1, 0, none⟩) (by show W.heap.size ≤ W.heap.size + 1; omega) _).setCell (p := ⟨W.heap.size + 1, 1, none⟩) (by show W.heap.size ≤ W.heap.size + 1; omega) _)
  have HRW := Lib.hid (SS.set_obj (c := 1) (.slice ga to.length gc) (SS.set_obj (c := 0) (.slice va c.length vc) HH8.out))
  have HK := Lib.hid (show ∀ k, W.heap.size + 2 ≤ k → ((w8.setCell ⟨W.heap.size + 1, 0, none⟩ (.slice va c.length vc)).setCell ⟨W.heap.size + 1, 1, none⟩ (.slice ga to.length gc)).heap[k]? = w8.heap[k]? from fun k hk => (Below.heap_setCell _ _ _ _ (by show k ≠ W.heap.size + 1; omega)).trans (Below.heap_setCell _ _ _ _ (by show k ≠ W.heap.size + 1; omega)))
  generalize (w8.setCell ⟨W.heap.size + 1, 0, none⟩ (.slice va c.length vc)).setCell ⟨W.heap.size + 1, 1, none⟩ (.slice ga to.length gc) = w9 at HBW HRW HK ⊢
  have HF1 := Lib.hid (SS.own_of_block HO8.out (fun k e => HK.out k (by have h1 := (HO8.out.lt k e).1; have h2 := HZ4.out; omega)))
  have HF2 := Lib.hid (SS.own_of_block HGO.out (fun k e => HK.out k (by have h1 := (HGO.out.lt k e).1; have h2 := HS6.out; omega)))
  have HF3 := Lib.hid (rows_blocks HGR.out (fun k h1 _ => HK.out k (by have h2 := HS6.out; omega)))
  go_wp2_with fail
  refine bodyPost_ret (v := .agg #[.slice va c.length vc, .slice ga to.length gc]) (results_cell_row rfl _ _ (W.heap.size + 1) 26 #[.slice va c.length vc, .slice ga to.length gc] (0, 0) _ rfl HRW.out Tryd.underlying26 rfl (by kernel_rfl)) rfl ?_
  exact ⟨va, vc, ga, gc, vs, rfl, SS.own_lower (by have := HZ4.out; omega) HF1.out, SS.own_lower (by have := HS6.out; omega) HF2.out, rows_lower HF3.out (by have := HS6.out; omega), HBW.out, HAP.out⟩
theorem copied_any {cv nv : Value} {c : List (Int × Int)} {to : List (List Int)} (W : World) (hv : LabRow W.heap.size W cv c) (hg : GraphM W.heap.size W nv to) (hs : Small to) (hc : c.length ≤ 4294967296) (ht : to.length ≤ 4294967296) :
    Calls Tryd.prog 5 #[.agg #[cv, nv]] W fun e V => CopyE c to W e V :=
  (copied_anyA W hv hg hs hc ht).mono fun e V ⟨a, cap, b, cap2, vs, h1, h2, h3, h4, h5, _⟩ => ⟨a, cap, b, cap2, vs, h1, h2, h3, h4, h5⟩
end Go.Proofs.YtkoofibhddkpiaaDoor
