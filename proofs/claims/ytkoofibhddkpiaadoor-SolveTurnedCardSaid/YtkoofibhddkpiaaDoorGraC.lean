import Derived.Test.YtkoofibhddkpiaaDoorGraA
set_option linter.unusedSimpArgs false
set_option linter.unusedVariables false
/-! graphs: copies; rows of the call's own -/
namespace Go.Proofs.YtkoofibhddkpiaaDoor.GG
open Go.RowKit
theorem own_block {w : World} {B e size n k : Nat} {v : Value} {xs : List Value} (h : w.ownsRow B e size v n xs) (hk : v.ownBlock = some k) : B ≤ k ∧ k < w.heap.size ∧ ∃ c, w.heap[k]? = some (.cells c e (0, 0)) := by
  have hl := h.lt k hk
  rcases h.2 with ⟨rfl, _⟩ | ⟨g, cap, cur, rfl, _, hg, _⟩
  · simp [Value.ownBlock] at hk
  · simp [Value.ownBlock] at hk
    subst hk
    exact ⟨hl.1, hl.2, cur, hg⟩
/-- rows of two types are different rows -/
theorem own_types {w : World} {B e n size B' e' n' size' : Nat} {v v' : Value} {xs xs' : List Value} (h : w.ownsRow B e size v n xs) (h' : w.ownsRow B' e' size' v' n' xs') (hne : e ≠ e') : v.ownBlock = none ∨ v.ownBlock ≠ v'.ownBlock := by
  cases hk : v.ownBlock with
  | none => exact .inl rfl
  | some k =>
    refine .inr fun hk' => ?_
    obtain ⟨_, _, c, hc⟩ := own_block h hk
    obtain ⟨_, _, c', hc'⟩ := own_block h' hk'.symm
    rw [hc] at hc'
    simp only [Option.some.injEq, Obj.cells.injEq] at hc'
    exact hne hc'.2.1
theorem lit_row {base e size b : Nat} (W : World) (hb : base ≤ W.heap.size) (hs : 0 < size) (h : W.heap.size = b) : (W.alloc (.cells #[] e)).ownsRow base e size (.slice (some ⟨b, 0, none⟩) 0 0) 0 [] := by
  subst h
  have := World.ownsRow_lit (base := base) (e := e) (size := size) W #[] 0 hb (by unfold maxLen; omega) (by simp)
  simpa using this
section
variable {P : Program} {w : World}
theorem wpList_append_any {ops : Array Oper} {rest : List Oper} {o : Oper} {a : Act} {Q : Exit → Act → World → Prop} (hgd : o.guard = none) (s x : Operand) (t : TypeId)
    (ho : o.op = .call { callee := .builtin .append, args := #[s, x], argTypes := #[t, t] })
    (base : Nat) (e : TypeId) (i : TypeInfo) (z : Value) (size bytes : Nat) (ht : P.underlying t = some (.slice e)) (hi : P.info? e = some i) (hz : i.zero = some z)
    (hsize : i.size = size) (hby : i.bytes = bytes) (hzs : z.cells.size = size) (hsz : 0 < size)
    (v : Value) (n : Nat) (xs : List Value) (hs : a.eval s = v) (hown : w.ownsRow base e size v n xs)
    (xv : Value) (m : Nat) (news : List Value) (hx : a.eval x = xv) (hl : news.length = m * size)
    (hsrc : xv = .slice none 0 0 ∧ m = 0 ∨ ∃ ad c, xv = .slice (some ad) m c ∧ ∀ j u, news[j]? = some u → w.cell? (ad.add j) = some u) (h1 : ∀ u ∈ news, u.oneCell' = true)
    (h63 : n + m ≤ maxLen) (hbytes : (n + m) * bytes ≤ 140737488355328) (hbase : base ≤ w.heap.size)
    (h : ∀ v' w', w'.ownsRow base e size v' (n + m) (xs ++ news) → w.grownBy w' v.ownBlock → wpList P ops Q rest (a.put o.dst v') w') :
    wpList P ops Q (o :: rest) a w := by
  rcases hsrc with ⟨rfl, rfl⟩ | ⟨ad, c, rfl, hn⟩
  · have hn : news = [] := List.eq_nil_of_length_eq_zero (by simpa using hl)
    subst hn
    have hr := run_append_owned_none (P := P) (w := w) base t o.type e i size ht hi v n xs hown
    refine wpList_plain hgd fun K hK => ?_
    unfold Oper.wp execOp
    simp only [ho, resolve, invoke, builtin, Sem.run_bind, Sem.run_pure, Result.andThen_ok, List.map_toArray, List.map_cons, List.map_nil, hs, hx, hr]
    exact hK _ _ (h v w (by simpa using hown) ⟨rfl, rfl, rfl, Nat.le_refl _, fun _ _ _ => rfl⟩)
  · exact wpList_append_own w hgd s x t ho base e i z size bytes ht hi hz hsize hby hzs hsz v n xs hs hown ad m c news hx hl hn h1 h63 hbytes hbase (fun v' w' p1 p2 _ => h v' w' p1 p2)
end
/-- rows, each of the call's own -/
def Rows (B : Nat) (w : World) (vs : List Value) (to : List (List Int)) : Prop :=
  vs.length = to.length ∧ ∀ j, j < to.length → ∃ r, vs[j]? = some r ∧ w.ownsRow B 3 1 r (to[j]?.getD []).length (intsV (to[j]?.getD []))
theorem Rows.nil (B : Nat) (w : World) : Rows B w [] [] := ⟨rfl, fun j hj => absurd hj (Nat.not_lt_zero _)⟩
theorem Rows.alloc {B : Nat} {w : World} {vs : List Value} {to : List (List Int)} (h : Rows B w vs to) (o : Obj) : Rows B (w.alloc o) vs to :=
  ⟨h.1, fun j hj => by obtain ⟨r, e, g⟩ := h.2 j hj; exact ⟨r, e, g.alloc o⟩⟩
theorem Rows.kept {B e n size B' : Nat} {w w' : World} {vs : List Value} {to : List (List Int)} {v : Value} {xs : List Value} (h : Rows B w vs to) (ho : w.ownsRow B' e size v n xs) (hne : 3 ≠ e) (hg : w.grownBy w' v.ownBlock) : Rows B w' vs to :=
  ⟨h.1, fun j hj => by obtain ⟨r, e, g⟩ := h.2 j hj; exact ⟨r, e, g.kept hg (own_types g ho hne)⟩⟩
/-- .. where a row is begun that is none of these -/
theorem Rows.grown {B : Nat} {w w' : World} {vs : List Value} {to : List (List Int)} {b : Option Nat} (h : Rows B w vs to) (hg : w.grownBy w' b) (hb : ∀ k, b = some k → w.heap.size ≤ k) : Rows B w' vs to :=
  ⟨h.1, fun j hj => by
    obtain ⟨r, e, g⟩ := h.2 j hj
    refine ⟨r, e, g.kept hg ?_⟩
    cases hk : r.ownBlock with
    | none => exact .inl rfl
    | some k =>
      refine .inr fun e => ?_
      have := hb k e.symm
      have := (g.lt k hk).2
      omega⟩
theorem Rows.snoc {B : Nat} {w : World} {vs : List Value} {to : List (List Int)} {r : Value} {row : List Int} (h : Rows B w vs to) (g : w.ownsRow B 3 1 r row.length (intsV row)) : Rows B w (vs ++ [r]) (to ++ [row]) := by
  refine ⟨by simp [h.1], fun j hj => ?_⟩
  by_cases e : j < to.length
  · obtain ⟨r', e1, g'⟩ := h.2 j e
    exact ⟨r', by rw [List.getElem?_append_left (by rw [h.1]; exact e)]; exact e1, by rw [List.getElem?_append_left e]; exact g'⟩
  · have e2 : j = to.length := by simp at hj; omega
    subst e2
    exact ⟨r, by rw [← h.1]; simp, by simpa using g⟩
theorem Rows.graph {B e : Nat} {w : World} {v : Value} {vs : List Value} {to : List (List Int)} (h : Rows B w vs to) (ho : w.ownsRow B e 1 v to.length vs) : GraphM w.heap.size w v to :=
  ⟨vs, cells_of_row ho, h.1, fun j hj => by obtain ⟨r, e, g⟩ := h.2 j hj; exact ⟨r, e, cells_of_row g⟩⟩
theorem oneCell_ints (xs : List Int) : ∀ u ∈ intsV xs, u.oneCell' = true := by
  intro u hu
  obtain ⟨q, _, rfl⟩ := List.mem_map.1 hu
  rfl
theorem own_slice {w : World} {B e n size : Nat} {v : Value} {xs : List Value} (h : w.ownsRow B e size v n xs) : ∃ a cap, v = .slice a n cap := by
  rcases h.2 with ⟨rfl, rfl⟩ | ⟨g, cap, cur, rfl, _⟩
  · exact ⟨_, _, rfl⟩
  · exact ⟨_, _, rfl⟩
theorem cell_one (W : World) (x : Value) (t : TypeId) : ∀ j u, ([x] : List Value)[j]? = some u → (W.alloc (.cells #[x] t)).cell? ((⟨W.heap.size, 0, none⟩ : Addr).add j) = some u := by
  intro j u hj
  match j, hj with
  | 0, hj => simp at hj; subst hj; simp [Addr.add]
end Go.Proofs.YtkoofibhddkpiaaDoor.GG
namespace Go.Proofs.YtkoofibhddkpiaaDoor
open Go.RowKit
theorem Tryd.infoGInt : (Tryd.prog.info? 3).map (fun i => (i.zero, i.size, i.bytes)) = some (some (.int .i64 0), 1, 8) := by kernel_rfl
theorem Tryd.infoGRow : (Tryd.prog.info? 29).map (fun i => (i.zero, i.size, i.bytes)) = some (some (.slice none 0 0), 1, 24) := by kernel_rfl

/-- what the inner append of a copy leaves -/
theorem copy_in {B : Nat} {wr w1 : World} {W : World} {vs : List Value} {to : List (List Int)} {out v1 : Value} {row : List Int} {n : Nat} (hB : Below B W wr) (hR : GG.Rows B wr vs to) (hO : wr.ownsRow B 29 1 out n vs) (hBs : B ≤ wr.heap.size)
    (ho : w1.ownsRow B 3 1 v1 row.length (intsV row)) (hg : (wr.alloc (.cells #[] 3)).grownBy w1 (Value.slice (some ⟨wr.heap.size, 0, none⟩) 0 0).ownBlock) :
    GG.Rows B w1 (vs ++ [v1]) (to ++ [row]) ∧ w1.ownsRow B 29 1 out n vs ∧ Below B W w1 ∧ B ≤ w1.heap.size := by
  have hl : (GG.Rows B w1 vs to) := by
    refine ⟨hR.1, fun j hj => ?_⟩
    obtain ⟨r, e, g⟩ := hR.2 j hj
    refine ⟨r, e, (g.alloc _).kept hg ?_⟩
    cases hk : r.ownBlock with
    | none => exact .inl rfl
    | some k =>
      refine .inr fun e => ?_
      have := (g.lt k hk).2
      simp [Value.ownBlock] at e
      omega
  refine ⟨hl.snoc ho, (hO.alloc _).kept hg ?_, (hB.alloc hBs _).grown hg (by simp; omega) (fun k e => by simp [Value.ownBlock] at e; omega), ?_⟩
  · cases hk : out.ownBlock with
    | none => exact .inl rfl
    | some k =>
      refine .inr fun e => ?_
      have := (hO.lt k hk).2
      simp [Value.ownBlock] at e
      omega
  · have := hg.size; simp at this; omega

set_option maxRecDepth 100000 in
set_option maxHeartbeats 1600000 in
theorem copyG_any (a : Value) (to : List (List Int)) (w : World) (ha : GraphM w.heap.size w a to) (hx : Small to) (hl : to.length ≤ 4294967296) :
    Calls Tryd.prog 9 #[a] w fun e w' => ∃ v, e = .returned v ∧ GraphM w'.heap.size w' v to ∧ Below w.heap.size w w' := by
  obtain ⟨aa, ca, rfl⟩ := ha.form
  obtain ⟨i0, hi, hz0, hz1, hz2⟩ := info_parts Tryd.infoGInt
  obtain ⟨j0, hj, hy0, hy1, hy2⟩ := info_parts Tryd.infoGRow
  have HA := Lib.hid ha
  have HX := Lib.hid hx
  clear ha hx
  go_enter Tryd.func9, Tryd.ntmps9
  go_wp2_with fail
  go_loopw [3, 4] (fun o k wr => ∃ (i : Nat) (vs : List Value), i ≤ to.length ∧ k = .int .i64 (i : Int) ∧ wr.ownsRow w.heap.size 29 1 o i vs ∧ GG.Rows w.heap.size wr vs (to.take i) ∧ Below w.heap.size w wr) (fun _ k _ => to.length - (intOf k).toNat)
  case atStart => exact ⟨0, [], by omega, rfl, World.ownsRow_nil _ _ _ _, GG.Rows.nil _ _, Below.refl _ _⟩
  case round =>
    obtain ⟨i, vs, hi', rfl, hO, hR, hB⟩ := hrel
    have HO := Lib.hid hO
    have HR := Lib.hid hR
    have HB := Lib.hid hB
    clear hO hR hB
    by_cases hlt : i < to.length
    · obtain ⟨xb, xo, xc, e1⟩ := HA.out.addr (by omega)
      cases e1
      have HB1 := Lib.hid (HB.out.alloc HB.out.size (.cells #[] 3))
      obtain ⟨ra, rac, hx1, hrx⟩ := (HA.out.below HB1.out).at hlt
      have i1 : (0 : Int) ≤ i ∧ (i : Int) < to.length := by omega
      have b1 := HX.out.row i
      have HT := Lib.hid (show to.take i ++ [to[i]?.getD []] = to.take (i + 1) by rw [List.take_succ_eq_append_getElem hlt, List.getElem?_eq_getElem hlt]; rfl)
      obtain ⟨r, er⟩ : ∃ r, r = to[i]?.getD [] := ⟨_, rfl⟩
      rw [← er] at hx1 hrx b1 HT
      have HRX := Lib.hid (Cells.src (show Cells w.heap.size (wr.alloc (.cells #[] 3)) (.slice ra r.length rac) (intsV r) from hrx))
      clear er hrx
      go_wp2_with (first
        | (at_builtin
           refine GG.wpList_append_any rfl _ _ 29 rfl w.heap.size 3 i0 (.int .i64 0) 1 8 Tryd.underlying29 hi hz0 hz1 hz2 rfl (by decide) (.slice (some ⟨wr.heap.size, 0, none⟩) 0 0) 0 [] rfl (GG.lit_row wr HB.out.size (by decide) rfl) (.slice ra r.length rac) r.length (intsV r) rfl (by rw [intsV_len, Nat.mul_one]) (by have h := HRX.out; rw [intsV_len] at h; exact h) (GG.oneCell_ints r) (by unfold maxLen; omega) (by omega) (by have := HB.out.size; simp; omega) ?_
           intro v1 w1 ho hg
           rw [Nat.zero_add, List.nil_append] at ho
           obtain ⟨va, vc, rfl⟩ := GG.own_slice ho
           have HC := Lib.hid (copy_in HB.out HR.out HO.out HB.out.size ho hg)
           clear ho hg)
        | (at_builtin
           refine GG.wpList_append_any rfl _ _ 24 rfl w.heap.size 29 j0 (.slice none 0 0) 1 24 Tryd.underlying24 hj hy0 hy1 hy2 rfl (by decide) u3 i vs rfl (HC.out.2.1.alloc _) (.slice (some ⟨w1.heap.size, 0, none⟩) 1 1) 1 [.slice va r.length vc] rfl rfl (.inr ⟨_, _, rfl, GG.cell_one _ _ _⟩) (by intro u hu; rw [List.mem_singleton.1 hu]; rfl) (by unfold maxLen; omega) (by omega) (by have := HC.out.2.2.2; simp; omega) ?_
           intro v2 w2 ho hg
           have HD := Lib.hid (show w2.ownsRow w.heap.size 29 1 v2 (i + 1) (vs ++ [.slice va r.length vc]) ∧ GG.Rows w.heap.size w2 (vs ++ [.slice va r.length vc]) (to.take (i + 1)) ∧ Below w.heap.size w w2 from ⟨ho, by rw [← HT.out]; exact (HC.out.1.alloc _).kept (HC.out.2.1.alloc _) (by decide) hg, (HC.out.2.2.1.alloc HC.out.2.2.2 _).grown hg (by have := HC.out.2.2.2; simp; omega) (fun k e => (HC.out.2.1.lt k e).1)⟩)
           clear ho hg))
      go_roundw
      case rel => exact ⟨i + 1, _, by omega, by go_num, HD.out.1, HD.out.2.1, HD.out.2.2⟩
      case measure => simp [intOf]; omega
    · have HS := Lib.hid (show i = to.length ∧ to.take i = to from ⟨by omega, List.take_of_length_le (by omega)⟩)
      have HE := Lib.hid (show GraphM wr.heap.size wr u3 to by
        have h1 := HR.out
        have h2 := HO.out
        rw [HS.out.2] at h1
        rw [HS.out.1] at h2
        exact h1.graph h2)
      go_wp2_with fail
      go_ret
      exact ⟨_, rfl, HE.out, HB.out⟩
end Go.Proofs.YtkoofibhddkpiaaDoor
