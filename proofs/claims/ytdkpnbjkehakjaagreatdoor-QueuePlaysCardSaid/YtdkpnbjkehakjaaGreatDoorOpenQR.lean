import Derived.Test.YtdkpnbjkehakjaaGreatDoorOpenP
import Derived.Test.YtdkpnbjkehakjaaGreatDoorQuE
import Derived.Deep.Matrix
set_option linter.unusedSimpArgs false
set_option linter.unusedVariables false
/-! the arguments of layer 15's laws -/
namespace Go.Proofs.YtdkpnbjkehakjaaGreatDoor
open Go.ChangeShapes Go.WideShapes Go.ChangeAt Go.RowKit Go.Deep Go.Joins
theorem addr_plainQ {W : World} {y : Addr} {v : Value} (h : W.cell? y = some v) : ∃ b off, y = ⟨b, off, none⟩ ∧ b < W.heap.size := by
  obtain ⟨b, off, spot⟩ := y
  have hspot : spot = none := by simpa using World.cell?_spot h
  subst hspot
  refine ⟨b, off, rfl, ?_⟩
  apply Classical.byContradiction; intro hn
  simp [World.cell?, Array.getElem?_eq_none (Nat.le_of_not_lt hn)] at h
theorem open_rows64 {H : Type} {enc : TypeId × Value → H} {W : World} {fuel : Nat} {a : Option Addr} {len cap : Nat} {x : DataW H × List MemPlace}
    (hf : DataW.trod enc Tryz.prog W 0 (fun _ => true) true fuel 27 (Value.slice a len cap).cells.toList = some x) (hsz : ∀ n ∈ x.1.weights Tryz.prog 27, n ≤ reachBytes) :
    ∃ tq, GraphM W.heap.size W (.slice a len cap) tq ∧ Small tq := by
  rcases open_int_rows Tryz.underlying27 Tryz.underlying29 Tryz.underlying2 (by kernel_rfl) (by kernel_rfl) hf with ⟨hcs, _⟩ | ⟨y, l, c, A, L, C, Z, hcs, _, hl, hm, hx, hr⟩
  · simp [Value.cells] at hcs
    obtain ⟨rfl, rfl, rfl⟩ := hcs
    exact ⟨[], ⟨[], cells_empty _ _ _ _ (fun _ => rfl), rfl, fun j hj => absurd hj (Nat.not_lt_zero _)⟩, ⟨by simp, by simp⟩⟩
  · simp [Value.cells] at hcs
    obtain ⟨rfl, rfl, rfl⟩ := hcs
    have hd := (Prod.mk.inj (hx.trans rfl)).1
    have e1 : reachBytes = 140737488351232 := by decide
    have b24 : Tryz.prog.bytesOf 29 = 24 := by kernel_rfl
    have b8 : Tryz.prog.bytesOf 2 = 8 := by kernel_rfl
    have hx1 : x.1 = _ := (congrArg Prod.fst hx)
    have hlen : len ≤ 17592186044416 := by
      have h := hsz ((len + (cap - len)) * 24) (by
        rw [hx1]
        simp only [DataW.weights, Tryz.underlying27, b24, List.mem_cons, List.length_map, List.length_range]
        exact .inl trivial)
      rw [e1] at h
      omega
    have hrow : ∀ r, r < len → L r ≤ 17592186044416 := by
      intro r hrl
      obtain ⟨_, h1, _, h3, _, h5, h6⟩ := hr r (by omega)
      cases hA : A r with
      | none => have := h5 hA; omega
      | some a' =>
        have h := hsz (((Z r).take (L r)).length * 8 + ((Z r).drop (L r)).length * 8) (by
          rw [hx1]
          simp only [DataW.weights, Tryz.underlying27]
          refine List.mem_cons_of_mem _ (List.mem_append_left _ (weightsAll_mem6 (d := intRow .i64 (A r) (L r) (Z r)) (List.mem_map.2 ⟨r, List.mem_range.2 hrl, rfl⟩) ?_))
          simp only [intRow, hA, DataW.weights, Tryz.underlying29, b8, lits, List.length_map]
          exact List.mem_cons.2 (.inl (by rw [Nat.add_mul])))
        rw [e1, List.length_take, List.length_drop] at h
        omega
    refine ⟨(List.range len).map fun r => (Z r).take (L r), ⟨(List.range len).map fun r => .slice (A r) (L r) (C r), ?_, by simp, fun j hj => ?_⟩, ⟨by simpa using hlen, fun row hrow' => ?_⟩⟩
    · by_cases h0 : len = 0
      · subst h0; exact .inl ⟨⟨some y, cap, rfl, fun e => by cases e⟩, rfl⟩
      · have hc := (hr 0 (by omega)).1
        rw [show y.add 0 = y from by cases y; rename_i s; cases s <;> simp [Addr.add]] at hc
        obtain ⟨b, off, rfl, hlt⟩ := addr_plainQ hc
        refine .inr ⟨b, off, cap, by simp, hlt, by simpa using hl, fun j u hj => ?_⟩
        have hjn : j < len := by
          have := (List.getElem?_eq_some_iff.1 hj).1
          simpa using this
        rw [List.getElem?_map, List.getElem?_range hjn] at hj
        have := (hr j (by omega)).1
        rw [Addr.add_lit] at this
        rw [this]; exact hj
    · have hjn : j < len := by simpa using hj
      obtain ⟨_, h1, _, h3, _, h5, h6⟩ := hr j (by omega)
      refine ⟨_, by rw [List.getElem?_map, List.getElem?_range hjn]; rfl, ?_⟩
      rw [List.getElem?_map, List.getElem?_range hjn]
      simp only [Option.map_some, Option.getD_some]
      by_cases h0 : L j = 0
      · rw [h0, List.take_zero]
        exact cells_empty _ _ _ _ h5
      · cases hA : A j with
        | none => have := h5 hA; omega
        | some a' =>
          obtain ⟨_, hcell⟩ := h6 a' hA
          have hc := hcell 0 (by omega)
          rw [show a'.add 0 = a' from by cases a'; rename_i s; cases s <;> simp [Addr.add]] at hc
          obtain ⟨b, off, rfl, hlt⟩ := addr_plainQ hc
          have htl : ((Z j).take (L j)).length = L j := by rw [List.length_take]; omega
          refine .inr ⟨b, off, C j, by rw [intsV_len, htl], hlt, by rw [intsV_len, htl]; exact h1, fun k u hk => ?_⟩
          have hkn : k < L j := by
            have := (List.getElem?_eq_some_iff.1 hk).1
            rwa [intsV_len, htl] at this
          have h7 := hcell k (by omega)
          rw [Addr.add_lit] at h7
          rw [h7]
          rw [intsV_at (by omega), List.getElem?_take_of_lt hkn] at hk
          rw [List.getD_eq_getElem?_getD]
          exact hk
    · obtain ⟨r, hr1, rfl⟩ := List.mem_map.1 hrow'
      have := hrow r (List.mem_range.1 hr1)
      rw [List.length_take]; omega

theorem slice_of {H : Type} {enc : TypeId × Value → H} {W : World} {fuel : Nat} {v : Value} {x : DataW H × List MemPlace} (hf : DataW.trod enc Tryz.prog W 0 (fun _ => true) true fuel 27 [v] = some x) : ∃ a n c, v = .slice a n c := by
  rcases open_slice Tryz.underlying27 hf with ⟨hcs, _⟩ | ⟨y, l, c, m, n, D, Pl, hcs, _⟩
  · simp at hcs; exact ⟨_, _, _, hcs⟩
  · simp at hcs; exact ⟨_, _, _, hcs⟩
instance : Inhabited Ev := ⟨ev0⟩
section
variable {H : Type} {enc : TypeId × Value → H} {W : World} {fuel : Nat} {v : Value} {x : DataW H × List MemPlace}
set_option maxRecDepth 100000 in
/-- an event's cells, read -/
theorem open_ev {cs : List Value} (hl : cs.length = 5) (h : DataW.trod enc Tryz.prog W 0 (fun _ => true) true fuel 44 cs = some x) : ∃ e : Ev, cs = evC e := by
  have c1 : Tryz.prog.cellsOf 5 = 1 := by kernel_rfl
  have c2 : Tryz.prog.cellsOf 3 = 1 := by kernel_rfl
  have c3 : Tryz.prog.cellsOf 2 = 1 := by kernel_rfl
  obtain ⟨xs, k, _, _, _, hxl, hg⟩ := DataW.trod_struct Tryz.underlying44 h
  match xs, hxl, cs, hl with
  | [y0, y1, y2, y3, y4], _, [u0, u1, u2, u3, u4], _ =>
    have g0 := hg 0 _ rfl
    have g1 := hg 1 _ rfl
    have g2 := hg 2 _ rfl
    have g3 := hg 3 _ rfl
    have g4 := hg 4 _ rfl
    simp [c1] at g0
    simp [c2] at g1 g3 g4
    simp [c3] at g2
    obtain ⟨n0, e0, _, _⟩ := DataW.trod_int Tryz.underlying5 g0
    obtain ⟨n1, e1, _, _⟩ := DataW.trod_int Tryz.underlying3 g1
    obtain ⟨n2, e2, _, _⟩ := DataW.trod_int Tryz.underlying2 g2
    obtain ⟨n3, e3, _, _⟩ := DataW.trod_int Tryz.underlying3 g3
    obtain ⟨n4, e4, _, _⟩ := DataW.trod_int Tryz.underlying3 g4
    simp at e0 e1 e2 e3 e4
    subst e0 e1 e2 e3 e4
    exact ⟨⟨n0, n1, n2, n3, n4⟩, rfl⟩
/-- a slice of events that came in -/
theorem open_events (hf : DataW.trod enc Tryz.prog W 0 (fun _ => true) true fuel 37 [v] = some x) (hsz : ∀ n ∈ x.1.weights Tryz.prog 37, n ≤ reachBytes) :
    ∃ es, EvRow W.heap.size W v es ∧ es.length * 40 ≤ 140737488351232 := by
  rcases open_slice Tryz.underlying37 hf with ⟨hcs, _⟩ | ⟨y, l, c, m, n, D, Pl, hcs, _, hl, hm, hmm, hx, hel⟩
  · simp at hcs
    subst hcs
    exact ⟨[], .inl ⟨⟨_, _, rfl, fun _ => rfl⟩, rfl⟩, by decide⟩
  · simp at hcs
    subst hcs
    have hm' : m = c := by simpa using hmm
    have ce : Tryz.prog.cellsOf 44 = 5 := by kernel_rfl
    have each : ∀ i, i < l → ∃ q : Ev, ∀ k u, (evC q)[k]? = some u → W.cell? (y.add (i * 5 + k)) = some u := by
      intro i hi
      obtain ⟨cs', h1, h2⟩ := hel i (by omega)
      rw [ce] at h1
      obtain ⟨_, hlen, hcell⟩ := World.cells?_some h1
      obtain ⟨e, rfl⟩ := open_ev hlen h2
      refine ⟨e, fun k u hk => ?_⟩
      have hk5 : k < 5 := (List.getElem?_eq_some_iff.1 hk).1
      have c0 := hcell k hk5
      rw [add_add] at c0
      rw [c0]
      exact hk
    obtain ⟨q, hq⟩ := choose_lt each
    have hb : l * 40 ≤ 140737488351232 := by
      have hw := hsz
      rw [hx] at hw
      have := first_weight Tryz.underlying37 hw
      have e2 : Tryz.prog.bytesOf 44 = 40 := by kernel_rfl
      rw [e2, List.length_map, List.length_range, List.length_map, List.length_range] at this
      omega
    refine ⟨(List.range l).map q, ?_, by simpa using hb⟩
    by_cases h0 : l = 0
    · subst h0; exact .inl ⟨⟨_, _, rfl, fun e => by cases e⟩, rfl⟩
    · have hc := hq 0 (by omega) 0 _ rfl
      rw [show y.add (0 * 5 + 0) = y from by cases y; rename_i s; cases s <;> simp [Addr.add]] at hc
      obtain ⟨b, off, rfl, hlt⟩ := addr_plainQ hc
      refine .inr ⟨b, off, c, by simp, hlt, by simpa using hl, fun j hj k u hk => ?_⟩
      have hj' : j < l := by simpa using hj
      rw [List.getElem?_map, List.getElem?_range hj'] at hk
      have := hq j hj' k u hk
      rw [Addr.add_lit] at this
      simpa [Nat.add_assoc] using this
end
end Go.Proofs.YtdkpnbjkehakjaaGreatDoor

/-! the arguments of layer 15's laws: calls; what is asked -/
namespace Go.Proofs.YtdkpnbjkehakjaaGreatDoor
open Go.ChangeShapes Go.WideShapes Go.ChangeAt Go.RowKit Go.Deep Go.Joins
section
variable {H : Type} {enc : TypeId × Value → H} {W : World} {fuel : Nat} {x : DataW H × List MemPlace}
set_option maxRecDepth 100000 in
/-- a call's cells, read -/
theorem open_opL {cs : List Value} (hl : cs.length = 7) (h : DataW.trod enc Tryz.prog W 0 (fun _ => true) true fuel 46 cs = some x) : ∃ (k i : Int) (e : Ev), cs = .int .i64 k :: .int .i64 i :: evC e := by
  have c2 : Tryz.prog.cellsOf 3 = 1 := by kernel_rfl
  have c5 : Tryz.prog.cellsOf 44 = 5 := by kernel_rfl
  obtain ⟨xs, k, _, _, _, hxl, hg⟩ := DataW.trod_struct Tryz.underlying46 h
  match xs, hxl, cs, hl with
  | [y0, y1, y2], _, [u0, u1, u2, u3, u4, u5, u6], _ =>
    have g0 := hg 0 _ rfl
    have g1 := hg 1 _ rfl
    have g2 := hg 2 _ rfl
    simp [c2] at g0 g1
    simp [c5] at g2
    obtain ⟨n0, e0, _, _⟩ := DataW.trod_int Tryz.underlying3 g0
    obtain ⟨n1, e1, _, _⟩ := DataW.trod_int Tryz.underlying3 g1
    obtain ⟨e, he⟩ := open_ev rfl g2
    simp at e0 e1
    subst e0 e1
    exact ⟨n0, n1, e, by rw [← he]⟩
end
set_option maxRecDepth 100000 in
/-- a call that came in -/
theorem open_op {H : Type} {enc : TypeId × Value → H} {r : Reach} {b0 : Nat} {W : World} {v : Value} {d : DataW H} {p : List MemPlace}
    (hv : Value.okWide Tryz.prog W r b0 46 v) (h : DataW.Trod enc Tryz.prog W 0 (fun _ => true) true 46 v d p) :
    ∃ (k i : Int) (e : Ev), v = .agg #[.int .i64 k, .int .i64 i, .int .u8 e.k, .int .i64 e.r, .int .i64 e.v, .int .i64 e.f, .int .i64 e.a] := by
  obtain ⟨cs, rfl, hcs⟩ := okWide_struct Tryz.underlying46 hv
  obtain ⟨l⟩ := cs
  have c7 : Tryz.prog.cellsOf 46 = 7 := by kernel_rfl
  obtain ⟨fuel, hf⟩ := h
  obtain ⟨k, i, e, he⟩ := open_opL (cs := l) (hcs.trans c7) hf
  exact ⟨k, i, e, by rw [he]; rfl⟩
set_option maxRecDepth 100000 in
/-- a policy, out of its cells -/
theorem open_polL {H : Type} {enc : TypeId × Value → H} {W : World} {fuel : Nat} {cs : List Value} {d : DataW H} {p : List MemPlace} (hl : cs.length = 5)
    (hf : DataW.trod enc Tryz.prog W 0 (fun _ => true) true fuel 26 cs = some (d, p)) (hsz : ∀ n ∈ d.weights Tryz.prog 26, n ≤ reachBytes) :
    ∃ (v0 v1 v2 v3 : Value) (st : PSt) (S : List Int), cs = [v0, v1, v2, v3, .int .i64 st.D] ∧ PolIn W v0 v1 v2 v3 st S ∧ Wide S ∧ (∀ j, j < st.L.length → (wd6 st.L j).size ≤ 140737488351232) ∧ (∀ j, j < st.I.length → (chAt st.I j).1.size ≤ 140737488351232) ∧ ∀ j, j < st.O.length → (chAt st.O j).1.size ≤ 140737488351232 := by
  have k0 : Tryz.prog.cellsOf 22 = 1 := by kernel_rfl
  have k1 : Tryz.prog.cellsOf 23 = 1 := by kernel_rfl
  have k2 : Tryz.prog.cellsOf 24 = 1 := by kernel_rfl
  have k4 : Tryz.prog.cellsOf 3 = 1 := by kernel_rfl
  obtain ⟨xs, n, _, hx, _, hxl, hg⟩ := DataW.trod_struct Tryz.underlying26 hf
  match xs, hxl, cs, hl with
  | [y0, y1, y2, y3, y4], _, [u0, u1, u2, u3, u4], _ =>
    have g0 := hg 0 _ rfl
    have g1 := hg 1 _ rfl
    have g2 := hg 2 _ rfl
    have g3 := hg 3 _ rfl
    have g4 := hg 4 _ rfl
    simp [k0] at g0
    simp [k1] at g1
    simp [k2] at g2 g3
    simp [k4] at g4
    have hd : d = .agg [y0.1, y1.1, y2.1, y3.1, y4.1] := by simpa using (Prod.mk.inj hx).1
    subst hd
    have hw : ∀ n, n ∈ y0.1.weights Tryz.prog 22 ∨ n ∈ y1.1.weights Tryz.prog 23 ∨ n ∈ y2.1.weights Tryz.prog 24 ∨ n ∈ y3.1.weights Tryz.prog 24 → n ≤ reachBytes := by
      intro n hn
      refine hsz n ?_
      simp only [DataW.weights, Tryz.underlying26]
      simp only [DataW.weightsEach, List.map_cons, List.map_nil, List.mem_append]
      rcases hn with hn | hn | hn | hn
      · exact .inl hn
      · exact .inr (.inl hn)
      · exact .inr (.inr (.inl hn))
      · exact .inr (.inr (.inr (.inl hn)))
    obtain ⟨L, a1, a2, a3⟩ := open_strs g0 (fun n hn => hw n (.inl hn))
    obtain ⟨S, b1, b2, b3, b4⟩ := open_masks g1 (fun n hn => hw n (.inr (.inl hn)))
    obtain ⟨I, d1, d2, d3, d4⟩ := open_chans g2 (fun n hn => hw n (.inr (.inr (.inl hn))))
    obtain ⟨O, e1, e2, e3, e4⟩ := open_chans g3 (fun n hn => hw n (.inr (.inr (.inr hn))))
    obtain ⟨D, f1, _, f2⟩ := DataW.trod_int Tryz.underlying3 g4
    simp at f1
    subst f1
    exact ⟨u0, u1, u2, u3, ⟨L, I, O, D, []⟩, S, rfl, ⟨a1, b1, d1, e1, b2, a2, b4, d3, e3⟩, b3, a3, d4, e4⟩
end Go.Proofs.YtdkpnbjkehakjaaGreatDoor
