import Derived.Test.YtdkpnbjkehakjaaGreatDoorPolE
import Derived.Test.YtdkpnbjkehakjaaGreatDoorPrnL
import Derived.Deep.Slices
import Derived.Lib.SmallJoins
import Derived.OpenShut
import Derived.ChangeArms
import Derived.ChangeSlices
import Derived.ChangeSame
import Derived.SizedLaws
set_option linter.unusedSimpArgs false
set_option linter.unusedVariables false
/-! the arguments of layer 6's laws: a policy -/
namespace Go.Proofs.YtdkpnbjkehakjaaGreatDoor
open Go.ChangeShapes Go.WideShapes Go.ChangeAt Go.RowKit Go.Deep Go.Joins

section
variable {H : Type} {enc : TypeId × Value → H} {W : World} {fuel : Nat} {v : Value} {x : DataW H × List MemPlace}
theorem first_weight {P : Program} {t e : TypeId} {A B : List (DataW H)} (ht : P.underlying t = some (.slice e)) (hsz : ∀ n ∈ (DataW.slice A B : DataW H).weights P t, n ≤ reachBytes) : (A.length + B.length) * P.bytesOf e ≤ 140737488351232 := by
  have e1 : reachBytes = 140737488351232 := by decide
  rw [← e1]
  refine hsz _ ?_
  simp only [DataW.weights, ht]
  exact List.mem_cons_self ..
theorem weightsAll_mem6 {P : Program} {e : TypeId} {d : DataW H} {n : Nat} : ∀ {l : List (DataW H)}, d ∈ l → n ∈ d.weights P e → n ∈ DataW.weightsAll P e l
  | x :: l, hd, hn => by
    simp only [DataW.weightsAll, List.mem_append]
    rcases List.mem_cons.1 hd with rfl | hd
    · exact .inl hn
    · exact .inr (weightsAll_mem6 hd hn)
/-- a slice of texts that came in -/
theorem open_strs (hf : DataW.trod enc Tryz.prog W 0 (fun _ => true) true fuel 22 [v] = some x) (hsz : ∀ n ∈ x.1.weights Tryz.prog 22, n ≤ reachBytes) :
    ∃ ss, Strs W.heap.size W v ss ∧ ss.length * 16 ≤ 140737488351232 ∧ ∀ j, j < ss.length → (wd6 ss j).size ≤ 140737488351232 := by
  rcases open_slice Tryz.underlying22 hf with ⟨hcs, _⟩ | ⟨y, l, c, m, n, D, Pl, hcs, _, hl, hm, hmm, hx, hel⟩
  · simp at hcs
    subst hcs
    exact ⟨[], .inl ⟨⟨_, _, rfl, fun _ => rfl⟩, rfl⟩, by decide, fun j hj => absurd hj (Nat.not_lt_zero _)⟩
  · simp at hcs
    subst hcs
    have hm' : m = c := by simpa using hmm
    have ce : Tryz.prog.cellsOf 9 = 1 := by kernel_rfl
    have eR : reachBytes = 140737488351232 := by decide
    have each : ∀ i, i < l → ∃ q : ByteArray, W.cell? (y.add i) = some (.string q) ∧ q.size ≤ 140737488351232 := by
      intro i hi
      obtain ⟨cs', h1, h2⟩ := hel i (by omega)
      rw [ce, Nat.mul_one] at h1
      obtain ⟨_, hlen, hcell⟩ := World.cells?_some h1
      obtain ⟨s, rfl, hD, _⟩ := DataW.trod_string Tryz.underlying9 h2
      have c0 := hcell 0 (by omega)
      rw [add_add] at c0
      have hDi : D i = .lit (.string s.data.toList) := (Prod.mk.inj hD).1
      have hw := hsz s.data.toList.length (by
        rw [hx]
        simp only [DataW.weights, Tryz.underlying22]
        exact List.mem_cons_of_mem _ (List.mem_append_left _ (weightsAll_mem6 (d := D i) (List.mem_map.2 ⟨i, List.mem_range.2 hi, rfl⟩) (by rw [hDi]; simp [DataW.weights]))))
      rw [eR] at hw
      exact ⟨s, by simpa using c0, by simpa using hw⟩
    obtain ⟨q, hq⟩ := choose_lt each
    have hb : l * 16 ≤ 140737488351232 := by
      have hw := hsz
      rw [hx] at hw
      have := first_weight Tryz.underlying22 hw
      have e2 : Tryz.prog.bytesOf 9 = 16 := by kernel_rfl
      rw [e2, List.length_map, List.length_range, List.length_map, List.length_range] at this
      omega
    refine ⟨(List.range l).map q, ?_, by simpa using hb, fun j hj => by
      have hj' : j < l := by simpa using hj
      unfold wd6
      rw [List.getElem?_map, List.getElem?_range hj']
      exact (hq j hj').2⟩
    by_cases h0 : l = 0
    · subst h0; exact .inl ⟨⟨_, _, rfl, fun e => by cases e⟩, rfl⟩
    · obtain ⟨b, off, spot⟩ := y
      have hc := (hq 0 (by omega)).1
      have hspot : spot = none := by simpa [Addr.add] using World.cell?_spot hc
      subst hspot
      have hlt : b < W.heap.size := by
        apply Classical.byContradiction; intro hn
        simp [World.cell?, Addr.add, Array.getElem?_eq_none (Nat.le_of_not_lt hn)] at hc
      refine .inr ⟨b, off, c, by simp, hlt, by simpa using hl, fun j hj => ?_⟩
      have hj' : j < l := by simpa using hj
      have := (hq j hj').1
      rw [Addr.add_lit] at this
      rw [List.getElem?_map, List.getElem?_range hj']
      exact this
/-- a slice of masks that came in -/
theorem open_masks (hf : DataW.trod enc Tryz.prog W 0 (fun _ => true) true fuel 23 [v] = some x) (hsz : ∀ n ∈ x.1.weights Tryz.prog 23, n ≤ reachBytes) :
    ∃ xs, Nums .u64 W.heap.size W v xs ∧ (∀ c, v = .slice none 0 c → c = 0) ∧ Wide xs ∧ xs.length * 8 ≤ 140737488351232 := by
  rcases open_slice Tryz.underlying23 hf with ⟨hcs, _⟩ | ⟨y, l, c, m, n, D, Pl, hcs, _, hl, hm, hmm, hx, hel⟩
  · simp at hcs
    subst hcs
    exact ⟨[], .inl ⟨⟨_, _, rfl⟩, rfl⟩, fun c e => by cases e; rfl, (fun x hx => by simp at hx), by decide⟩
  · simp at hcs
    subst hcs
    have hm' : m = c := by simpa using hmm
    have ce : Tryz.prog.cellsOf 117 = 1 := by kernel_rfl
    have each : ∀ i, i < l → ∃ q : Int, W.cell? (y.add i) = some (.int .u64 q) ∧ 0 ≤ q ∧ q ≤ 18446744073709551615 := by
      intro i hi
      obtain ⟨cs', h1, h2⟩ := hel i (by omega)
      rw [ce, Nat.mul_one] at h1
      obtain ⟨_, hlen, hcell⟩ := World.cells?_some h1
      obtain ⟨s, rfl, _, hw⟩ := DataW.trod_int Tryz.underlying117 h2
      have c0 := hcell 0 (by omega)
      rw [add_add] at c0
      exact ⟨s, by simpa using c0, wf_u64_bd hw⟩
    obtain ⟨q, hq⟩ := choose_lt each
    have hb : l * 8 ≤ 140737488351232 := by
      have hw := hsz
      rw [hx] at hw
      have := first_weight Tryz.underlying23 hw
      have e2 : Tryz.prog.bytesOf 117 = 8 := by kernel_rfl
      rw [e2, List.length_map, List.length_range, List.length_map, List.length_range] at this
      omega
    refine ⟨(List.range l).map q, ?_, (fun c e => by cases e), (fun z hz => ?_), by simpa using hb⟩
    · by_cases h0 : l = 0
      · subst h0; exact .inl ⟨⟨_, _, rfl⟩, rfl⟩
      · obtain ⟨b, off, spot⟩ := y
        have hc := (hq 0 (by omega)).1
        have hspot : spot = none := by simpa [Addr.add] using World.cell?_spot hc
        subst hspot
        have hlt : b < W.heap.size := by
          apply Classical.byContradiction; intro hn
          simp [World.cell?, Addr.add, Array.getElem?_eq_none (Nat.le_of_not_lt hn)] at hc
        refine .inr ⟨b, off, c, by simp, hlt, by simpa using hl, fun j hj => ?_⟩
        have hj' : j < l := by simpa using hj
        have := (hq j hj').1
        rw [Addr.add_lit] at this
        rw [List.getElem?_map, List.getElem?_range hj']
        exact this
    · obtain ⟨j, hj, rfl⟩ := List.mem_map.1 hz
      exact (hq j (List.mem_range.1 hj)).2
set_option maxRecDepth 100000 in
/-- a slice of channels that came in -/
theorem open_chans (hf : DataW.trod enc Tryz.prog W 0 (fun _ => true) true fuel 24 [v] = some x) (hsz : ∀ n ∈ x.1.weights Tryz.prog 24, n ≤ reachBytes) :
    ∃ cs, Chans W.heap.size W v cs ∧ (∀ p ∈ cs, (Lit.int .i64 p.2).wf = true) ∧ cs.length * 24 ≤ 140737488351232 ∧ ∀ j, j < cs.length → (chAt cs j).1.size ≤ 140737488351232 := by
  rcases open_slice Tryz.underlying24 hf with ⟨hcs, _⟩ | ⟨y, l, c, m, n, D, Pl, hcs, _, hl, hm, hmm, hx, hel⟩
  · simp at hcs
    subst hcs
    exact ⟨[], .inl ⟨⟨_, _, rfl, fun _ => rfl⟩, rfl⟩, (fun x hx => by simp at hx), by decide, fun j hj => absurd hj (Nat.not_lt_zero _)⟩
  · simp at hcs
    subst hcs
    have hm' : m = c := by simpa using hmm
    have eR : reachBytes = 140737488351232 := by decide
    have ce : Tryz.prog.cellsOf 101 = 2 := by kernel_rfl
    have cs1 : Tryz.prog.cellsOf 9 = 1 := by kernel_rfl
    have ci1 : Tryz.prog.cellsOf 3 = 1 := by kernel_rfl
    have each : ∀ i, i < l → ∃ q : ByteArray × Int, W.cell? (y.add (i * 2)) = some (.string q.1) ∧ W.cell? (y.add (i * 2 + 1)) = some (.int .i64 q.2) ∧ (Lit.int .i64 q.2).wf = true ∧ q.1.size ≤ 140737488351232 := by
      intro i hi
      obtain ⟨cs', h1, h2⟩ := hel i (by omega)
      rw [ce] at h1
      obtain ⟨_, hlen, hcell⟩ := World.cells?_some h1
      obtain ⟨xs, k, _, hxD, _, hxl, hg⟩ := DataW.trod_struct Tryz.underlying101 h2
      match xs, hxl, cs', hlen with
      | [y0, y1], _, [u0, u1], _ =>
        have g0 := hg 0 _ rfl
        have g1 := hg 1 _ rfl
        simp [cs1] at g0
        simp [ci1] at g1
        obtain ⟨s, e0, hy0, _⟩ := DataW.trod_string Tryz.underlying9 g0
        obtain ⟨n1, e1, _, hw⟩ := DataW.trod_int Tryz.underlying3 g1
        have c0 := hcell 0 (by omega)
        have c1 := hcell 1 (by omega)
        rw [add_add] at c0 c1
        simp at e0 e1
        subst e0 e1
        have hDi : D i = .agg [y0.1, y1.1] := by simpa using (Prod.mk.inj hxD).1
        have hws := hsz s.data.toList.length (by
          rw [hx]
          simp only [DataW.weights, Tryz.underlying24]
          refine List.mem_cons_of_mem _ (List.mem_append_left _ (weightsAll_mem6 (d := D i) (List.mem_map.2 ⟨i, List.mem_range.2 hi, rfl⟩) ?_))
          rw [hDi]
          simp only [DataW.weights, Tryz.underlying101]
          simp only [DataW.weightsEach, List.map_cons, List.map_nil, List.mem_append]
          refine .inl ?_
          rw [hy0]
          simp [DataW.weights])
        rw [eR] at hws
        exact ⟨(s, n1), by simpa using c0, by simpa using c1, hw, by simpa using hws⟩
    obtain ⟨q, hq⟩ := choose_lt each
    have hb : l * 24 ≤ 140737488351232 := by
      have hw := hsz
      rw [hx] at hw
      have := first_weight Tryz.underlying24 hw
      have e2 : Tryz.prog.bytesOf 101 = 24 := by kernel_rfl
      rw [e2, List.length_map, List.length_range, List.length_map, List.length_range] at this
      omega
    refine ⟨(List.range l).map q, ?_, (fun p hp => ?_), by simpa using hb, fun j hj => by
      have hj' : j < l := by simpa using hj
      unfold chAt
      rw [List.getElem?_map, List.getElem?_range hj']
      exact (hq j hj').2.2.2⟩
    · by_cases h0 : l = 0
      · subst h0; exact .inl ⟨⟨_, _, rfl, fun e => by cases e⟩, rfl⟩
      · obtain ⟨b, off, spot⟩ := y
        have hc := (hq 0 (by omega)).1
        have hspot : spot = none := by simpa [Addr.add] using World.cell?_spot hc
        subst hspot
        have hlt : b < W.heap.size := by
          apply Classical.byContradiction; intro hn
          simp [World.cell?, Addr.add, Array.getElem?_eq_none (Nat.le_of_not_lt hn)] at hc
        refine .inr ⟨b, off, c, by simp, hlt, by simpa using hl, fun j hj => ?_⟩
        have hj' : j < l := by simpa using hj
        have := hq j hj'
        rw [Addr.add_lit, Addr.add_lit] at this
        rw [List.getElem?_map, List.getElem?_range hj']
        exact ⟨by simpa using this.1, by simpa [Nat.add_assoc] using this.2.1⟩
    · obtain ⟨j, hj, rfl⟩ := List.mem_map.1 hp
      exact (hq j (List.mem_range.1 hj)).2.2.1
end
set_option maxRecDepth 100000 in
/-- a policy that came in -/
theorem open_pol {H : Type} {enc : TypeId × Value → H} {r : Reach} {b0 : Nat} {W : World} {v : Value} {d : DataW H} {p : List MemPlace}
    (hv : Value.okWide Tryz.prog W r b0 26 v) (h : DataW.Trod enc Tryz.prog W 0 (fun _ => true) true 26 v d p)
    (hsz : ∀ n ∈ d.weights Tryz.prog 26, n ≤ reachBytes) :
    ∃ (v0 v1 v2 v3 : Value) (st : PSt) (S : List Int), v = .agg #[v0, v1, v2, v3, .int .i64 st.D] ∧ PolIn W v0 v1 v2 v3 st S ∧ Wide S ∧ (Lit.int .i64 st.D).wf = true ∧ (∀ q ∈ st.I, (Lit.int .i64 q.2).wf = true) ∧ (∀ q ∈ st.O, (Lit.int .i64 q.2).wf = true) ∧ (∀ j, j < st.L.length → (wd6 st.L j).size ≤ 140737488351232) ∧ (∀ j, j < st.I.length → (chAt st.I j).1.size ≤ 140737488351232) ∧ ∀ j, j < st.O.length → (chAt st.O j).1.size ≤ 140737488351232 := by
  obtain ⟨cs, rfl, hcs⟩ := okWide_struct Tryz.underlying26 hv
  obtain ⟨l⟩ := cs
  have c5 : Tryz.prog.cellsOf 26 = 5 := by kernel_rfl
  have k0 : Tryz.prog.cellsOf 22 = 1 := by kernel_rfl
  have k1 : Tryz.prog.cellsOf 23 = 1 := by kernel_rfl
  have k2 : Tryz.prog.cellsOf 24 = 1 := by kernel_rfl
  have k4 : Tryz.prog.cellsOf 3 = 1 := by kernel_rfl
  match l, hcs.trans c5 with
  | [u0, u1, u2, u3, u4], _ =>
    obtain ⟨fuel, hf⟩ := h
    obtain ⟨xs, n, _, hx, _, hxl, hg⟩ := DataW.trod_struct Tryz.underlying26 hf
    match xs, hxl with
    | [y0, y1, y2, y3, y4], _ =>
      have g0 := hg 0 _ rfl
      have g1 := hg 1 _ rfl
      have g2 := hg 2 _ rfl
      have g3 := hg 3 _ rfl
      have g4 := hg 4 _ rfl
      simp [Value.cells, k0] at g0
      simp [Value.cells, k1] at g1
      simp [Value.cells, k2] at g2 g3
      simp [Value.cells, k4] at g4
      have hd : d = .agg [y0.1, y1.1, y2.1, y3.1, y4.1] := by simpa using (Prod.mk.inj hx).1
      subst hd
      have hw : ∀ n, n ∈ y0.1.weights Tryz.prog 22 ∨ n ∈ y1.1.weights Tryz.prog 23 ∨ n ∈ y2.1.weights Tryz.prog 24 ∨ n ∈ y3.1.weights Tryz.prog 24 → n ≤ reachBytes := by
        intro n hn
        refine hsz n ?_
        simp only [DataW.weights, Tryz.underlying26]
        simp only [DataW.weightsEach, List.map_cons, List.map_nil, List.mem_append]
        rcases hn with hn | hn | hn | hn
        · exact .inl hn
        · exact .inr (.inl hn)
        · exact .inr (.inr (.inl hn))
        · exact .inr (.inr (.inr (.inl hn)))
      obtain ⟨L, a1, a2, a3⟩ := open_strs g0 (fun n hn => hw n (.inl hn))
      obtain ⟨S, b1, b2, b3, b4⟩ := open_masks g1 (fun n hn => hw n (.inr (.inl hn)))
      obtain ⟨I, d1, d2, d3, d4⟩ := open_chans g2 (fun n hn => hw n (.inr (.inr (.inl hn))))
      obtain ⟨O, e1, e2, e3, e4⟩ := open_chans g3 (fun n hn => hw n (.inr (.inr (.inr hn))))
      obtain ⟨D, f1, _, f2⟩ := DataW.trod_int Tryz.underlying3 g4
      simp at f1
      subst f1
      exact ⟨u0, u1, u2, u3, ⟨L, I, O, D, []⟩, S, rfl, ⟨a1, b1, d1, e1, b2, a2, b4, d3, e3⟩, b3, f2, d2, e2, a3, d4, e4⟩
end Go.Proofs.YtdkpnbjkehakjaaGreatDoor
