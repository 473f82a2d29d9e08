import Derived.Test.YtkoofibhddkpiaaDoorGraM
import Derived.Deep.Matrix
import Derived.OpenShut
import Derived.ChangeArms
import Derived.ChangeSlices
import Derived.SizedLaws
set_option linter.unusedSimpArgs false
set_option linter.unusedVariables false
/-! graphs: an argument of the laws, opened -/
namespace Go.Proofs.YtkoofibhddkpiaaDoor
open Go.ChangeShapes Go.WideShapes Go.RowKit Go.Deep
theorem weightsAll_mem {H : Type} {P : Program} {e : TypeId} {d : DataW H} {n : Nat} : ∀ {l : List (DataW H)}, d ∈ l → n ∈ d.weights P e → n ∈ DataW.weightsAll P e l
  | x :: l, hd, hn => by
    simp only [DataW.weightsAll, List.mem_append]
    rcases List.mem_cons.1 hd with rfl | hd
    · exact .inl hn
    · exact .inr (weightsAll_mem hd hn)
theorem addr_plain {W : World} {y : Addr} {v : Value} (h : W.cell? y = some v) : ∃ b off, y = ⟨b, off, none⟩ ∧ b < W.heap.size := by
  obtain ⟨b, off, spot⟩ := y
  have hspot : spot = none := by simpa using World.cell?_spot h
  subst hspot
  refine ⟨b, off, rfl, ?_⟩
  apply Classical.byContradiction; intro hn
  simp [World.cell?, Array.getElem?_eq_none (Nat.le_of_not_lt hn)] at h
theorem open_graph {H : Type} {enc : TypeId × Value → H} {W : World} {fuel : Nat} {a : Option Addr} {len cap : Nat} {x : DataW H × List MemPlace}
    (hf : DataW.trod enc Tryd.prog W 0 (fun _ => true) true fuel 24 (Value.slice a len cap).cells.toList = some x) (hsz : ∀ n ∈ x.1.weights Tryd.prog 24, n ≤ reachBytes) :
    ∃ to, GraphM W.heap.size W (.slice a len cap) to ∧ Small to := by
  rcases open_int_rows Tryd.underlying24 Tryd.underlying29 Tryd.underlying3 (by kernel_rfl) (by kernel_rfl) hf with ⟨hcs, _⟩ | ⟨y, l, c, A, L, C, Z, hcs, _, hl, hm, hx, hr⟩
  · simp [Value.cells] at hcs
    obtain ⟨rfl, rfl, rfl⟩ := hcs
    exact ⟨[], ⟨[], cells_empty _ _ _ _ (fun _ => rfl), rfl, fun j hj => absurd hj (Nat.not_lt_zero _)⟩, ⟨by simp, by simp⟩⟩
  · simp [Value.cells] at hcs
    obtain ⟨rfl, rfl, rfl⟩ := hcs
    have hd := (Prod.mk.inj (hx.trans rfl)).1
    have e1 : reachBytes = 140737488351232 := by decide
    have b24 : Tryd.prog.bytesOf 29 = 24 := by kernel_rfl
    have b8 : Tryd.prog.bytesOf 3 = 8 := by kernel_rfl
    have hx1 : x.1 = _ := (congrArg Prod.fst hx)
    have hlen : len ≤ 17592186044416 := by
      have h := hsz ((len + (cap - len)) * 24) (by
        rw [hx1]
        simp only [DataW.weights, Tryd.underlying24, b24, List.mem_cons, List.length_map, List.length_range]
        exact .inl trivial)
      rw [e1] at h
      omega
    have hrow : ∀ r, r < len → L r ≤ 17592186044416 := by
      intro r hrl
      obtain ⟨_, h1, _, h3, _, h5, h6⟩ := hr r (by omega)
      cases hA : A r with
      | none => have := h5 hA; omega
      | some a' =>
        have h := hsz (((Z r).take (L r)).length * 8 + ((Z r).drop (L r)).length * 8) (by
          rw [hx1]
          simp only [DataW.weights, Tryd.underlying24]
          refine List.mem_cons_of_mem _ (List.mem_append_left _ (weightsAll_mem (d := intRow .i64 (A r) (L r) (Z r)) (List.mem_map.2 ⟨r, List.mem_range.2 hrl, rfl⟩) ?_))
          simp only [intRow, hA, DataW.weights, Tryd.underlying29, b8, lits, List.length_map]
          exact List.mem_cons.2 (.inl (by rw [Nat.add_mul])))
        rw [e1, List.length_take, List.length_drop] at h
        omega
    refine ⟨(List.range len).map fun r => (Z r).take (L r), ⟨(List.range len).map fun r => .slice (A r) (L r) (C r), ?_, by simp, fun j hj => ?_⟩, ⟨by simpa using hlen, fun row hrow' => ?_⟩⟩
    · by_cases h0 : len = 0
      · subst h0; exact .inl ⟨⟨some y, cap, rfl, fun e => by cases e⟩, rfl⟩
      · have hc := (hr 0 (by omega)).1
        rw [show y.add 0 = y from by cases y; rename_i s; cases s <;> simp [Addr.add]] at hc
        obtain ⟨b, off, rfl, hlt⟩ := addr_plain hc
        refine .inr ⟨b, off, cap, by simp, hlt, by simpa using hl, fun j u hj => ?_⟩
        have hjn : j < len := by
          have := (List.getElem?_eq_some_iff.1 hj).1
          simpa using this
        rw [List.getElem?_map, List.getElem?_range hjn] at hj
        have := (hr j (by omega)).1
        rw [Addr.add_lit] at this
        rw [this]; exact hj
    · have hjn : j < len := by simpa using hj
      obtain ⟨_, h1, _, h3, _, h5, h6⟩ := hr j (by omega)
      refine ⟨_, by rw [List.getElem?_map, List.getElem?_range hjn]; rfl, ?_⟩
      rw [List.getElem?_map, List.getElem?_range hjn]
      simp only [Option.map_some, Option.getD_some]
      by_cases h0 : L j = 0
      · rw [h0, List.take_zero]
        exact cells_empty _ _ _ _ h5
      · cases hA : A j with
        | none => have := h5 hA; omega
        | some a' =>
          obtain ⟨_, hcell⟩ := h6 a' hA
          have hc := hcell 0 (by omega)
          rw [show a'.add 0 = a' from by cases a'; rename_i s; cases s <;> simp [Addr.add]] at hc
          obtain ⟨b, off, rfl, hlt⟩ := addr_plain hc
          have htl : ((Z j).take (L j)).length = L j := by rw [List.length_take]; omega
          refine .inr ⟨b, off, C j, by rw [intsV_len, htl], hlt, by rw [intsV_len, htl]; exact h1, fun k u hk => ?_⟩
          have hkn : k < L j := by
            have := (List.getElem?_eq_some_iff.1 hk).1
            rwa [intsV_len, htl] at this
          have h7 := hcell k (by omega)
          rw [Addr.add_lit] at h7
          rw [h7]
          rw [intsV_at (by omega), List.getElem?_take_of_lt hkn] at hk
          rw [List.getD_eq_getElem?_getD]
          exact hk
    · obtain ⟨r, hr1, rfl⟩ := List.mem_map.1 hrow'
      have := hrow r (List.mem_range.1 hr1)
      rw [List.length_take]; omega
end Go.Proofs.YtkoofibhddkpiaaDoor
