import Derived.Test.YthjfgfgkbfhdfaaGreatDoorLatAll
import Derived.Test.YthjfgfgkbfhdfaaGreatDoorLawLatticeRights
set_option linter.unusedSimpArgs false
set_option linter.unusedVariables false
/-! pairs that are copied -/
namespace Go.Proofs.YthjfgfgkbfhdfaaGreatDoor
open Go.RowKit
def cellsI (ps : List (Int × Int)) : List Value := ps.flatMap fun p => [.int .i64 p.1, .int .i64 p.2]
theorem cellsI_len (ps : List (Int × Int)) : (cellsI ps).length = ps.length * 2 := by
  unfold cellsI
  induction ps with
  | nil => rfl
  | cons p ps ih => simp [List.flatMap_cons] at ih ⊢; omega
theorem cellsI_get (ps : List (Int × Int)) (q : Nat) : (cellsI ps)[q * 2]? = ps[q]?.map (fun p => Value.int .i64 p.1) ∧ (cellsI ps)[q * 2 + 1]? = ps[q]?.map (fun p => Value.int .i64 p.2) := by
  unfold cellsI
  induction ps generalizing q with
  | nil => simp
  | cons p ps ih =>
    cases q with
    | zero => simp [List.flatMap_cons]
    | succ q =>
      have := ih q
      rw [show (q + 1) * 2 = q * 2 + 1 + 1 by omega]
      simpa [List.flatMap_cons] using this
theorem cellsI_one (ps : List (Int × Int)) : ∀ u ∈ cellsI ps, u.oneCell' = true := by
  intro u hu
  unfold cellsI at hu
  obtain ⟨p, _, h⟩ := List.mem_flatMap.1 hu
  simp only [List.mem_cons, List.mem_nil_iff, or_false] at h
  rcases h with rfl | rfl <;> rfl
/-- the cells of pairs that came in, in any later world -/
theorem newsP {n₀ : Nat} {w W : World} {b off : Nat} {ps : List (Int × Int)} (hb : b < n₀)
    (hc : ∀ j, j < ps.length → w.cell? ⟨b, off + j * 2, none⟩ = some (.int .i64 (ps[j]?.getD (0, 0)).1) ∧ w.cell? ⟨b, off + j * 2 + 1, none⟩ = some (.int .i64 (ps[j]?.getD (0, 0)).2))
    (hB : Below n₀ w W) : ∀ j u, (cellsI ps)[j]? = some u → W.cell? ((⟨b, off, none⟩ : Addr).add j) = some u := by
  intro j u hj
  have hl := cellsI_len ps
  have hjl : j < ps.length * 2 := by
    apply Classical.byContradiction; intro hn
    rw [List.getElem?_eq_none (by omega)] at hj; cases hj
  rw [Addr.add_lit]
  rcases Nat.mod_two_eq_zero_or_one j with h | h
  · obtain ⟨q, rfl⟩ : ∃ q, j = q * 2 := ⟨j / 2, by omega⟩
    have hq : q < ps.length := by omega
    rw [(cellsI_get ps q).1, List.getElem?_eq_getElem hq] at hj
    have := (hB.cell (p := ⟨b, off + q * 2, none⟩) hb).trans (hc q hq).1
    rw [List.getElem?_eq_getElem hq] at this
    simp at hj this
    rw [← hj]; exact this
  · obtain ⟨q, rfl⟩ : ∃ q, j = q * 2 + 1 := ⟨j / 2, by omega⟩
    have hq : q < ps.length := by omega
    rw [(cellsI_get ps q).2, List.getElem?_eq_getElem hq] at hj
    have := (hB.cell (p := ⟨b, off + q * 2 + 1, none⟩) hb).trans (hc q hq).2
    rw [List.getElem?_eq_getElem hq] at this
    simp at hj this
    rw [← hj, ← Nat.add_assoc]; exact this
theorem prs_of_row {W : World} {base : Nat} {e : TypeId} {v : Value} {ps : List (Int × Int)} (h : W.ownsRow base e 2 v ps.length (cellsI ps)) : PrsI W.heap.size W v ps := by
  have hlt := h.lt
  obtain ⟨_, ⟨rfl, h0⟩ | ⟨g, cap, cur, rfl, hb, hg, hn, hm, hs, hx⟩⟩ := h
  · exact .inl ⟨⟨_, _, rfl⟩, List.length_eq_zero_iff.1 h0⟩
  · have hget : ∀ i, i < ps.length * 2 → W.cell? ⟨g, 0 + i, none⟩ = (cellsI ps)[i]? := by
      intro i hi
      have : (cur.toList.take (ps.length * 2))[i]? = (cellsI ps)[i]? := by rw [hx]
      rw [List.getElem?_take_of_lt hi] at this
      rw [← this]
      simp [World.cell?, hg]
    refine .inr ⟨g, 0, cap, rfl, (hlt g rfl).2, hn, fun j hj => ?_⟩
    have h1 := hget (j * 2) (by omega)
    have h2 := hget (j * 2 + 1) (by omega)
    rw [(cellsI_get ps j).1, List.getElem?_eq_getElem hj] at h1
    rw [(cellsI_get ps j).2, List.getElem?_eq_getElem hj] at h2
    rw [List.getElem?_eq_getElem hj]
    exact ⟨h1, by rw [← Nat.add_assoc] at h2; exact h2⟩
theorem PrsI.below {n₀ : Nat} {A B : World} {v : Value} {ps : List (Int × Int)} (h : Below n₀ A B) : PrsI n₀ A v ps → PrsI n₀ B v ps
  | .inl e => .inl e
  | .inr ⟨b, off, cap, e, hb, hl, hc⟩ => .inr ⟨b, off, cap, e, hb, hl, fun j hj => ⟨(h.cell (p := ⟨b, off + j * 2, none⟩) hb).trans (hc j hj).1, (h.cell (p := ⟨b, off + j * 2 + 1, none⟩) hb).trans (hc j hj).2⟩⟩
theorem prsI_empty (n₀ : Nat) (W : World) (a : Option Addr) (cap : Nat) : PrsI n₀ W (.slice a 0 cap) [] := .inl ⟨⟨_, _, rfl⟩, rfl⟩

/-- what the reference's Build and the project's say of the same pairs -/
theorem build_both {n : Int} {ps : List (Int × Int)} {base : Nat} {e1 e2 : Ending} {W1 W2 : World} (h1 : BuildP n ps e1 W1) (h2 : BuildRel n ps base e2 W2) :
    ∃ (v u : Value) (S : List Int) (k : Int), e1 = .returned (.tuple #[v, .int .i64 k]) ∧ e2 = .returned (.tuple #[u, .int .i64 k]) ∧ Nums .u64 W1.heap.size W1 v S ∧ Wide S ∧ Nums .u64 W2.heap.size W2 u S ∧ S.length ≤ 64 := by
  obtain ⟨v, S, k, rfl, hv, hw, hc⟩ := h1
  rcases h2 with ⟨hbad, rfl⟩ | ⟨g1, g2, g3, T', hT', hr⟩
  · rcases hc with ⟨_, rfl, rfl⟩ | ⟨g1, g2, g3, _⟩
    · exact ⟨v, _, [], 1, rfl, rfl, hv, hw, nums_empty _ _ _ _, by simp⟩
    · exact absurd ⟨g1, g2, g3⟩ hbad
  · rcases hc with ⟨hbad, _⟩ | ⟨_, _, _, T, hT, hs⟩
    · exact absurd ⟨g1, g2, g3⟩ hbad
    · have e := LL.close_one hT hT'
      subst e
      have hln := hT.1
      rcases hs with ⟨r1, rfl, rfl⟩ | ⟨r1, rfl, rfl⟩
      · rcases hr with ⟨_, g, _, rfl, hrow⟩ | ⟨r2, _⟩
        · exact ⟨v, _, S, 0, rfl, rfl, hv, hw, hrow.nums hln, by rw [hln]; omega⟩
        · rw [r1] at r2; cases r2
      · rcases hr with ⟨r2, _⟩ | ⟨_, rfl⟩
        · rw [r1] at r2; cases r2
        · exact ⟨v, _, [], 11, rfl, rfl, hv, hw, nums_empty _ _ _ _, by simp⟩
end Go.Proofs.YthjfgfgkbfhdfaaGreatDoor
