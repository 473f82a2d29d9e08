import Derived.Test.YtgfjdnmnjabbbaaDoorPolZ
set_option linter.unusedSimpArgs false
set_option linter.unusedVariables false
/-! policy: the walk of finish -/
namespace Go.Proofs.YtgfjdnmnjabbbaaDoor
open Go.RowKit

theorem nums_on {k : IntKind} {w W : World} {v : Value} {cs : List Int} (h : Nums k w.heap.size w v cs) (hb : Below w.heap.size w W) : Nums k W.heap.size W v cs := (h.below hb).mono hb.size
theorem prs_on {w W : World} {v : Value} {ps : List (Int × Int)} (h : PrsI w.heap.size w v ps) (hb : Below w.heap.size w W) : PrsI W.heap.size W v ps := by
  rcases h with h | ⟨b, off, cap, e, hlt, hc, hcell⟩
  · exact .inl h
  · exact .inr ⟨b, off, cap, e, Nat.lt_of_lt_of_le hlt hb.size, hc, fun j hj => ⟨(hb.cell (p := ⟨b, off + j * 2, none⟩) hlt).trans (hcell j hj).1, (hb.cell (p := ⟨b, off + j * 2 + 1, none⟩) hlt).trans (hcell j hj).2⟩⟩
theorem nums_set1 {k : IntKind} {w : World} {n : Nat} {v u : Value} {ss : List Int} {r : Nat} (h : Nums k n w v ss) (hr : w.cell? ⟨r, 1, none⟩ = some (.slice none 0 0)) : Nums k n (w.setCell ⟨r, 1, none⟩ u) v ss := by
  rcases h with h | ⟨b, off, cap, rfl, hb, hc, hcell⟩
  · exact .inl h
  · refine .inr ⟨b, off, cap, rfl, hb, hc, fun j hj => (World.cell?_setCell_other _ _ _ _ ?_).trans (hcell j hj)⟩
    intro e
    have := hcell j hj
    rw [← e, hr] at this
    cases this
theorem wf6 {n : Int} (h0 : -9223372036854775808 ≤ n) (h1 : n ≤ 9223372036854775807) : (Lit.int .i64 n).wf = true := by
  simp only [Lit.wf, Bool.and_eq_true, decide_eq_true_eq]; exact ⟨h0, h1⟩
/-- what Build answers, where there are levels, and flows between them -/
theorem fin_of_build {st : PSt} {S : List Int} {k : Int} (h0 : ¬ (st.L.length = 0 ∨ st.D = 0)) (h64 : st.L.length ≤ 64) (hf : FlowsOk st)
    (h : (¬ (1 ≤ (st.L.length : Int) ∧ (st.L.length : Int) ≤ 64 ∧ ∀ p ∈ st.F, pairOk (st.L.length : Int).toNat p = true) ∧ S = [] ∧ k = 1) ∨
     (1 ≤ (st.L.length : Int) ∧ (st.L.length : Int) ≤ 64 ∧ (∀ p ∈ st.F, pairOk (st.L.length : Int).toNat p = true) ∧ ∃ T, LL.IsClose (st.L.length : Int).toNat (toPrs st.F) T ∧ ((LL.rightB T = true ∧ S = T ∧ k = 0) ∨ (LL.rightB T = false ∧ S = [] ∧ k = 11)))) : FinE st S k := by
  rw [Int.toNat_natCast] at h
  rcases h with ⟨h, _⟩ | ⟨_, _, _, T, h1, h2⟩
  · exact absurd ⟨by omega, by omega, hf⟩ h
  · refine .inr ⟨h0, T, h1, ?_⟩
    rcases h2 with ⟨a, b, c⟩ | ⟨a, _, c⟩
    · exact .inl ⟨a, b, c⟩
    · exact .inr ⟨a, c⟩
set_option maxRecDepth 100000 in
set_option maxHeartbeats 6400000 in
theorem finish6_any (wB : World) (r : Nat) (w : World) (vL vI vO vF : Value) (st : PSt) (hB : Below wB.heap.size wB w) (hS : RSt wB.heap.size r w vL vI vO vF st) (hF : st.F.length ≤ 1000000) (hFk : FlowsOk st) (hT : Tz wB) :
    Calls Tryd.prog 20 #[.pointer (some ⟨r, 0, none⟩)] w (FinP wB r w st) := by
  have HS := Lib.hid hS
  have HBB := Lib.hid hB
  have HT := Lib.hid hT
  have HFk := Lib.hid hFk
  obtain ⟨aL, capL, rfl⟩ := hS.strs.form
  obtain ⟨c0, c1, c2, c3, c4, c5⟩ := rObj_cell hS.obj
  have hrl := hS.lt
  clear hS hB hT hFk
  by_cases h0 : st.L.length = 0
  · have e0 : ((st.L.length : Int) == 0) = true := by rw [beq_iff_eq]; omega
    have HE := Lib.hid (show FinE st [] 4 from .inl ⟨.inl h0, rfl⟩)
    clear h0
    go_enter Tryd.func20, Tryd.ntmps20
    go_wp2_with fail
    go_ret
    exact ⟨_, _, _, _, _, [], 4, rfl, HS.out.obj, HS.out.oL, .inl ⟨⟨_, _, rfl⟩, rfl⟩, (fun x hx => by simp at hx), HS.out.oI, HS.out.oO, HBB.out, fun q _ _ => rfl, Nat.le_refl _, HE.out⟩
  · have e0 : ((st.L.length : Int) == 0) = false := by rw [beq_eq_false_iff_ne]; omega
    by_cases h1 : st.D = 0
    · have e1 : (st.D == 0) = true := by rw [h1]; rfl
      have HE := Lib.hid (show FinE st [] 4 from .inl ⟨.inr h1, rfl⟩)
      clear h0 h1
      go_enter Tryd.func20, Tryd.ntmps20
      go_wp2_with fail
      go_ret
      exact ⟨_, _, _, _, _, [], 4, rfl, HS.out.obj, HS.out.oL, .inl ⟨⟨_, _, rfl⟩, rfl⟩, (fun x hx => by simp at hx), HS.out.oI, HS.out.oO, HBB.out, fun q _ _ => rfl, Nat.le_refl _, HE.out⟩
    · have e1 : (st.D == 0) = false := by rw [beq_eq_false_iff_ne]; exact h1
      have HN := Lib.hid (show ¬ (st.L.length = 0 ∨ st.D = 0) by simp [h0, h1])
      have h64 := HS.out.nL
      clear h1
      have HPr := Lib.hid (prs_of_rowF HS.out.oF)
      go_enter Tryd.func20, Tryd.ntmps20
      go_wp2_with fail
      go_region_held3 (fun W => W.cell? ⟨r, 0, none⟩ = some (.slice aL st.L.length capL) ∧ W.cell? ⟨r, 5, none⟩ = some vF)
        (first
          | (go_keep; done)
          | exact ⟨(hb2.cell (p := ⟨r, 0, none⟩) hrl).trans c0, (hb2.cell (p := ⟨r, 5, none⟩) hrl).trans c5⟩)
        ((go_at_call 31; refine (build5_any vF st.F _ (st.L.length : Int) _ (prs_on HPr.out (bdN (Below.refl _ _) 1)) (Nat.le_refl _) (by simp only [big5]; omega) (wf6 (by omega) (by omega)) (HT.out.on (HBB.out.trans (bdN (Below.refl _ _) 1)))).mono ?_; rintro e w2 ⟨⟨vU, S, k, rfl, hu, hw, hk⟩, hb2'⟩; obtain ⟨aU, cU, rfl⟩ := hu.form; have hb2 := bdrew6 hb2'; clear hb2'))
      have hq := rObj_cell (HS.out.below hb2).obj
      have HS2 := Lib.hid (HS.out.below hb2)
      have HU := Lib.hid hu
      have HWd := Lib.hid hw
      have HK := Lib.hid hk
      have HB2 := Lib.hid hb2
      have f1 := rObj_frozen (k := 1) HS2.out.obj
      obtain ⟨q0, q1, q2, q3, q4, q5⟩ := hq
      clear hu hw hk hb2
      go_wp2_with fail
      go_ret
      refine ⟨_, _, _, _, _, S, k, rfl, set_obj (c := 1) _ HS2.out.obj, ?_, ?_, HWd.out, ?_, ?_, ?_, ?_, ?_, fin_of_build HN.out h64 HFk.out HK.out⟩
      · exact own_of_block HS2.out.oL fun q hq => Below.heap_setCell _ _ _ _ (fun e => own_other HS2.out.oL HS2.out.obj (by decide) (by rw [hq]; exact congrArg some e))
      · exact (nums_set1 HU.out (rObj_cell HS2.out.obj).2.1).mono (by simp)
      · exact own_of_block HS2.out.oI fun q hq => Below.heap_setCell _ _ _ _ (fun e => own_other HS2.out.oI HS2.out.obj (by decide) (by rw [hq]; exact congrArg some e))
      · exact own_of_block HS2.out.oO fun q hq => Below.heap_setCell _ _ _ _ (fun e => own_other HS2.out.oO HS2.out.obj (by decide) (by rw [hq]; exact congrArg some e))
      · exact (HBB.out.trans (HB2.out.mono HBB.out.size)).setCell (p := ⟨r, 1, none⟩) HS2.out.base _
      · intro q hq hqr
        rw [Below.heap_setCell _ _ _ _ hqr]
        exact HB2.out.block q hq
      · have := HB2.out.size; simp; exact this
end Go.Proofs.YtgfjdnmnjabbbaaDoor
