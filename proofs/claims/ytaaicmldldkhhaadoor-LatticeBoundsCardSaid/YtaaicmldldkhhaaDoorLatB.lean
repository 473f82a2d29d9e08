import Derived.Test.YtaaicmldldkhhaaDoorLatK
/-! the walk of layer 5's reference: Build -/
namespace Go.Proofs.YtaaicmldldkhhaaDoor
set_option linter.unusedVariables false
open Go.RowKit

/-- pairs of any numbers that came in -/
def PrsI (n₀ : Nat) (W : World) (v : Value) (ps : List (Int × Int)) : Prop :=
  ((∃ a cap, v = .slice a 0 cap) ∧ ps = []) ∨ ∃ b off cap, v = .slice (some ⟨b, off, none⟩) ps.length cap ∧ b < n₀ ∧ ps.length ≤ cap ∧
    ∀ j, j < ps.length → W.cell? ⟨b, off + j * 2, none⟩ = some (.int .i64 (ps[j]?.getD (0, 0)).1) ∧ W.cell? ⟨b, off + j * 2 + 1, none⟩ = some (.int .i64 (ps[j]?.getD (0, 0)).2)
def toPrs (ps : List (Int × Int)) : List (Nat × Nat) := ps.map fun p => (p.1.toNat, p.2.toNat)
def pairOk (n : Nat) (p : Int × Int) : Bool := (decide (0 ≤ p.1) && decide (p.1 < n)) && (decide (0 ≤ p.2) && decide (p.2 < n))
theorem PrsI.nat {n₀ : Nat} {W : World} {v : Value} {ps : List (Int × Int)} {n : Nat} (h : PrsI n₀ W v ps) (hp : ∀ p ∈ ps, pairOk n p = true) : Prs n₀ W v (toPrs ps) := by
  have hl : (toPrs ps).length = ps.length := by unfold toPrs; simp
  rcases h with ⟨e, rfl⟩ | ⟨b, off, cap, e, hb, hc, hcell⟩
  · exact .inl ⟨e, rfl⟩
  · refine .inr ⟨b, off, cap, by rw [hl]; exact e, hb, by rw [hl]; exact hc, fun j hj => ?_⟩
    rw [hl] at hj
    have h := hcell j hj
    have ok := hp _ (List.getElem_mem hj)
    unfold pairOk at ok
    simp only [Bool.and_eq_true, decide_eq_true_eq] at ok
    unfold toPrs
    rw [List.getElem?_map]
    rw [List.getElem?_eq_getElem hj] at h ⊢
    simp only [Option.getD_some, Option.map_some] at h ⊢
    rw [show ((ps[j].1.toNat : Nat) : Int) = ps[j].1 by omega, show ((ps[j].2.toNat : Nat) : Int) = ps[j].2 by omega]
    exact h
theorem toPrs_ok {ps : List (Int × Int)} {n : Nat} (hp : ∀ p ∈ ps, pairOk n p = true) : ∀ p ∈ toPrs ps, p.1 < n ∧ p.2 < n := by
  intro p hm
  unfold toPrs at hm
  obtain ⟨q, hq, rfl⟩ := List.mem_map.1 hm
  have ok := hp q hq
  unfold pairOk at ok
  simp only [Bool.and_eq_true, decide_eq_true_eq] at ok
  exact ⟨by show q.1.toNat < n; omega, by show q.2.toNat < n; omega⟩
theorem PrsI.form {n₀ : Nat} {W : World} {v : Value} {ps : List (Int × Int)} (h : PrsI n₀ W v ps) : ∃ a cap, v = .slice a ps.length cap := by
  rcases h with ⟨⟨a, cap, rfl⟩, rfl⟩ | ⟨b, off, cap, rfl, _⟩
  · exact ⟨_, _, rfl⟩
  · exact ⟨_, _, rfl⟩
theorem PrsI.at {n₀ : Nat} {W : World} {a : Option Addr} {cap : Nat} {ps : List (Int × Int)} (h : PrsI n₀ W (.slice a ps.length cap) ps) (h0 : 0 < ps.length) :
    ∃ b off, a = some ⟨b, off, none⟩ ∧ b < n₀ ∧ ∀ j, j < ps.length → W.cell? ⟨b, off + j * 2, none⟩ = some (.int .i64 (ps[j]?.getD (0, 0)).1) ∧ W.cell? ⟨b, off + j * 2 + 1, none⟩ = some (.int .i64 (ps[j]?.getD (0, 0)).2) := by
  rcases h with ⟨_, rfl⟩ | ⟨b, off, cap', e, hb, _, hc⟩
  · exact absurd h0 (by simp)
  · simp only [Value.slice.injEq] at e
    exact ⟨b, off, e.1, hb, hc⟩
theorem Prs.below {n₀ : Nat} {A B : World} {v : Value} {ps : List (Nat × Nat)} (h : Below n₀ A B) : Prs n₀ A v ps → Prs n₀ B v ps
  | .inl e => .inl e
  | .inr ⟨b, off, cap, e, hb, hl, hc⟩ => .inr ⟨b, off, cap, e, hb, hl, fun j hj => ⟨(h.cell (p := ⟨b, off + j * 2, none⟩) hb).trans (hc j hj).1, (h.cell (p := ⟨b, off + j * 2 + 1, none⟩) hb).trans (hc j hj).2⟩⟩

/-- what Build answers: the masks of the least order, if it is a lattice; else none, and an error's number -/
def BuildRel (n : Int) (ps : List (Int × Int)) (base : Nat) (e : Ending) (W : World) : Prop :=
  (¬ (1 ≤ n ∧ n ≤ 64 ∧ ∀ p ∈ ps, pairOk n.toNat p = true) ∧ e = .returned (.tuple #[.slice none 0 0, .int .i64 1])) ∨
  (1 ≤ n ∧ n ≤ 64 ∧ (∀ p ∈ ps, pairOk n.toNat p = true) ∧ ∃ S, LL.IsClose n.toNat (toPrs ps) S ∧
    ((LL.rightB S = true ∧ ∃ g, base ≤ g ∧ e = .returned (.tuple #[.slice (some ⟨g, 0, none⟩) n.toNat n.toNat, .int .i64 0]) ∧ Row5 g n.toNat S W) ∨
     (LL.rightB S = false ∧ e = .returned (.tuple #[.slice none 0 0, .int .i64 11]))))

theorem BuildRel.world {n : Int} {ps : List (Int × Int)} {base : Nat} {x : Int} {w w' : World} (h : BuildRel n ps base (.returned (.tuple #[.slice none 0 0, .int .i64 x])) w) : BuildRel n ps base (.returned (.tuple #[.slice none 0 0, .int .i64 x])) w' := by
  rcases h with h | ⟨h1, h2, h3, S, h4, ⟨h5, g, h6, h7, h8⟩ | h5⟩
  · exact .inl h
  · simp at h7
  · exact .inr ⟨h1, h2, h3, S, h4, .inr h5⟩

set_option maxRecDepth 100000 in
set_option maxHeartbeats 1600000 in
theorem rbuild_any (v : Value) (ps : List (Int × Int)) (n₀ : Nat) (n : Int) (w : World) (hv : PrsI n₀ w v ps) (hb : n₀ ≤ w.heap.size) (hl : ps.length ≤ 9223372036854775807) :
    Calls Tryd.prog 13 #[.int .i64 n, v] w fun e w' => BuildRel n ps w.heap.size e w' ∧ Below w.heap.size w w' := by
  by_cases hn : 1 ≤ n ∧ n ≤ 64
  · obtain ⟨k, rfl⟩ : ∃ k : Nat, n = k := ⟨n.toNat, by omega⟩
    have n1 : 1 ≤ k := by omega
    have n2 : k ≤ 64 := by omega
    have HV := Lib.hid hv
    have HN := Lib.hid hn
    obtain ⟨a, cap, rfl⟩ := hv.form
    clear hv
    have e1 : decide ((k : Int) < 1) = false := decide_eq_false (by omega)
    have e2 : decide (64 < (k : Int)) = false := decide_eq_false (by omega)
    clear hn
    go_enter Tryd.func13, Tryd.ntmps13
    go_wp2_with fail
    go_loopw [6] (fun i wr => ∃ j m : Nat, j ≤ ps.length ∧ i = .int .i64 (j : Int) ∧ wr = w.drewN m ∧ RowKit.Hid (∀ q, q < j → pairOk k (ps[q]?.getD (0, 0)) = true)) (fun i _ => ps.length - (intOf i).toNat)
    case atStart => exact ⟨0, 0, Nat.zero_le _, rfl, rfl, Lib.hid (fun q hq => absurd hq (Nat.not_lt_zero _))⟩
    case round =>
      obtain ⟨j, m, hj, rfl, rfl, HQ⟩ := hrel
      by_cases hlt : j < ps.length
      · obtain ⟨b, off, rfl, hbk, hc⟩ := HV.out.at (by omega)
        have hcc := hc j hlt
        obtain ⟨pr, hpr⟩ : ∃ p, ps[j]?.getD (0, 0) = p := ⟨_, rfl⟩
        rw [hpr] at hcc
        obtain ⟨x1, x2⟩ := pr
        obtain ⟨hc1, hc2⟩ := hcc
        simp only at hc1 hc2
        have HBad := Lib.hid (show pairOk k (x1, x2) = false → BuildRel k ps w.heap.size (.returned (.tuple #[.slice none 0 0, .int .i64 1])) w from fun h => .inl ⟨fun hh => (by
          have := hh.2.2 (ps[j]?.getD (0, 0)) (by rw [List.getElem?_eq_getElem hlt]; exact List.getElem_mem hlt)
          rw [hpr, Int.toNat_natCast, h] at this
          cases this), rfl⟩)
        have HPR := Lib.hid hpr
        have i1 : (0 : Int) ≤ j ∧ (j : Int) < ps.length := by omega
        clear hpr hc hbk
        go_wp2_with fail
        go_loopw [7] (fun q wr => ∃ (z m2 : Nat), z ≤ 2 ∧ q = .int .i64 (z : Int) ∧ wr = w.drewN m2 ∧ RowKit.Hid ((1 ≤ z → 0 ≤ x1 ∧ x1 < (k : Int)) ∧ (2 ≤ z → 0 ≤ x2 ∧ x2 < (k : Int)))) (fun q _ => 2 - (intOf q).toNat)
        case atStart => exact ⟨0, m, by omega, rfl, rfl, Lib.hid ⟨fun h => by omega, fun h => by omega⟩⟩
        case round =>
          obtain ⟨z, m2, hq, rfl, rfl, HK⟩ := hrel
          rcases (show z = 0 ∨ z = 1 ∨ z = 2 by omega) with rfl | rfl | rfl
          · clear hq
            by_cases hlo : x1 < 0
            · have b1 : decide (x1 < 0) = true := decide_eq_true hlo
              have HR := Lib.hid (HBad.out (show pairOk k (x1, x2) = false by unfold pairOk; rw [decide_eq_false (show ¬ 0 ≤ x1 by omega)]; simp))
              clear hlo
              go_wp2_with fail
              go_ret2
              exact ⟨BuildRel.world HR.out, below_drewN (Below.refl _ _) _⟩
            · have b1 : decide (x1 < 0) = false := decide_eq_false hlo
              by_cases hhi : (k : Int) ≤ x1
              · have b2 : decide ((k : Int) ≤ x1) = true := decide_eq_true hhi
                have HR := Lib.hid (HBad.out (show pairOk k (x1, x2) = false by unfold pairOk; rw [decide_eq_false (show ¬ x1 < (k : Int) by omega)]; simp))
                clear hlo hhi
                go_wp2_with fail
                go_ret2
                exact ⟨BuildRel.world HR.out, below_drewN (Below.refl _ _) _⟩
              · have b2 : decide ((k : Int) ≤ x1) = false := decide_eq_false hhi
                have HW := Lib.hid (show (1 ≤ 1 → 0 ≤ x1 ∧ x1 < (k : Int)) ∧ (2 ≤ 1 → 0 ≤ x2 ∧ x2 < (k : Int)) from ⟨fun _ => by omega, fun h => by omega⟩)
                clear hlo hhi
                go_wp2_with fail
                go_roundw
                case rel => exact ⟨1, m2, by omega, rfl, rfl, HW⟩
                case measure => simp [intOf]
          · clear hq
            by_cases hlo : x2 < 0
            · have b1 : decide (x2 < 0) = true := decide_eq_true hlo
              have HR := Lib.hid (HBad.out (show pairOk k (x1, x2) = false by unfold pairOk; rw [decide_eq_false (show ¬ 0 ≤ x2 by omega)]; simp))
              clear hlo
              go_wp2_with fail
              go_ret2
              exact ⟨BuildRel.world HR.out, below_drewN (Below.refl _ _) _⟩
            · have b1 : decide (x2 < 0) = false := decide_eq_false hlo
              by_cases hhi : (k : Int) ≤ x2
              · have b2 : decide ((k : Int) ≤ x2) = true := decide_eq_true hhi
                have HR := Lib.hid (HBad.out (show pairOk k (x1, x2) = false by unfold pairOk; rw [decide_eq_false (show ¬ x2 < (k : Int) by omega)]; simp))
                clear hlo hhi
                go_wp2_with fail
                go_ret2
                exact ⟨BuildRel.world HR.out, below_drewN (Below.refl _ _) _⟩
              · have b2 : decide ((k : Int) ≤ x2) = false := decide_eq_false hhi
                have HW := Lib.hid (show (1 ≤ 2 → 0 ≤ x1 ∧ x1 < (k : Int)) ∧ (2 ≤ 2 → 0 ≤ x2 ∧ x2 < (k : Int)) from ⟨fun _ => HK.out.1 (Nat.le_refl _), fun _ => by omega⟩)
                clear hlo hhi
                go_wp2_with fail
                go_roundw
                case rel => exact ⟨2, m2, by omega, rfl, rfl, HW⟩
                case measure => simp [intOf]
          · have HW := Lib.hid (show ∀ q, q < j + 1 → pairOk k (ps[q]?.getD (0, 0)) = true from by
              intro q hq'
              by_cases e : q = j
              · subst e
                rw [HPR.out]
                have h1 := HK.out.1 (by omega)
                have h2 := HK.out.2 (by omega)
                unfold pairOk
                rw [decide_eq_true h1.1, decide_eq_true h1.2, decide_eq_true h2.1, decide_eq_true h2.2]; rfl
              · exact HQ.out q (by omega))
            clear hq
            go_wp2_with fail
            go_roundw
            case rel => exact ⟨j + 1, m2, by omega, by go_num, rfl, HW⟩
            case measure => simp [intOf]; omega
      · have HP := Lib.hid (show ∀ p ∈ ps, pairOk k p = true by
          intro p hm
          obtain ⟨q, hq, rfl⟩ := List.getElem_of_mem hm
          have := HQ.out q (by omega)
          rwa [List.getElem?_eq_getElem hq] at this)
        have HPr := Lib.hid (Prs.below (B := w.drewN m) ⟨rfl, rfl, rfl, Nat.le_refl _, fun _ _ => rfl⟩ (HV.out.nat HP.out))
        have hBm : Below w.heap.size w (w.drewN m) := below_drewN (Below.refl _ _) m
        have hsz : (w.drewN m).heap.size = w.heap.size := rfl
        have hlp : (toPrs ps).length = ps.length := by unfold toPrs; simp
        have HLP := Lib.hid hlp
        have HSZ := Lib.hid hsz
        have HB := Lib.hid hb
        clear HQ HV hlp hsz hb
        go_wp2_with fail
        generalize w.drewN m = w1 at HPr hBm HSZ ⊢
        refine (rclose_any _ (toPrs ps) n₀ k w1 HPr.out n1 n2 (toPrs_ok HP.out) (by rw [HSZ.out]; exact HB.out) (by rw [HLP.out]; exact hl)).mono ?_
        rintro e w2 ⟨S, rfl, hcl, hrow, hbel⟩
        have HCl := Lib.hid hcl
        have HRow := Lib.hid hrow
        have hB2 : Below w.heap.size w w2 := hBm.trans (hbel.mono (by rw [HSZ.out]; exact Nat.le_refl _))
        have HBase := Lib.hid (show w.heap.size ≤ w1.heap.size by rw [HSZ.out]; exact Nat.le_refl _)
        have HNm := Lib.hid (hrow.nums hcl.1)
        have hlen : S.length = k := hcl.1
        have HLn := Lib.hid hlen
        clear hcl hrow hbel hBm hlen
        cases hr : LL.rightB S
        · have HR := Lib.hid hr
          have HE := Lib.hid (show BuildRel k ps w.heap.size (.returned (.tuple #[.slice none 0 0, .int .i64 11])) w from .inr ⟨HN.out.1, HN.out.2, by rw [Int.toNat_natCast]; exact HP.out, S, by rw [Int.toNat_natCast]; exact HCl.out, .inr ⟨hr, rfl⟩⟩)
          clear hr
          go_wp2_with fail
          refine (rright_any _ S _ w2 (by have h := HNm.out; rwa [← HLn.out] at h ⊢) HCl.out.2.1 (by have := HLn.out; omega)).mono ?_
          rintro e w3 ⟨rfl, d, rfl⟩
          rw [HR.out]
          go_wp2_with fail
          go_ret2
          exact ⟨BuildRel.world HE.out, below_drewN hB2 _⟩
        · have HR := Lib.hid hr
          have HE := Lib.hid (show ∀ W : World, Row5 w1.heap.size k S W → BuildRel k ps w.heap.size (.returned (.tuple #[.slice (some ⟨w1.heap.size, 0, none⟩) k k, .int .i64 0])) W from fun W hW =>
            .inr ⟨HN.out.1, HN.out.2, by rw [Int.toNat_natCast]; exact HP.out, S, by rw [Int.toNat_natCast]; exact HCl.out, .inl ⟨hr, _, HBase.out, by rw [Int.toNat_natCast], by rw [Int.toNat_natCast]; exact hW⟩⟩)
          clear hr
          go_wp2_with fail
          refine (rright_any _ S _ w2 (by have h := HNm.out; rwa [← HLn.out] at h ⊢) HCl.out.2.1 (by have := HLn.out; omega)).mono ?_
          rintro e w3 ⟨rfl, d, rfl⟩
          rw [HR.out]
          go_wp2_with fail
          go_ret2
          exact ⟨HE.out _ (HRow.out.drewN d), below_drewN hB2 _⟩
  · have HE := Lib.hid (show BuildRel n ps w.heap.size (.returned (.tuple #[.slice none 0 0, .int .i64 1])) w from .inl ⟨fun h => hn ⟨h.1, h.2.1⟩, rfl⟩)
    obtain ⟨a, cap, rfl⟩ := hv.form
    clear hv
    by_cases h1 : n < 1
    · have e1 : decide (n < 1) = true := decide_eq_true h1
      clear hn h1
      go_enter Tryd.func13, Tryd.ntmps13
      go_wp2_with fail
      go_ret2
      exact ⟨HE.out, Below.refl _ _⟩
    · have e1 : decide (n < 1) = false := decide_eq_false h1
      have e2 : decide (64 < n) = true := decide_eq_true (by omega)
      clear hn h1
      go_enter Tryd.func13, Tryd.ntmps13
      go_wp2_with fail
      go_ret2
      exact ⟨HE.out, Below.refl _ _⟩
end Go.Proofs.YtaaicmldldkhhaaDoor
