import Derived.Test.YtbelhoeailjkkaaCalR
import Derived.Test.YtbelhoeailjkkaaGraD
set_option linter.unusedSimpArgs false
set_option linter.unusedVariables false
/-! CallsSteps: the walk -/
namespace Go.Proofs.Ytbelhoeailjkkaa
open Go.RowKit CC
theorem cell_lt {W : World} {b o : Nat} {u : Value} (h : W.cell? ⟨b, o, none⟩ = some u) : b < W.heap.size := by
  by_cases hb : b < W.heap.size
  · exact hb
  · have : W.heap[b]? = none := Array.getElem?_eq_none (by omega)
    simp [World.cell?, this] at h
theorem stp_reached {to : List (List Int)} (h : GG.rightG to = true) {a : Nat} (ha : a < to.length) : reachedL to (a : Int) = flagsL to.length (leadL to a) := by
  unfold reachedL
  rw [if_pos ⟨h, decide_eq_true (by omega)⟩, Int.toNat_natCast]
  rfl
theorem stp_bd {to : List (List Int)} (h : GG.rightG to = true) (m : Nat) (x : Nat) (hx : x < to.length) : -1 ≤ entriesL to m x ∧ entriesL to m x ≤ 33554432 := by
  have h1 := entT_bd h m (groupsL to).reverse.length (Nat.le_refl _) x hx
  rw [entT_all to m (Nat.le_refl _)] at h1
  have h2 := groups_many h
  rw [List.length_reverse] at h1
  omega
/-- the greatest of those that lead to a node -/
def MostI (to : List (List Int)) (m i k : Nat) (mo : Int) : Prop := 0 ≤ mo ∧ mo ≤ 33554432 ∧ (∀ j, j < k → entriesL to m (((GG.backG to)[i]?.getD [])[j]?.getD 0).toNat ≤ mo) ∧ (mo = 0 ∨ ∃ j, j < k ∧ mo = entriesL to m (((GG.backG to)[i]?.getD [])[j]?.getD 0).toNat)
theorem most_next {to : List (List Int)} {m i k p : Nat} {mo : Int} (hr : GG.rightG to = true) (h : MostI to m i k mo) (hp : ((GG.backG to)[i]?.getD [])[k]?.getD 0 = (p : Int)) (hpn : p < to.length) : MostI to m i (k + 1) (max mo (entriesL to m p)) := by
  obtain ⟨h1, h2, h3, h4⟩ := h
  have hb := stp_bd hr m p hpn
  have hk : entriesL to m (((GG.backG to)[i]?.getD [])[k]?.getD 0).toNat = entriesL to m p := by rw [hp, Int.toNat_natCast]
  refine ⟨by omega, by omega, fun j hj => ?_, ?_⟩
  · by_cases e : j = k
    · rw [e, hk]; omega
    · have := h3 j (by omega); omega
  · by_cases hle : entriesL to m p ≤ mo
    · rw [Int.max_eq_left hle]
      rcases h4 with h4 | ⟨j, hj, e⟩
      · exact .inl h4
      · exact .inr ⟨j, by omega, e⟩
    · rw [Int.max_eq_right (by omega)]
      exact .inr ⟨k, by omega, hk.symm⟩
theorem most_all {to : List (List Int)} {m i k : Nat} {mo : Int} (hr : GG.rightG to = true) (hm : m < to.length) (hi : i < to.length) (h : MostI to m i k mo) (hk : k = ((GG.backG to)[i]?.getD []).length) (he : 1 ≤ entriesL to m i) : entriesL to m i = mo + 1 := by
  obtain ⟨h1, h2, h3, h4⟩ := h
  have s := entries_spec hr hm i hi
  obtain ⟨v1, v2, v3⟩ := s.v (by omega) (by omega)
  have hback : ∀ x : Int, x ∈ (GG.backG to)[i]?.getD [] ↔ ∃ p : Nat, x = p ∧ p < to.length ∧ i ∈ GG.adjOf to p := by
    intro x
    rw [GG.back_at hi, GG.mem_ledBy]
    constructor
    · rintro ⟨p, e, hp, hm⟩; exact ⟨p, e, hp, (GG.adj_mem hr hp i).2 hm⟩
    · rintro ⟨p, e, hp, hm⟩; exact ⟨p, e, hp, (GG.adj_mem hr hp i).1 hm⟩
  have hle : mo ≤ entriesL to m i - 1 := by
    rcases h4 with h4 | ⟨j, hj, e⟩
    · omega
    · obtain ⟨p, e2, hp, hpa⟩ := (hback _).1 (GG.getD_mem (d := 0) (show j < ((GG.backG to)[i]?.getD []).length by omega))
      rw [e2, Int.toNat_natCast] at e
      have := v2 p hpa
      omega
  rcases v3 with ⟨v3, _⟩ | ⟨p, hpa, v4, v5⟩
  · omega
  · have hpn := ((lead_adj hr).one p i hpa).1
    obtain ⟨j, hj, e⟩ := List.mem_iff_getElem.1 ((hback (p : Int)).2 ⟨p, rfl, hpn, hpa⟩)
    have := h3 j (by omega)
    rw [List.getElem?_eq_getElem hj, Option.getD_some, e, Int.toNat_natCast] at this
    omega
theorem back_in {to : List (List Int)} (hr : GG.rightG to = true) {i k : Nat} (hi : i < to.length) (hk : k < ((GG.backG to)[i]?.getD []).length) : ∃ p : Nat, ((GG.backG to)[i]?.getD [])[k]?.getD 0 = (p : Int) ∧ p < to.length := by
  have h := GG.getD_mem (d := (0 : Int)) hk
  rw [GG.back_at hi] at h ⊢
  obtain ⟨p, e, hp, _⟩ := GG.mem_ledBy.1 h
  exact ⟨p, e, hp⟩
theorem loop_no {to : List (List Int)} (hr : GG.rightG to = true) {m i : Nat} (hm : m < to.length) (hi : i < to.length) (he : 1 ≤ entriesL to m i) : decide ((i : Int) ∈ to[i]?.getD []) = false := by
  have h := CC.ent_loop (lead_pre hr) hi (entries_spec hr hm i hi) he
  exact decide_eq_false (fun h' => h ((GG.adj_mem hr hi i).2 h'))
theorem zero_iff {to : List (List Int)} (hr : GG.rightG to = true) {m i : Nat} (hm : m < to.length) (hi : i < to.length) : (entriesL to m i == 0) = !leadL to m i := by
  have h := (entries_spec hr hm i hi).z
  cases hl : leadL to m i
  · rw [h.2 hl]; rfl
  · have : entriesL to m i ≠ 0 := fun e => by rw [h.1 e] at hl; cases hl
    rw [beq_eq_false_iff_ne.2 this]; rfl

set_option maxRecDepth 100000 in
set_option maxHeartbeats 12800000 in
theorem callsSteps_walk (v : Value) (to : List (List Int)) (main : Int) (W : World) (hv : GraphM W.heap.size W v to) (hx : Small to) :
    Calls Try.prog 6 #[v, .int .i64 main] W fun e W' => e = .returned (.bool true) ∧ Below W.heap.size W W' := by
  have hx0 := hx.1
  have HV := Lib.hid hv
  have HX := Lib.hid hx
  obtain ⟨va, vc, rfl⟩ := hv.form
  clear hv hx
  by_cases c1 : 30 < to.length
  · have t1 : decide ((30 : Int) < (to.length : Int)) = true := decide_eq_true (by omega)
    have t2 : decide (30 < to.length) = true := decide_eq_true c1
    go_enter Try.func6, Try.ntmps6
    go_wp2_with (go_at_call 11; refine (awakeC_any _).mono ?_; rintro e w1 ⟨rfl, hb⟩; have HB1 := Lib.hid hb; clear hb)
    go_ret
    exact ⟨rfl, HB1.out⟩
  · have t1 : decide ((30 : Int) < (to.length : Int)) = false := decide_eq_false (by omega)
    have t2 : decide (30 < to.length) = false := decide_eq_false c1
    cases hr : GG.rightG to
    · have HR := Lib.hid hr
      clear hr
      go_enter Try.func6, Try.ntmps6
      go_wp2_with fail
      refine (rightG_any _ to _ HV.out HX.out).mono ?_
      rintro e w1 ⟨rfl, hb⟩
      rw [HR.out]
      have HB1 := Lib.hid hb
      clear hb
      go_wp2_with (go_at_call 11; refine (awakeC_any _).mono ?_; rintro e w2 ⟨rfl, hb⟩; have HB2 := Lib.hid (HB1.out.trans (hb.mono HB1.out.size)); clear hb)
      go_ret
      exact ⟨rfl, HB2.out⟩
    · have HR := Lib.hid hr
      have hlen := GG.right_len hr
      by_cases c2 : main < 0
      · have t3 : decide (main < 0) = true := decide_eq_true c2
        clear hr
        go_enter Try.func6, Try.ntmps6
        go_wp2_with fail
        refine (rightG_any _ to _ HV.out HX.out).mono ?_
        rintro e w1 ⟨rfl, hb⟩
        rw [HR.out]
        have HB1 := Lib.hid hb
        clear hb
        go_wp2_with (go_at_call 11; refine (awakeC_any _).mono ?_; rintro e w2 ⟨rfl, hb⟩; have HB2 := Lib.hid (HB1.out.trans (hb.mono HB1.out.size)); clear hb)
        go_ret
        exact ⟨rfl, HB2.out⟩
      · have t3 : decide (main < 0) = false := decide_eq_false c2
        by_cases c3 : (to.length : Int) ≤ main
        · have t4 : decide ((to.length : Int) ≤ main) = true := decide_eq_true c3
          clear hr
          go_enter Try.func6, Try.ntmps6
          go_wp2_with fail
          refine (rightG_any _ to _ HV.out HX.out).mono ?_
          rintro e w1 ⟨rfl, hb⟩
          rw [HR.out]
          have HB1 := Lib.hid hb
          clear hb
          go_wp2_with (go_at_call 11; refine (awakeC_any _).mono ?_; rintro e w2 ⟨rfl, hb⟩; have HB2 := Lib.hid (HB1.out.trans (hb.mono HB1.out.size)); clear hb)
          go_ret
          exact ⟨rfl, HB2.out⟩
        · have t4 : decide ((to.length : Int) ≤ main) = false := decide_eq_false c3
          obtain ⟨m, rfl⟩ : ∃ m : Nat, main = (m : Int) := ⟨main.toNat, by omega⟩
          have hmn : m < to.length := by omega
          have t5 : decide (to.length ≤ m) = false := decide_eq_false (by omega)
          have HE := Lib.hid (show entL to (m : Int) = (List.range to.length).map (entriesL to m) by unfold entL; rw [if_pos ⟨hr, decide_eq_true (by omega)⟩, Int.toNat_natCast])
          have HRM := Lib.hid (stp_reached hr hmn)
          have HMN := Lib.hid hmn
          clear hr c2 c3
          go_enter Try.func6, Try.ntmps6
          go_wp2_with fail
          refine (rightG_any _ to _ HV.out HX.out).mono ?_
          rintro e w1 ⟨rfl, hb⟩
          rw [HR.out]
          have HB1 := Lib.hid hb
          clear hb
          go_wp2_with fail
          refine (centries_any (to := to) (m : Int) w1 (HV.out.on HB1.out HB1.out.size) HX.out).mono ?_
          rintro e w2 ⟨u, rfl, hr2, hb2⟩
          rw [HE.out] at hr2
          have HL2 := Lib.hid hr2
          have HB2 := Lib.hid (HB1.out.trans (hb2.mono HB1.out.size))
          obtain ⟨la, lf, lc, e1, hlb, hlc⟩ := hr2.at (by rw [List.length_map, List.length_range]; omega)
          rw [List.length_map, List.length_range] at e1
          subst e1
          have HLC := Lib.hid (fun (V : World) (hV : Below w2.heap.size w2 V) (i : Nat) (hi : i < to.length) => show V.cell? ⟨la, lf + i, none⟩ = some (.int .i64 (entriesL to m i)) by
            have h1 := (hV.cell (p := ⟨la, lf + i, none⟩) hlb).trans (hlc i (by rw [List.length_map, List.length_range]; exact hi))
            rw [h1]
            simp [hi])
          clear hr2 hb2 hlb hlc
          go_wp2_with fail
          refine (back_any (to := to) w2 (HV.out.on HB2.out HB2.out.size) HX.out).mono ?_
          rintro e w3 ⟨bv, rfl, hg3, hb3⟩
          rw [show backE to = GG.backG to by unfold backE; rw [if_pos HR.out]] at hg3
          have HG3 := Lib.hid hg3
          have HB23 := Lib.hid hb3
          have HB3 := Lib.hid (HB2.out.trans (hb3.mono HB2.out.size))
          have hbl : (GG.backG to).length = to.length := GG.back_len to
          obtain ⟨bb, bf, bc, e2⟩ := hg3.addr (by omega)
          subst e2
          rw [hbl]
          rw [hbl] at HG3
          clear hg3 hb3
          go_wp2_with fail
          go_loopw [7] (fun k wr => ∃ i : Nat, i ≤ to.length ∧ k = .int .i64 (i : Int) ∧ RowKit.Hid (Below w3.heap.size w3 wr)) (fun k _ => to.length - (intOf k).toNat)
          case atStart => exact ⟨0, by omega, rfl, Lib.hid (Below.refl _ _)⟩
          case round =>
            obtain ⟨w4, rfl⟩ : ∃ w4, w4 = wr := ⟨_, rfl⟩
            obtain ⟨i, hi, rfl, HQ⟩ := hrel
            by_cases hin : i < to.length
            · have HIN := Lib.hid hin
              have HBW := Lib.hid (HB3.out.trans (HQ.out.mono HB3.out.size))
              have HB24 := Lib.hid (HB23.out.trans (HQ.out.mono HB23.out.size))
              have HZI := Lib.hid (zero_iff HR.out HMN.out hin)
              have HBD := Lib.hid (stp_bd HR.out m i hin)
              have HALL := Lib.hid (fun k mo h hk he => most_all (k := k) (mo := mo) HR.out HMN.out hin h hk he)
              have HLO := Lib.hid (fun he => loop_no HR.out HMN.out hin he)
              have HLE := Lib.hid (fun (he : 1 ≤ entriesL to m i) => CC.ent_le (lead_pre HR.out) (lead_adj HR.out) HMN.out (fun x hx => entries_spec HR.out HMN.out x hx) i hin he)
              have hcl := HLC.out w4 HB24.out i hin
              have j1 : (0 : Int) ≤ m ∧ (m : Int) < to.length := by omega
              have j2 : (0 : Int) ≤ i ∧ (i : Int) < to.length := by omega
              obtain ⟨x, hx⟩ : ∃ x, x = entriesL to m i := ⟨_, rfl⟩
              rw [← hx] at HZI HBD HALL HLO HLE hcl
              have HXX := Lib.hid hx
              obtain ⟨z, hz⟩ : ∃ z, z = leadL to m i := ⟨_, rfl⟩
              rw [← hz] at HZI
              have HZZ := Lib.hid hz
              have hne : ((to.length : Int) != (to.length : Int)) = false := bne_self_eq_false _
              clear hx hz hin
              cases z
              · have hxz : (x == (0 : Int)) = true := HZI.out
                go_upto_region 8 with fail
                refine wp_region_held_drew (S := (fun V => Below w4.heap.size w4 V ∧ V.cell? ⟨la, lf + i, none⟩ = some (.int .i64 x))) (by kernel_rfl) ?_ (fun hHeld => ?_)
                · first | exact ⟨Below.refl _ _, hcl⟩ | exact ⟨(Below.refl _ _).drew, hcl⟩
                refine wpAnyH_take (i := 0) (v := .slice (some ⟨la, lf, none⟩) to.length lc) rfl (by kernel_rfl) (by kernel_rfl) (by kernel_rfl) (fun _ _ _ h => h) (Or.inl ⟨by rfl, fun W hSW => ?_⟩) hHeld ?_
                · ((try dsimp only at hSW); go_split_ands; go_simp <;> with_reducible rfl)
                try simp only [List.getElem_toArray, List.getElem_cons_succ, List.getElem_cons_zero, Act.put, List.setIfInBounds_toArray, List.set_cons_zero, List.set_cons_succ]
                refine wpAnyH_take (i := 1) (v := .int .i64 (to.length : Int)) rfl (by kernel_rfl) (by kernel_rfl) (by kernel_rfl) (fun _ _ _ h => h) (Or.inl ⟨by rfl, fun W hSW => ?_⟩) hHeld ?_
                · ((try dsimp only at hSW); go_split_ands; go_simp <;> with_reducible rfl)
                try simp only [List.getElem_toArray, List.getElem_cons_succ, List.getElem_cons_zero, Act.put, List.setIfInBounds_toArray, List.set_cons_zero, List.set_cons_succ]
                refine wpAnyH_take (i := 2) (v := .slice va to.length vc) rfl (by kernel_rfl) (by kernel_rfl) (by kernel_rfl) (fun _ _ _ h => h) (Or.inl ⟨by rfl, fun W hSW => ?_⟩) hHeld ?_
                · ((try dsimp only at hSW); go_split_ands; go_simp <;> with_reducible rfl)
                try simp only [List.getElem_toArray, List.getElem_cons_succ, List.getElem_cons_zero, Act.put, List.setIfInBounds_toArray, List.set_cons_zero, List.set_cons_succ]
                refine wpAnyH_take (i := 3) (v := .int .i64 (to.length : Int)) rfl (by kernel_rfl) (by kernel_rfl) (by kernel_rfl) (fun _ _ _ h => h) (Or.inl ⟨by rfl, fun W hSW => ?_⟩) hHeld ?_
                · ((try dsimp only at hSW); go_split_ands; go_simp <;> with_reducible rfl)
                try simp only [List.getElem_toArray, List.getElem_cons_succ, List.getElem_cons_zero, Act.put, List.setIfInBounds_toArray, List.set_cons_zero, List.set_cons_succ]
                refine wpAnyH_take (i := 4) (v := .bool false) rfl (by kernel_rfl) (by kernel_rfl) (by kernel_rfl) (fun _ _ _ h => h) (Or.inl ⟨by rfl, fun W hSW => ?_⟩) hHeld ?_
                · ((try dsimp only at hSW); go_split_ands; go_simp <;> with_reducible rfl)
                try simp only [List.getElem_toArray, List.getElem_cons_succ, List.getElem_cons_zero, Act.put, List.setIfInBounds_toArray, List.set_cons_zero, List.set_cons_succ]
                refine wpAnyH_take (i := 5) (v := .bool false) rfl (by kernel_rfl) (by kernel_rfl) (by kernel_rfl) (fun _ _ _ h => h) (Or.inl ⟨by rfl, fun W hSW => ?_⟩) hHeld ?_
                · ((try dsimp only at hSW); go_split_ands; go_simp <;> with_reducible rfl)
                try simp only [List.getElem_toArray, List.getElem_cons_succ, List.getElem_cons_zero, Act.put, List.setIfInBounds_toArray, List.set_cons_zero, List.set_cons_succ]
                refine wpAnyH_take (i := 6) (v := .slice (some ⟨la, lf, none⟩) to.length lc) rfl (by kernel_rfl) (by kernel_rfl) (by kernel_rfl) (fun _ _ _ h => h) (Or.inl ⟨by rfl, fun W hSW => ?_⟩) hHeld ?_
                · ((try dsimp only at hSW); go_split_ands; go_simp <;> with_reducible rfl)
                try simp only [List.getElem_toArray, List.getElem_cons_succ, List.getElem_cons_zero, Act.put, List.setIfInBounds_toArray, List.set_cons_zero, List.set_cons_succ]
                refine wpAnyH_take (i := 7) (v := .int .i64 i) rfl (by kernel_rfl) (by kernel_rfl) (by kernel_rfl) (fun _ _ _ h => h) (Or.inl ⟨by rfl, fun W hSW => ?_⟩) hHeld ?_
                · ((try dsimp only at hSW); go_split_ands; go_simp <;> with_reducible rfl)
                try simp only [List.getElem_toArray, List.getElem_cons_succ, List.getElem_cons_zero, Act.put, List.setIfInBounds_toArray, List.set_cons_zero, List.set_cons_succ]
                refine wpAnyH_take (i := 8) (v := .pointer (some ⟨la, lf + i, none⟩)) rfl (by kernel_rfl) (by kernel_rfl) (by kernel_rfl) (fun _ _ _ h => h) (Or.inl ⟨by rfl, fun W hSW => ?_⟩) hHeld ?_
                · ((try dsimp only at hSW); go_split_ands; go_simp <;> with_reducible rfl)
                try simp only [List.getElem_toArray, List.getElem_cons_succ, List.getElem_cons_zero, Act.put, List.setIfInBounds_toArray, List.set_cons_zero, List.set_cons_succ]
                refine wpAnyH_take (i := 9) (v := .int .i64 x) rfl (by kernel_rfl) (by kernel_rfl) (by kernel_rfl) (fun _ _ _ h => h) (Or.inl ⟨by rfl, fun W hSW => ?_⟩) hHeld ?_
                · ((try dsimp only at hSW); go_split_ands; go_simp <;> with_reducible rfl)
                try simp only [List.getElem_toArray, List.getElem_cons_succ, List.getElem_cons_zero, Act.put, List.setIfInBounds_toArray, List.set_cons_zero, List.set_cons_succ]
                refine wpAnyH_take (i := 10) (v := .bool true) rfl (by kernel_rfl) (by kernel_rfl) (by kernel_rfl) (fun _ _ _ h => h) (Or.inl ⟨by rfl, fun W hSW => ?_⟩) hHeld ?_
                · ((try dsimp only at hSW); go_split_ands; go_simp <;> with_reducible rfl)
                try simp only [List.getElem_toArray, List.getElem_cons_succ, List.getElem_cons_zero, Act.put, List.setIfInBounds_toArray, List.set_cons_zero, List.set_cons_succ]
                refine wpAnyH_take (i := 11) (v := .slice va to.length vc) rfl (by kernel_rfl) (by kernel_rfl) (by kernel_rfl) (fun _ _ _ h => h) (Or.inl ⟨by rfl, fun W hSW => ?_⟩) hHeld ?_
                · ((try dsimp only at hSW); go_split_ands; go_simp <;> with_reducible rfl)
                try simp only [List.getElem_toArray, List.getElem_cons_succ, List.getElem_cons_zero, Act.put, List.setIfInBounds_toArray, List.set_cons_zero, List.set_cons_succ]
                refine wpAnyH_take (i := 12) (v := .int .i64 m) rfl (by kernel_rfl) (by kernel_rfl) (by kernel_rfl) (fun _ _ _ h => h) (Or.inl ⟨by rfl, fun W hSW => ?_⟩) hHeld ?_
                · ((try dsimp only at hSW); go_split_ands; go_simp <;> with_reducible rfl)
                try simp only [List.getElem_toArray, List.getElem_cons_succ, List.getElem_cons_zero, Act.put, List.setIfInBounds_toArray, List.set_cons_zero, List.set_cons_succ]
                refine wpAnyH_take (i := 14) (v := .int .i64 i) rfl (by kernel_rfl) (by kernel_rfl) (by kernel_rfl) (fun _ _ _ h => h) (Or.inl ⟨by rfl, fun W hSW => ?_⟩) hHeld ?_
                · ((try dsimp only at hSW); go_split_ands; go_simp <;> with_reducible rfl)
                try simp only [List.getElem_toArray, List.getElem_cons_succ, List.getElem_cons_zero, Act.put, List.setIfInBounds_toArray, List.set_cons_zero, List.set_cons_succ]
                refine wpAnyH_ready (rs := [13]) (by kernel_rfl) (by simp) ?_
                refine AllReadyH.cons rfl (fun K hK => ?_) AllReadyH.nil
                try simp only [List.getElem_toArray, List.getElem_cons_succ, List.getElem_cons_zero]
                go_simp
                (refine (reached_any (to := to) (m : Int) _ (HV.out.on (HBW.out.trans (hHeld.1.mono HBW.out.size)) (HBW.out.trans (hHeld.1.mono HBW.out.size)).size) HX.out).mono ?_; rintro e w5 ⟨rv, rfl, hrv, hb5⟩; rw [HRM.out] at hrv)
                try go_wp2_with fail
                refine hK.out _ _ ?_ (fun hHeld => ?_)
                · exact ⟨hHeld.1.trans (hb5.mono hHeld.1.size), (hb5.cell (p := ⟨la, lf + i, none⟩) (Nat.lt_of_lt_of_le (cell_lt hcl) hHeld.1.size)).trans hHeld.2⟩
                clear hK K
                try simp only [List.getElem_toArray, List.getElem_cons_succ, List.getElem_cons_zero, Act.put, List.setIfInBounds_toArray, List.set_cons_zero, List.set_cons_succ]
                have HB5 := Lib.hid hHeld.1
                obtain ⟨rb, rf, rc, e5, _, hcc⟩ := hrv.at (by rw [flagsL_len]; have := HIN.out; omega)
                rw [flagsL_len] at e5
                subst e5
                have hq5 := hcc i (by rw [flagsL_len]; exact HIN.out)
                rw [flagsL_at HIN.out, Option.getD_some, ← HZZ.out] at hq5
                clear hcc hrv hb5
                refine wpAnyH_take (i := 15) (v := .pointer (some ⟨rb, rf + i, none⟩)) rfl (by kernel_rfl) (by kernel_rfl) (by kernel_rfl) (fun _ _ _ h => h) (Or.inl ⟨by rfl, fun W hSW => ?_⟩) hHeld ?_
                · ((try dsimp only at hSW); go_split_ands; go_simp <;> with_reducible rfl)
                try simp only [List.getElem_toArray, List.getElem_cons_succ, List.getElem_cons_zero, Act.put, List.setIfInBounds_toArray, List.set_cons_zero, List.set_cons_succ]
                refine wpAnyH_ready (rs := [16]) (by kernel_rfl) (by simp) ?_
                refine AllReadyH.cons rfl (fun K hK => ?_) AllReadyH.nil
                try simp only [List.getElem_toArray, List.getElem_cons_succ, List.getElem_cons_zero]
                go_simp
                try go_wp2_with fail
                refine hK.out _ _ ?_ (fun hHeld => ?_)
                · exact hHeld
                clear hK K
                try simp only [List.getElem_toArray, List.getElem_cons_succ, List.getElem_cons_zero, Act.put, List.setIfInBounds_toArray, List.set_cons_zero, List.set_cons_succ]
                refine wpAnyH_take (i := 17) (v := .bool false) rfl (by kernel_rfl) (by kernel_rfl) (by kernel_rfl) (fun _ _ _ h => h) (Or.inl ⟨by rfl, fun W hSW => ?_⟩) hHeld ?_
                · ((try dsimp only at hSW); go_split_ands; go_simp <;> with_reducible rfl)
                try simp only [List.getElem_toArray, List.getElem_cons_succ, List.getElem_cons_zero, Act.put, List.setIfInBounds_toArray, List.set_cons_zero, List.set_cons_succ]
                refine wpAnyH_take (i := 18) (v := .bool false) rfl (by kernel_rfl) (by kernel_rfl) (by kernel_rfl) (fun _ _ _ h => h) (Or.inl ⟨by rfl, fun W hSW => ?_⟩) hHeld ?_
                · ((try dsimp only at hSW); go_split_ands; go_simp <;> with_reducible rfl)
                try simp only [List.getElem_toArray, List.getElem_cons_succ, List.getElem_cons_zero, Act.put, List.setIfInBounds_toArray, List.set_cons_zero, List.set_cons_succ]
                refine wpAnyH_done (by kernel_rfl) ?_ _
                clear hHeld hq5 hcl
                have HQ5 := Lib.hid (HQ.out.trans (HB5.out.mono HQ.out.size))
                have HB25 := Lib.hid (HB23.out.trans (HQ5.out.mono HB23.out.size))
                have hcl5 := HLC.out w5 HB25.out i HIN.out
                rw [← HXX.out] at hcl5
                by_cases hx1 : x < 1
                · have hd : decide (x < 1) = true := decide_eq_true hx1
                  go_wp2_with fail
                  go_roundw
                  case rel => exact ⟨i + 1, by have := HIN.out; omega, by go_num, HQ5⟩
                  case measure => have := HIN.out; simp [intOf]; omega
                · have hd : decide (x < 1) = false := decide_eq_false hx1
                  have HGW := Lib.hid (show GraphM w3.heap.size w5 (.slice (some ⟨bb, bf, none⟩) to.length bc) (GG.backG to) from HG3.out.below HQ5.out)
                  obtain ⟨ra, rac, hr1, hrx⟩ := HGW.out.at (show i < (GG.backG to).length by rw [hbl]; exact HIN.out)
                  have HRX := Lib.hid hrx
                  have HBI := Lib.hid (fun k hk => back_in HR.out (k := k) HIN.out hk)
                  have HNX := Lib.hid (fun k mo p h hp hpn => most_next (k := k) (mo := mo) (p := p) HR.out (m := m) (i := i) h hp hpn)
                  have HM0 := Lib.hid (show MostI to m i 0 0 from ⟨Int.le_refl _, by omega, fun j hj => absurd hj (Nat.not_lt_zero _), .inl rfl⟩)
                  have HBK := Lib.hid (GG.row_len (GG.right_at (GG.right_back HR.out) (show i < (GG.backG to).length by rw [hbl]; exact HIN.out)))
                  have hbk : ((GG.backG to)[i]?.getD []).length ≤ 256 := by have := HBK.out; omega
                  obtain ⟨br, ebr⟩ : ∃ br, br = (GG.backG to)[i]?.getD [] := ⟨_, rfl⟩
                  have HEB := Lib.hid ebr
                  rw [← ebr] at hr1 HRX HBI HNX HALL hbk
                  clear ebr hrx
                  go_wp2_with fail
                  go_loopw [8, 9] (fun mv k wr => ∃ (q : Nat) (mo : Int), q ≤ br.length ∧ k = .int .i64 (q : Int) ∧ mv = .int .i64 mo ∧ w5 = wr ∧ RowKit.Hid (MostI to m i q mo)) (fun _ k _ => br.length - (intOf k).toNat)
                  case atStart => exact ⟨0, 0, by omega, rfl, rfl, rfl, HM0⟩
                  case round =>
                    obtain ⟨q, mo, hq, rfl, rfl, rfl, HM⟩ := hrel
                    by_cases hqb : q < br.length
                    · have HQB := Lib.hid hqb
                      obtain ⟨rb1, rf1, e3, hrc⟩ := HRX.out.cellAt hqb
                      cases e3
                      obtain ⟨p, hp, hpn⟩ := HBI.out q hqb
                      rw [hp] at hrc
                      have hcp := HLC.out w5 HB25.out p hpn
                      have HN := Lib.hid (HNX.out q mo p HM.out hp hpn)
                      have i3 : (0 : Int) ≤ q ∧ (q : Int) < br.length := by omega
                      have i4 : (0 : Int) ≤ p ∧ (p : Int) < to.length := by omega
                      obtain ⟨y, hy⟩ : ∃ y, y = entriesL to m p := ⟨_, rfl⟩
                      rw [← hy] at hcp HN
                      clear hy hp
                      go_wp2_with fail
                      go_roundw
                      case rel => exact ⟨q + 1, max mo y, by have := HQB.out; omega, by go_num, by first | rfl | go_num, by first | rfl | trivial, HN⟩
                      case measure => have := HQB.out; simp [intOf]; omega
                    · have HXM := Lib.hid (HALL.out q mo HM.out (by omega) (by omega))
                      have hmo := HM.out.2.1
                      have hmo0 := HM.out.1
                      have hxn := HLE.out (by omega)
                      have HLO1 := Lib.hid (HLO.out (by omega))
                      have HVW := Lib.hid (HV.out.on (HBW.out.trans (HB5.out.mono HBW.out.size)) (HBW.out.trans (HB5.out.mono HBW.out.size)).size)
                      obtain ⟨vb, vf, vc2, e4⟩ := HVW.out.addr (by omega)
                      cases e4
                      obtain ⟨sa, sc, hs1, hsx⟩ := HVW.out.at HIN.out
                      have hsl := GG.row_len (GG.right_at HR.out HIN.out)
                      obtain ⟨sr, esr⟩ : ∃ sr, sr = to[i]?.getD [] := ⟨_, rfl⟩
                      rw [← esr] at hs1 hsx hsl HLO1
                      have HSX := Lib.hid hsx
                      have hw : IntKind.i64.wrap (mo + 1) = mo + 1 := by rw [IntKind.wrap_i64]; omega
                      have hw2 : wrap64 (mo + 1) = mo + 1 := by unfold wrap64; omega
                      have hnx : (x != mo + 1) = false := by rw [HXM.out]; exact bne_self_eq_false _
                      have hgt : decide ((to.length : Int) < x) = false := decide_eq_false (by omega)
                      clear esr hsx hx1 hd
                      go_wp2_with (go_at_call 18; refine (crin_any (i : Int) w5 HSX.out (by omega)).mono ?_; rintro e w' ⟨rfl, e8⟩; rw [e8, HLO1.out]; clear e8)
                      go_roundw
                      case rel => exact ⟨i + 1, by have := HIN.out; omega, by go_num, HQ5⟩
                      case measure => have := HIN.out; simp [intOf]; omega
              · have hxz : (x == (0 : Int)) = false := HZI.out
                go_upto_region 8 with fail
                refine wp_region_held_drew (S := (fun V => Below w4.heap.size w4 V ∧ V.cell? ⟨la, lf + i, none⟩ = some (.int .i64 x))) (by kernel_rfl) ?_ (fun hHeld => ?_)
                · first | exact ⟨Below.refl _ _, hcl⟩ | exact ⟨(Below.refl _ _).drew, hcl⟩
                refine wpAnyH_take (i := 0) (v := .slice (some ⟨la, lf, none⟩) to.length lc) rfl (by kernel_rfl) (by kernel_rfl) (by kernel_rfl) (fun _ _ _ h => h) (Or.inl ⟨by rfl, fun W hSW => ?_⟩) hHeld ?_
                · ((try dsimp only at hSW); go_split_ands; go_simp <;> with_reducible rfl)
                try simp only [List.getElem_toArray, List.getElem_cons_succ, List.getElem_cons_zero, Act.put, List.setIfInBounds_toArray, List.set_cons_zero, List.set_cons_succ]
                refine wpAnyH_take (i := 1) (v := .int .i64 (to.length : Int)) rfl (by kernel_rfl) (by kernel_rfl) (by kernel_rfl) (fun _ _ _ h => h) (Or.inl ⟨by rfl, fun W hSW => ?_⟩) hHeld ?_
                · ((try dsimp only at hSW); go_split_ands; go_simp <;> with_reducible rfl)
                try simp only [List.getElem_toArray, List.getElem_cons_succ, List.getElem_cons_zero, Act.put, List.setIfInBounds_toArray, List.set_cons_zero, List.set_cons_succ]
                refine wpAnyH_take (i := 2) (v := .slice va to.length vc) rfl (by kernel_rfl) (by kernel_rfl) (by kernel_rfl) (fun _ _ _ h => h) (Or.inl ⟨by rfl, fun W hSW => ?_⟩) hHeld ?_
                · ((try dsimp only at hSW); go_split_ands; go_simp <;> with_reducible rfl)
                try simp only [List.getElem_toArray, List.getElem_cons_succ, List.getElem_cons_zero, Act.put, List.setIfInBounds_toArray, List.set_cons_zero, List.set_cons_succ]
                refine wpAnyH_take (i := 3) (v := .int .i64 (to.length : Int)) rfl (by kernel_rfl) (by kernel_rfl) (by kernel_rfl) (fun _ _ _ h => h) (Or.inl ⟨by rfl, fun W hSW => ?_⟩) hHeld ?_
                · ((try dsimp only at hSW); go_split_ands; go_simp <;> with_reducible rfl)
                try simp only [List.getElem_toArray, List.getElem_cons_succ, List.getElem_cons_zero, Act.put, List.setIfInBounds_toArray, List.set_cons_zero, List.set_cons_succ]
                refine wpAnyH_take (i := 4) (v := .bool false) rfl (by kernel_rfl) (by kernel_rfl) (by kernel_rfl) (fun _ _ _ h => h) (Or.inl ⟨by rfl, fun W hSW => ?_⟩) hHeld ?_
                · ((try dsimp only at hSW); go_split_ands; go_simp <;> with_reducible rfl)
                try simp only [List.getElem_toArray, List.getElem_cons_succ, List.getElem_cons_zero, Act.put, List.setIfInBounds_toArray, List.set_cons_zero, List.set_cons_succ]
                refine wpAnyH_take (i := 5) (v := .bool false) rfl (by kernel_rfl) (by kernel_rfl) (by kernel_rfl) (fun _ _ _ h => h) (Or.inl ⟨by rfl, fun W hSW => ?_⟩) hHeld ?_
                · ((try dsimp only at hSW); go_split_ands; go_simp <;> with_reducible rfl)
                try simp only [List.getElem_toArray, List.getElem_cons_succ, List.getElem_cons_zero, Act.put, List.setIfInBounds_toArray, List.set_cons_zero, List.set_cons_succ]
                refine wpAnyH_take (i := 6) (v := .slice (some ⟨la, lf, none⟩) to.length lc) rfl (by kernel_rfl) (by kernel_rfl) (by kernel_rfl) (fun _ _ _ h => h) (Or.inl ⟨by rfl, fun W hSW => ?_⟩) hHeld ?_
                · ((try dsimp only at hSW); go_split_ands; go_simp <;> with_reducible rfl)
                try simp only [List.getElem_toArray, List.getElem_cons_succ, List.getElem_cons_zero, Act.put, List.setIfInBounds_toArray, List.set_cons_zero, List.set_cons_succ]
                refine wpAnyH_take (i := 7) (v := .int .i64 i) rfl (by kernel_rfl) (by kernel_rfl) (by kernel_rfl) (fun _ _ _ h => h) (Or.inl ⟨by rfl, fun W hSW => ?_⟩) hHeld ?_
                · ((try dsimp only at hSW); go_split_ands; go_simp <;> with_reducible rfl)
                try simp only [List.getElem_toArray, List.getElem_cons_succ, List.getElem_cons_zero, Act.put, List.setIfInBounds_toArray, List.set_cons_zero, List.set_cons_succ]
                refine wpAnyH_take (i := 8) (v := .pointer (some ⟨la, lf + i, none⟩)) rfl (by kernel_rfl) (by kernel_rfl) (by kernel_rfl) (fun _ _ _ h => h) (Or.inl ⟨by rfl, fun W hSW => ?_⟩) hHeld ?_
                · ((try dsimp only at hSW); go_split_ands; go_simp <;> with_reducible rfl)
                try simp only [List.getElem_toArray, List.getElem_cons_succ, List.getElem_cons_zero, Act.put, List.setIfInBounds_toArray, List.set_cons_zero, List.set_cons_succ]
                refine wpAnyH_take (i := 9) (v := .int .i64 x) rfl (by kernel_rfl) (by kernel_rfl) (by kernel_rfl) (fun _ _ _ h => h) (Or.inl ⟨by rfl, fun W hSW => ?_⟩) hHeld ?_
                · ((try dsimp only at hSW); go_split_ands; go_simp <;> with_reducible rfl)
                try simp only [List.getElem_toArray, List.getElem_cons_succ, List.getElem_cons_zero, Act.put, List.setIfInBounds_toArray, List.set_cons_zero, List.set_cons_succ]
                refine wpAnyH_take (i := 10) (v := .bool false) rfl (by kernel_rfl) (by kernel_rfl) (by kernel_rfl) (fun _ _ _ h => h) (Or.inl ⟨by rfl, fun W hSW => ?_⟩) hHeld ?_
                · ((try dsimp only at hSW); go_split_ands; go_simp <;> with_reducible rfl)
                try simp only [List.getElem_toArray, List.getElem_cons_succ, List.getElem_cons_zero, Act.put, List.setIfInBounds_toArray, List.set_cons_zero, List.set_cons_succ]
                refine wpAnyH_take (i := 11) (v := .slice va to.length vc) rfl (by kernel_rfl) (by kernel_rfl) (by kernel_rfl) (fun _ _ _ h => h) (Or.inl ⟨by rfl, fun W hSW => ?_⟩) hHeld ?_
                · ((try dsimp only at hSW); go_split_ands; go_simp <;> with_reducible rfl)
                try simp only [List.getElem_toArray, List.getElem_cons_succ, List.getElem_cons_zero, Act.put, List.setIfInBounds_toArray, List.set_cons_zero, List.set_cons_succ]
                refine wpAnyH_take (i := 12) (v := .int .i64 m) rfl (by kernel_rfl) (by kernel_rfl) (by kernel_rfl) (fun _ _ _ h => h) (Or.inl ⟨by rfl, fun W hSW => ?_⟩) hHeld ?_
                · ((try dsimp only at hSW); go_split_ands; go_simp <;> with_reducible rfl)
                try simp only [List.getElem_toArray, List.getElem_cons_succ, List.getElem_cons_zero, Act.put, List.setIfInBounds_toArray, List.set_cons_zero, List.set_cons_succ]
                refine wpAnyH_take (i := 14) (v := .int .i64 i) rfl (by kernel_rfl) (by kernel_rfl) (by kernel_rfl) (fun _ _ _ h => h) (Or.inl ⟨by rfl, fun W hSW => ?_⟩) hHeld ?_
                · ((try dsimp only at hSW); go_split_ands; go_simp <;> with_reducible rfl)
                try simp only [List.getElem_toArray, List.getElem_cons_succ, List.getElem_cons_zero, Act.put, List.setIfInBounds_toArray, List.set_cons_zero, List.set_cons_succ]
                refine wpAnyH_ready (rs := [13]) (by kernel_rfl) (by simp) ?_
                refine AllReadyH.cons rfl (fun K hK => ?_) AllReadyH.nil
                try simp only [List.getElem_toArray, List.getElem_cons_succ, List.getElem_cons_zero]
                go_simp
                (refine (reached_any (to := to) (m : Int) _ (HV.out.on (HBW.out.trans (hHeld.1.mono HBW.out.size)) (HBW.out.trans (hHeld.1.mono HBW.out.size)).size) HX.out).mono ?_; rintro e w5 ⟨rv, rfl, hrv, hb5⟩; rw [HRM.out] at hrv)
                try go_wp2_with fail
                refine hK.out _ _ ?_ (fun hHeld => ?_)
                · exact ⟨hHeld.1.trans (hb5.mono hHeld.1.size), (hb5.cell (p := ⟨la, lf + i, none⟩) (Nat.lt_of_lt_of_le (cell_lt hcl) hHeld.1.size)).trans hHeld.2⟩
                clear hK K
                try simp only [List.getElem_toArray, List.getElem_cons_succ, List.getElem_cons_zero, Act.put, List.setIfInBounds_toArray, List.set_cons_zero, List.set_cons_succ]
                have HB5 := Lib.hid hHeld.1
                obtain ⟨rb, rf, rc, e5, _, hcc⟩ := hrv.at (by rw [flagsL_len]; have := HIN.out; omega)
                rw [flagsL_len] at e5
                subst e5
                have hq5 := hcc i (by rw [flagsL_len]; exact HIN.out)
                rw [flagsL_at HIN.out, Option.getD_some, ← HZZ.out] at hq5
                clear hcc hrv hb5
                refine wpAnyH_take (i := 15) (v := .pointer (some ⟨rb, rf + i, none⟩)) rfl (by kernel_rfl) (by kernel_rfl) (by kernel_rfl) (fun _ _ _ h => h) (Or.inl ⟨by rfl, fun W hSW => ?_⟩) hHeld ?_
                · ((try dsimp only at hSW); go_split_ands; go_simp <;> with_reducible rfl)
                try simp only [List.getElem_toArray, List.getElem_cons_succ, List.getElem_cons_zero, Act.put, List.setIfInBounds_toArray, List.set_cons_zero, List.set_cons_succ]
                refine wpAnyH_ready (rs := [16]) (by kernel_rfl) (by simp) ?_
                refine AllReadyH.cons rfl (fun K hK => ?_) AllReadyH.nil
                try simp only [List.getElem_toArray, List.getElem_cons_succ, List.getElem_cons_zero]
                go_simp
                try go_wp2_with fail
                refine hK.out _ _ ?_ (fun hHeld => ?_)
                · exact hHeld
                clear hK K
                try simp only [List.getElem_toArray, List.getElem_cons_succ, List.getElem_cons_zero, Act.put, List.setIfInBounds_toArray, List.set_cons_zero, List.set_cons_succ]
                refine wpAnyH_take (i := 17) (v := .bool false) rfl (by kernel_rfl) (by kernel_rfl) (by kernel_rfl) (fun _ _ _ h => h) (Or.inl ⟨by rfl, fun W hSW => ?_⟩) hHeld ?_
                · ((try dsimp only at hSW); go_split_ands; go_simp <;> with_reducible rfl)
                try simp only [List.getElem_toArray, List.getElem_cons_succ, List.getElem_cons_zero, Act.put, List.setIfInBounds_toArray, List.set_cons_zero, List.set_cons_succ]
                refine wpAnyH_take (i := 18) (v := .bool false) rfl (by kernel_rfl) (by kernel_rfl) (by kernel_rfl) (fun _ _ _ h => h) (Or.inl ⟨by rfl, fun W hSW => ?_⟩) hHeld ?_
                · ((try dsimp only at hSW); go_split_ands; go_simp <;> with_reducible rfl)
                try simp only [List.getElem_toArray, List.getElem_cons_succ, List.getElem_cons_zero, Act.put, List.setIfInBounds_toArray, List.set_cons_zero, List.set_cons_succ]
                refine wpAnyH_done (by kernel_rfl) ?_ _
                clear hHeld hq5 hcl
                have HQ5 := Lib.hid (HQ.out.trans (HB5.out.mono HQ.out.size))
                have HB25 := Lib.hid (HB23.out.trans (HQ5.out.mono HB23.out.size))
                have hcl5 := HLC.out w5 HB25.out i HIN.out
                rw [← HXX.out] at hcl5
                by_cases hx1 : x < 1
                · have hd : decide (x < 1) = true := decide_eq_true hx1
                  go_wp2_with fail
                  go_roundw
                  case rel => exact ⟨i + 1, by have := HIN.out; omega, by go_num, HQ5⟩
                  case measure => have := HIN.out; simp [intOf]; omega
                · have hd : decide (x < 1) = false := decide_eq_false hx1
                  have HGW := Lib.hid (show GraphM w3.heap.size w5 (.slice (some ⟨bb, bf, none⟩) to.length bc) (GG.backG to) from HG3.out.below HQ5.out)
                  obtain ⟨ra, rac, hr1, hrx⟩ := HGW.out.at (show i < (GG.backG to).length by rw [hbl]; exact HIN.out)
                  have HRX := Lib.hid hrx
                  have HBI := Lib.hid (fun k hk => back_in HR.out (k := k) HIN.out hk)
                  have HNX := Lib.hid (fun k mo p h hp hpn => most_next (k := k) (mo := mo) (p := p) HR.out (m := m) (i := i) h hp hpn)
                  have HM0 := Lib.hid (show MostI to m i 0 0 from ⟨Int.le_refl _, by omega, fun j hj => absurd hj (Nat.not_lt_zero _), .inl rfl⟩)
                  have HBK := Lib.hid (GG.row_len (GG.right_at (GG.right_back HR.out) (show i < (GG.backG to).length by rw [hbl]; exact HIN.out)))
                  have hbk : ((GG.backG to)[i]?.getD []).length ≤ 256 := by have := HBK.out; omega
                  obtain ⟨br, ebr⟩ : ∃ br, br = (GG.backG to)[i]?.getD [] := ⟨_, rfl⟩
                  have HEB := Lib.hid ebr
                  rw [← ebr] at hr1 HRX HBI HNX HALL hbk
                  clear ebr hrx
                  go_wp2_with fail
                  go_loopw [8, 9] (fun mv k wr => ∃ (q : Nat) (mo : Int), q ≤ br.length ∧ k = .int .i64 (q : Int) ∧ mv = .int .i64 mo ∧ w5 = wr ∧ RowKit.Hid (MostI to m i q mo)) (fun _ k _ => br.length - (intOf k).toNat)
                  case atStart => exact ⟨0, 0, by omega, rfl, rfl, rfl, HM0⟩
                  case round =>
                    obtain ⟨q, mo, hq, rfl, rfl, rfl, HM⟩ := hrel
                    by_cases hqb : q < br.length
                    · have HQB := Lib.hid hqb
                      obtain ⟨rb1, rf1, e3, hrc⟩ := HRX.out.cellAt hqb
                      cases e3
                      obtain ⟨p, hp, hpn⟩ := HBI.out q hqb
                      rw [hp] at hrc
                      have hcp := HLC.out w5 HB25.out p hpn
                      have HN := Lib.hid (HNX.out q mo p HM.out hp hpn)
                      have i3 : (0 : Int) ≤ q ∧ (q : Int) < br.length := by omega
                      have i4 : (0 : Int) ≤ p ∧ (p : Int) < to.length := by omega
                      obtain ⟨y, hy⟩ : ∃ y, y = entriesL to m p := ⟨_, rfl⟩
                      rw [← hy] at hcp HN
                      clear hy hp
                      go_wp2_with fail
                      go_roundw
                      case rel => exact ⟨q + 1, max mo y, by have := HQB.out; omega, by go_num, by first | rfl | go_num, by first | rfl | trivial, HN⟩
                      case measure => have := HQB.out; simp [intOf]; omega
                    · have HXM := Lib.hid (HALL.out q mo HM.out (by omega) (by omega))
                      have hmo := HM.out.2.1
                      have hmo0 := HM.out.1
                      have hxn := HLE.out (by omega)
                      have HLO1 := Lib.hid (HLO.out (by omega))
                      have HVW := Lib.hid (HV.out.on (HBW.out.trans (HB5.out.mono HBW.out.size)) (HBW.out.trans (HB5.out.mono HBW.out.size)).size)
                      obtain ⟨vb, vf, vc2, e4⟩ := HVW.out.addr (by omega)
                      cases e4
                      obtain ⟨sa, sc, hs1, hsx⟩ := HVW.out.at HIN.out
                      have hsl := GG.row_len (GG.right_at HR.out HIN.out)
                      obtain ⟨sr, esr⟩ : ∃ sr, sr = to[i]?.getD [] := ⟨_, rfl⟩
                      rw [← esr] at hs1 hsx hsl HLO1
                      have HSX := Lib.hid hsx
                      have hw : IntKind.i64.wrap (mo + 1) = mo + 1 := by rw [IntKind.wrap_i64]; omega
                      have hw2 : wrap64 (mo + 1) = mo + 1 := by unfold wrap64; omega
                      have hnx : (x != mo + 1) = false := by rw [HXM.out]; exact bne_self_eq_false _
                      have hgt : decide ((to.length : Int) < x) = false := decide_eq_false (by omega)
                      clear esr hsx hx1 hd
                      go_wp2_with (go_at_call 18; refine (crin_any (i : Int) w5 HSX.out (by omega)).mono ?_; rintro e w' ⟨rfl, e8⟩; rw [e8, HLO1.out]; clear e8)
                      go_roundw
                      case rel => exact ⟨i + 1, by have := HIN.out; omega, by go_num, HQ5⟩
                      case measure => have := HIN.out; simp [intOf]; omega
            · have HBF := Lib.hid (HB3.out.trans (HQ.out.mono HB3.out.size))
              go_wp2_with (go_at_call 11; refine (awakeC_any _).mono ?_; rintro e w8 ⟨rfl, hb⟩; have HB8 := Lib.hid (HBF.out.trans (hb.mono HBF.out.size)); clear hb)
              go_ret
              exact ⟨rfl, HB8.out⟩
end Go.Proofs.Ytbelhoeailjkkaa
