import Derived.Test.YtbdmpilaeoclgaaPostW
import Derived.Test.YtbdmpilaeoclgaaPostX
import Derived.Test.YtbdmpilaeoclgaaPostY
import Derived.Test.YtbdmpilaeoclgaaGraD
set_option linter.unusedSimpArgs false
set_option linter.unusedVariables false
/-! PostNests: the walk -/
namespace Go.Proofs.Ytbdmpilaeoclgaa.DD
open GG
theorem heldL_yes {to : List (List Int)} (h : postOk to = true) : (heldL to).length = to.length := by unfold heldL; rw [if_pos h]; simp
theorem held_at {to : List (List Int)} (h : postOk to = true) {i : Nat} (hi : i < to.length) : (heldL to)[i]?.getD [] = ((List.range to.length).filter fun f => inRegion to f i).map Int.ofNat := by
  unfold heldL
  rw [if_pos h, List.getElem?_map, List.getElem?_range hi]; rfl
theorem mem_held {to : List (List Int)} (h : postOk to = true) {i : Nat} (hi : i < to.length) (x : Int) : x ∈ (heldL to)[i]?.getD [] ↔ ∃ f : Nat, x = (f : Int) ∧ f < to.length ∧ inRegion to f i = true := by
  rw [held_at h hi, List.mem_map]
  constructor
  · rintro ⟨f, hf, rfl⟩
    obtain ⟨h1, h2⟩ := List.mem_filter.1 hf
    exact ⟨f, rfl, List.mem_range.1 h1, h2⟩
  · rintro ⟨f, rfl, h1, h2⟩
    exact ⟨f, List.mem_filter.2 ⟨List.mem_range.2 h1, h2⟩, rfl⟩
theorem held_len {to : List (List Int)} {i : Nat} : ((heldL to)[i]?.getD []).length ≤ to.length := by
  unfold heldL
  split
  · rw [List.getElem?_map]
    by_cases hi : i < to.length
    · rw [List.getElem?_range hi]
      have := List.length_filter_le (fun f => inRegion to f i) (List.range to.length)
      simpa using this
    · rw [List.getElem?_eq_none (by simpa using hi)]; simp
  · simp
end Go.Proofs.Ytbdmpilaeoclgaa.DD
namespace Go.Proofs.Ytbdmpilaeoclgaa
open Go.RowKit
set_option maxRecDepth 100000 in
set_option maxHeartbeats 1600000 in
theorem postNests_walk {v : Value} {to : List (List Int)} (W : World) (hv : GraphM W.heap.size W v to) (hx : Small to) :
    Calls Try.prog 11 #[v] W fun e W' => e = .returned (.bool true) ∧ Below W.heap.size W W' := by
  have HV := Lib.hid hv
  have HX := Lib.hid hx
  have hx0 := hx.1
  obtain ⟨va, vc, rfl⟩ := hv.form
  clear hv hx
  by_cases hl : to.length ≤ 30
  · cases hp : DD.postOk to
    · have HE := Lib.hid (DD.heldL_no hp)
      clear hp
      go_enter Try.func11, Try.ntmps11
      go_wp2_with (go_at_call 33; refine (held_any (to := to) _ HV.out HX.out).mono ?_; rintro e w1 ⟨hv1, rfl, hg, hb⟩; rw [HE.out] at hg; obtain ⟨ha, hc, rfl⟩ := hg.form; have HB := Lib.hid hb; clear hg hb)
      go_loop [4] (fun k => k = .int .i64 0) (fun _ => 0)
      case atStart => rfl
      case round =>
        subst hrel
        go_wp2_with (go_at_call 31; refine (awakeP_any _).mono ?_; rintro e w9 ⟨rfl, hb⟩; have HB9 := Lib.hid (bstep HB.out hb); clear hb)
        go_ret
        exact ⟨rfl, HB9.out⟩
    · obtain ⟨h255, hr, _, _⟩ := DD.postOk_iff.1 hp
      have hlen := GG.right_len hr
      have HHL := Lib.hid (DD.heldL_yes hp)
      have HMH := Lib.hid (fun i (hi : i < to.length) x => DD.mem_held hp hi x)
      have HLN := Lib.hid (fun i => DD.held_len (to := to) (i := i))
      have HN0 := Lib.hid (fun (F : MeetOk to) (f g i : Nat) (hf : f < to.length) (hg : g < to.length) (h1 : DD.inRegion to g f = true) (h2 : DD.inRegion to f i = true) => (show DD.inRegion to g i = true from by
        obtain ⟨T, hT⟩ := F hp
        exact DD.region_nest hr h255 hT hf hg h1 h2))
      clear hp hr
      go_enter Try.func11, Try.ntmps11
      go_wp2_with (go_at_call 33; refine (held_full (to := to) _ HV.out HX.out).mono ?_; rintro e w1 ⟨⟨hv1, rfl, hg, hb⟩, hok⟩; obtain ⟨hb0, ho0, hc0, ehv⟩ := hg.addr (by rw [HHL.out]; omega); rw [HHL.out] at ehv; subst ehv; have HG := Lib.hid hg; have HN := Lib.hid (HN0.out hok); have HB := Lib.hid hb; clear hg hb hok)
      go_loopw [4] (fun k wr => ∃ i d : Nat, i ≤ to.length ∧ k = .int .i64 (i : Int) ∧ wr = w1.drewN d) (fun k _ => to.length - (intOf k).toNat)
      case atStart => exact ⟨0, 0, Nat.zero_le _, rfl, rfl⟩
      case round =>
        obtain ⟨i, d, hi, rfl, rfl⟩ := hrel
        by_cases hlt : i < to.length
        · have i1 : (0 : Int) ≤ i ∧ (i : Int) < to.length := by omega
          obtain ⟨ra, rac, hx1, hrx⟩ := HG.out.at (show i < (DD.heldL to).length by rw [HHL.out]; exact hlt)
          have HRX := Lib.hid hrx
          have HX1 := Lib.hid hx1
          have HLI := Lib.hid (HLN.out i)
          have HMI := Lib.hid (HMH.out i hlt)
          obtain ⟨r, er⟩ : ∃ r, r = (DD.heldL to)[i]?.getD [] := ⟨_, rfl⟩
          rw [← er] at hx1 HRX HX1 HLI
          simp only [← er] at HMI
          clear hrx er
          go_wp2_with fail
          go_loopw [5] (fun k wr => ∃ q d : Nat, q ≤ r.length ∧ k = .int .i64 (q : Int) ∧ wr = w1.drewN d) (fun k _ => r.length - (intOf k).toNat)
          case atStart => exact ⟨0, d, Nat.zero_le _, rfl, rfl⟩
          case round =>
            obtain ⟨q, d2, hq, rfl, rfl⟩ := hrel
            have hx2 : (w1.drewN d2).cell? ⟨hb0, ho0 + i, none⟩ = _ := HX1.out
            have b1 : r.length ≤ 17592186044416 := by have := HLI.out; omega
            by_cases hqt : q < r.length
            · obtain ⟨xb, xo, era, hcx⟩ := (HRX.out.drewN d2).cellAt hqt
              obtain ⟨f, ef, hfn, hfi⟩ := (HMI.out (r[q]?.getD 0)).1 (GG.getD_mem (d := 0) hqt)
              rw [ef] at hcx
              subst era
              have i2 : (0 : Int) ≤ q ∧ (q : Int) < r.length := by omega
              have i3 : (0 : Int) ≤ f ∧ (f : Int) < to.length := by omega
              have n0 : decide ((f : Int) < 0) = false := decide_eq_false (by omega)
              have n1 : decide ((to.length : Int) ≤ (f : Int)) = false := decide_eq_false (by omega)
              have m1 : decide (to.length ≤ f) = false := decide_eq_false (by omega)
              obtain ⟨rb, rbc, hy0, hry⟩ := HG.out.at (show f < (DD.heldL to).length by rw [HHL.out]; exact hfn)
              have HRY := Lib.hid hry
              have HLF := Lib.hid (HLN.out f)
              have HY := Lib.hid (fun x (hx : x ∈ (DD.heldL to)[f]?.getD []) => (show ∃ g : Nat, x = (g : Int) ∧ g < to.length ∧ (g : Int) ∈ r from by
                obtain ⟨g, e, hg, h1⟩ := (HMH.out f hfn x).1 hx
                exact ⟨g, e, hg, (HMI.out (g : Int)).2 ⟨g, rfl, hg, HN.out f g i hfn hg h1 hfi⟩⟩))
              obtain ⟨s, es⟩ : ∃ s, s = (DD.heldL to)[f]?.getD [] := ⟨_, rfl⟩
              rw [← es] at hy0 HRY HLF
              simp only [← es] at HY
              have HY0 := Lib.hid hy0
              have hy2 : (w1.drewN d2).cell? ⟨hb0, ho0 + f, none⟩ = _ := hy0
              have b2 : s.length ≤ 17592186044416 := by have := HLF.out; omega
              clear hry es hfi ef hy0 hx1
              go_wp2_with fail
              clear hcx hx2 hy2
              go_loopw [7] (fun k wr => ∃ p d : Nat, p ≤ s.length ∧ k = .int .i64 (p : Int) ∧ wr = w1.drewN d) (fun k _ => s.length - (intOf k).toNat)
              case atStart => exact ⟨0, d2, Nat.zero_le _, rfl, rfl⟩
              case round =>
                obtain ⟨p, d3, hp, rfl, hwr⟩ := hrel
                have HWR := Lib.hid hwr
                have hx3 : wr.cell? ⟨hb0, ho0 + i, none⟩ = some (.slice (some ⟨xb, xo, none⟩) r.length rac) := by rw [hwr]; exact HX1.out
                have hy3 : wr.cell? ⟨hb0, ho0 + f, none⟩ = some (.slice rb s.length rbc) := by rw [hwr]; exact HY0.out
                have HRW := Lib.hid (show Row w1.heap.size wr.drew (.slice (some ⟨xb, xo, none⟩) r.length rac) r by rw [hwr]; exact HRX.out.drewN (d3 + 1))
                have HSW := Lib.hid (show Row w1.heap.size wr (.slice rb s.length rbc) s by rw [hwr]; exact HRY.out.drewN d3)
                clear hwr
                by_cases hpt : p < s.length
                · obtain ⟨yb, yo, erb, hcy⟩ := HSW.out.cellAt hpt
                  obtain ⟨g, eg, hgn, hgr⟩ := HY.out (s[p]?.getD 0) (GG.getD_mem (d := 0) hpt)
                  rw [eg] at hcy
                  subst erb
                  have i4 : (0 : Int) ≤ p ∧ (p : Int) < s.length := by omega
                  have HIN := Lib.hid (show decide ((g : Int) ∈ r) = true from decide_eq_true hgr)
                  clear hgr eg
                  go_wp2_with fail
                  go_still_tail 11, (by kernel_rfl)
                  change wpList _ _ _ _ _ wr.drew
                  go_wp2_with (go_at_call 24; refine (rin_any (l := r) (g : Int) _ HRW.out b1).mono ?_; rintro e w' ⟨rfl, rfl⟩; rw [HIN.out])
                  go_roundw
                  case rel => exact ⟨p + 1, d3 + 1, by omega, by go_num, by rw [HWR.out]; rfl⟩
                  case measure => simp [intOf]; omega
                · go_wp2_with fail
                  go_roundw
                  case rel => exact ⟨q + 1, d3, by omega, by go_num, HWR.out⟩
                  case measure => simp [intOf]; omega
            · go_wp2_with fail
              go_roundw
              case rel => exact ⟨i + 1, d2, by omega, by go_num, rfl⟩
              case measure => simp [intOf]; omega
        · go_wp2_with (go_at_call 31; refine (awakeP_any _).mono ?_; rintro e w9 ⟨rfl, hb⟩; have HB9 := Lib.hid (bstep (below_dN HB.out d) hb); clear hb)
          go_ret
          exact ⟨rfl, HB9.out⟩
  · have h : 30 < to.length := by omega
    go_enter Try.func11, Try.ntmps11
    go_wp2_with fail
    go_ret
    exact ⟨rfl, Below.refl _ _⟩
end Go.Proofs.Ytbdmpilaeoclgaa
