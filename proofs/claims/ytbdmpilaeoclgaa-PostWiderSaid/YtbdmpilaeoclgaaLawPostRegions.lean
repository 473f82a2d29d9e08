import Derived.Test.YtbdmpilaeoclgaaPostW
import Derived.Test.YtbdmpilaeoclgaaGraD
set_option linter.unusedSimpArgs false
set_option linter.unusedVariables false
/-! PostRegions: the walk -/
namespace Go.Proofs.Ytbdmpilaeoclgaa
open Go.RowKit
theorem heldL_len (to : List (List Int)) : (DD.heldL to).length ≤ to.length := by
  unfold DD.heldL
  split <;> simp
theorem heldL_row (to : List (List Int)) : ∀ row ∈ DD.heldL to, row.length ≤ to.length := by
  intro row h
  unfold DD.heldL at h
  split at h
  · obtain ⟨i, _, rfl⟩ := List.mem_map.1 h
    rw [List.length_map]
    have := List.length_filter_le (fun f => DD.inRegion to f i) (List.range to.length)
    simpa using this
  · cases h
theorem heldL_small {to : List (List Int)} (h : to.length ≤ 40) : Small (DD.heldL to) :=
  ⟨by have := heldL_len to; omega, fun row hr => by have := heldL_row to row hr; omega⟩
theorem regionL_len (to : List (List Int)) (f : Int) : (DD.regionL to f).length ≤ to.length := by
  unfold DD.regionL
  split
  · rw [List.length_map]
    have := List.length_filter_le (DD.inRegion to f.toNat) (List.range to.length)
    simpa using this
  · simp
set_option maxRecDepth 100000 in
set_option maxHeartbeats 1600000 in
theorem postRegions_walk {v : Value} {to : List (List Int)} (f : Int) (W : World) (hv : GraphM W.heap.size W v to) (hx : Small to) :
    Calls Try.prog 9 #[v, .int .i64 f] W fun e W' => e = .returned (.bool true) ∧ Below W.heap.size W W' := by
  have HV := Lib.hid hv
  have HX := Lib.hid hx
  have hx0 := hx.1
  obtain ⟨va, vc, rfl⟩ := hv.form
  clear hv hx
  by_cases hl : to.length ≤ 40
  · have HLN := Lib.hid (show (DD.regionL to f).length ≤ 17592186044416 by have := regionL_len to f; omega)
    have HHS := Lib.hid (heldL_small hl)
    go_enter Try.func9, Try.ntmps9
    go_wp2_with fail
    refine (copyG_any _ to W HV.out HX.out (by omega)).mono ?_
    rintro e w1 ⟨cv, rfl, hc, hb⟩
    have HC := Lib.hid hc
    have HB := Lib.hid hb
    clear hc hb
    go_wp2_with fail
    refine (region_any w1 HC.out HX.out f).mono ?_
    rintro e w2 ⟨tv, rfl, ht, hb⟩
    have HT := Lib.hid ht
    have HB2 := Lib.hid (bstep HB.out hb)
    clear ht hb
    go_wp2_with fail
    refine (copyG_any _ to w2 (HV.out.on HB2.out HB2.out.size) HX.out (by omega)).mono ?_
    rintro e w3 ⟨cv2, rfl, hc, hb⟩
    have HC2 := Lib.hid hc
    have HT3 := Lib.hid (HT.out.on hb hb.size)
    have HB3 := Lib.hid (bstep HB2.out hb)
    clear hc hb
    go_wp2_with fail
    refine (held_any w3 HC2.out HX.out).mono ?_
    rintro e w4 ⟨hv4, rfl, hg, hb⟩
    have HG := Lib.hid hg
    have HT4 := Lib.hid (HT3.out.on hb hb.size)
    have HB4 := Lib.hid (bstep HB3.out hb)
    clear hg hb
    go_wp2_with fail
    refine (rregion_any w4 (HV.out.on HB4.out HB4.out.size) HX.out f).mono ?_
    rintro e w5 ⟨rv, rfl, hr, hb⟩
    have HR := Lib.hid hr
    have HT5 := Lib.hid (HT4.out.on hb hb.size)
    have HG5 := Lib.hid (HG.out.on hb hb.size)
    have HB5 := Lib.hid (bstep HB4.out hb)
    clear hr hb
    go_wp2_with fail
    refine (ints_any _ _ (DD.regionL to f) (DD.regionL to f) _ _ HT5.out HR.out HLN.out HLN.out).mono ?_
    rintro e w6 ⟨rfl, d, rfl⟩
    rw [decide_eq_true (rfl : DD.regionL to f = DD.regionL to f)]
    have HB6 := Lib.hid (below_dN HB5.out d)
    have hdn := below_dN (Below.refl w5.heap.size w5) d
    have HG6 := Lib.hid (HG5.out.on hdn hdn.size)
    clear hdn
    obtain ⟨w6, ew6⟩ : ∃ w6, w6 = w5.drewN d := ⟨_, rfl⟩
    rw [← ew6]
    rw [← ew6] at HB6 HG6
    clear ew6
    go_wp2_with fail
    refine (rheld_any w6 (HV.out.on HB6.out HB6.out.size) HX.out).mono ?_
    rintro e w7 ⟨rv7, rfl, hr, hb⟩
    have HR7 := Lib.hid hr
    have HG7 := Lib.hid (HG6.out.on hb hb.size)
    have HB7 := Lib.hid (bstep HB6.out hb)
    clear hr hb
    go_wp2_with fail
    refine (same_any _ _ (DD.heldL to) (DD.heldL to) _ _ HG7.out HR7.out HHS.out HHS.out).mono ?_
    rintro e w8 ⟨rfl, d2, rfl⟩
    rw [decide_eq_true (rfl : DD.heldL to = DD.heldL to)]
    have HB8 := Lib.hid (below_dN HB7.out d2)
    obtain ⟨w8, ew8⟩ : ∃ w8, w8 = w7.drewN d2 := ⟨_, rfl⟩
    rw [← ew8]
    rw [← ew8] at HB8
    clear ew8
    go_wp2_with fail
    refine (awakeP_any _).mono ?_
    rintro e w9 ⟨rfl, hb⟩
    have HB9 := Lib.hid (bstep HB8.out hb)
    clear hb
    go_wp2_with fail
    go_ret
    exact ⟨rfl, HB9.out⟩
  · have h : 40 < to.length := by omega
    go_enter Try.func9, Try.ntmps9
    go_wp2_with fail
    go_ret
    exact ⟨rfl, Below.refl _ _⟩
end Go.Proofs.Ytbdmpilaeoclgaa
