import Derived.Test.YtbdmpilaeoclgaaLawPostNests
import Derived.Test.YtbdmpilaeoclgaaPostZ
set_option linter.unusedSimpArgs false
set_option linter.unusedVariables false
/-! PostStraight: the walk -/
namespace Go.Proofs.Ytbdmpilaeoclgaa.DD
open GG
theorem line_region {k i : Nat} (h : i < k) : regionL (lineG k) (i : Int) = [] := regionL_way (decide_eq_false (line_way h))
theorem line_held {k i : Nat} (h0 : 1 ≤ k) (h : k ≤ 255) (hi : i < k) : (heldL (lineG k))[i]?.getD [] = [] := by
  rw [held_at (line_ok h0 h) (by rw [line_len]; exact hi), List.filter_eq_nil_iff.2 (fun f hf => ?_)]
  · rfl
  · have hf := List.mem_range.1 hf
    rw [line_len] at hf
    rw [inRegion_no (decide_eq_false (line_way hf))]; simp
theorem line_small {k : Nat} (h : k ≤ 100) : Small (lineG k) := by
  refine ⟨by rw [line_len]; omega, fun row hr => ?_⟩
  unfold lineG lineR at hr
  obtain ⟨i, _, rfl⟩ := List.mem_map.1 hr
  split <;> simp
theorem line_tree {k : Nat} (h0 : 1 ≤ k) (h : k ≤ 255) {i : Nat} (hi : i < k) : (postL (lineG k))[i]?.getD 0 = (i : Int) + 1 := by
  rw [postL_at (line_ok h0 h) (by rw [line_len]; exact hi), line_meet h0 (by omega) hi]
end Go.Proofs.Ytbdmpilaeoclgaa.DD
namespace Go.Proofs.Ytbdmpilaeoclgaa
open Go.RowKit
set_option maxRecDepth 100000 in
set_option maxHeartbeats 1600000 in
theorem postStraight_walk (n : Int) (hn : 0 ≤ n ∧ n ≤ 255) (W : World) :
    Calls Try.prog 12 #[.int .u8 n] W fun e W' => e = .returned (.bool true) ∧ Below W.heap.size W W' := by
  obtain ⟨k, hk⟩ : ∃ k : Nat, 1 + n % 100 = (k : Int) := ⟨(1 + n % 100).toNat, by omega⟩
  have hk2 : 1 ≤ k ∧ k ≤ 100 := by omega
  obtain ⟨j0, hj, hy0, hy1, hy2⟩ := info_parts Try.infoGRow
  go_enter Try.func12, Try.ntmps12
  go_wp2_with fail
  go_loopw [4, 5] (fun o q wr => ∃ (i : Nat) (vs : List Value), i + 1 ≤ k ∧ q = .int .i64 (i : Int) ∧ wr.ownsRow W.heap.size 24 1 o i vs ∧ GG.Rows W.heap.size wr vs (DD.lineR k i) ∧ Below W.heap.size W wr) (fun _ q _ => k - (intOf q).toNat)
  case atStart => exact ⟨0, [], by omega, rfl, World.ownsRow_nil _ _ _ _, GG.Rows.nil _ _, Below.refl _ _⟩
  case round =>
    obtain ⟨i, vs, hi, rfl, hO, hR, hB⟩ := hrel
    have HO := Lib.hid hO
    have HR := Lib.hid hR
    have HB := Lib.hid hB
    clear hO hR hB
    have hw : IntKind.i64.wrap ((i : Int) + 1) = (i : Int) + 1 := IntWalk.i64_in _ (by omega)
    by_cases hlt : i + 1 < k
    · have hlt' : (i : Int) + 1 < (k : Int) := by omega
      have HL := Lib.hid (show DD.lineR k i ++ [[(i : Int) + 1]] = DD.lineR k (i + 1) by rw [DD.lineR_succ, if_pos hlt])
      have HRW := Lib.hid (show GG.Rows W.heap.size (wr.alloc (.cells #[.int .i64 ((i : Int) + 1)] 3)) (vs ++ [.slice (some ⟨wr.heap.size, 0, none⟩) 1 1]) (DD.lineR k (i + 1)) by
        rw [← HL.out]
        exact (HR.out.alloc _).snoc (World.ownsRow_lit wr #[.int .i64 ((i : Int) + 1)] 1 HB.out.size (by unfold maxLen; omega) rfl))
      have HO1 := Lib.hid (HO.out.alloc (.cells #[.int .i64 ((i : Int) + 1)] 3))
      have HB1 := Lib.hid (HB.out.alloc HB.out.size (.cells #[.int .i64 ((i : Int) + 1)] 3))
      go_wp2_with (first
        | (at_builtin
           refine GG.wpList_append_any rfl _ _ 22 rfl W.heap.size 24 j0 (.slice none 0 0) 1 24 Try.underlying22 hj hy0 hy1 hy2 rfl (by decide) u4 i vs rfl (HO1.out.alloc _) (.slice (some ⟨wr.heap.size + 1, 0, none⟩) 1 1) 1 [.slice (some ⟨wr.heap.size, 0, none⟩) 1 1] rfl rfl (.inr ⟨_, _, rfl, by have := GG.cell_one (wr.alloc (.cells #[.int .i64 ((i : Int) + 1)] 3)) (.slice (some ⟨wr.heap.size, 0, none⟩) 1 1) 24; simpa using this⟩) (by intro u hu; rw [List.mem_singleton.1 hu]; rfl) (by unfold maxLen; omega) (by omega) (by have := HB.out.size; simp; omega) ?_
           intro v2 w2 ho hg
           have HD := Lib.hid (show w2.ownsRow W.heap.size 24 1 v2 (i + 1) (vs ++ [.slice (some ⟨wr.heap.size, 0, none⟩) 1 1]) ∧ GG.Rows W.heap.size w2 (vs ++ [.slice (some ⟨wr.heap.size, 0, none⟩) 1 1]) (DD.lineR k (i + 1)) ∧ Below W.heap.size W w2 from ⟨ho, (HRW.out.alloc _).kept (HO1.out.alloc _) (by decide) hg, (HB1.out.alloc HB1.out.size _).grown hg (by have := HB.out.size; simp; omega) (fun k e => (HO1.out.lt k e).1)⟩)
           clear ho hg))
      go_roundw
      case rel => exact ⟨i + 1, _, by omega, by go_num, HD.out.1, HD.out.2.1, HD.out.2.2⟩
      case measure => simp [intOf]; omega
    · have hk1 : i + 1 = k := by omega
      have hlt' : decide ((i : Int) + 1 < (k : Int)) = false := decide_eq_false (by omega)
      have HRW := Lib.hid (show GG.Rows W.heap.size (wr.alloc (.cells #[.slice none 0 0] 24)) (vs ++ [.slice none 0 0]) (DD.lineG k) by
        have e : DD.lineG k = DD.lineR k i ++ [[]] := by unfold DD.lineG; rw [← hk1, DD.lineR_succ, if_neg (by omega), hk1]
        rw [e]
        exact (HR.out.alloc _).snoc (World.ownsRow_nil _ _ _ _))
      have HO1 := Lib.hid (HO.out.alloc (.cells #[.slice none 0 0] 24))
      have HB1 := Lib.hid (HB.out.alloc HB.out.size (.cells #[.slice none 0 0] 24))
      have HOK := Lib.hid (DD.line_ok hk2.1 (by omega))
      have HSM := Lib.hid (show Small (DD.lineG k) from DD.line_small hk2.2)
      have HLN := Lib.hid (show (DD.postL (DD.lineG k)).length = k by rw [DD.postL_len HOK.out, DD.line_len])
      have HLH := Lib.hid (show (DD.heldL (DD.lineG k)).length = k by rw [DD.heldL_yes HOK.out, DD.line_len])
      have HLG := Lib.hid (DD.line_len k)
      have HTR := Lib.hid (fun i (hi : i < k) => DD.line_tree hk2.1 (by omega) hi)
      have HHE := Lib.hid (fun i (hi : i < k) => DD.line_held hk2.1 (by omega) hi)
      have HRE := Lib.hid (fun i (hi : i < k) => DD.line_region (k := k) hi)
      have HRI := Lib.hid (DD.line_right hk2.1 (show k ≤ 256 by omega))
      generalize DD.lineG k = G at *
      go_wp2_with (first
        | (at_builtin
           refine GG.wpList_append_any rfl _ _ 22 rfl W.heap.size 24 j0 (.slice none 0 0) 1 24 Try.underlying22 hj hy0 hy1 hy2 rfl (by decide) u4 i vs rfl HO1.out (.slice (some ⟨wr.heap.size, 0, none⟩) 1 1) 1 [.slice none 0 0] rfl rfl (.inr ⟨_, _, rfl, GG.cell_one _ _ _⟩) (by intro u hu; rw [List.mem_singleton.1 hu]; rfl) (by unfold maxLen; omega) (by omega) (by have := HB.out.size; simp; omega) ?_
           intro v2 w2 ho hg
           have HB2 := Lib.hid (show Below W.heap.size W w2 from HB1.out.grown hg (by have := HB.out.size; simp; omega) (fun k e => (HO1.out.lt k e).1))
           have HGM := Lib.hid (show GraphM w2.heap.size w2 v2 G from (HRW.out.kept HO1.out (by decide) hg).graph (by rw [HLG.out, ← hk1]; exact ho))
           clear ho hg)
        | (go_at_call 29; refine (ptree_any (to := G) _ HGM.out HSM.out).mono ?_; rintro e w3 ⟨av, rfl, hav, hb⟩; obtain ⟨aa, ac, eav⟩ := hav.form; rw [HLN.out] at eav; subst eav; have HAV := Lib.hid hav; have HB3 := Lib.hid (bstep HB2.out hb); have HG3 := Lib.hid (HGM.out.on hb hb.size); clear hb hav)
        | (go_at_call 33; refine (held_any (to := G) _ HG3.out HSM.out).mono ?_; rintro e w4 ⟨bv, rfl, hbv, hb⟩; obtain ⟨ba, bc, ebv⟩ := hbv.form; rw [HLH.out] at ebv; subst ebv; have HBV := Lib.hid hbv; have HB4 := Lib.hid (bstep HB3.out hb); have HG4 := Lib.hid (HG3.out.on hb hb.size); have HAW := Lib.hid (HAV.out.on hb hb.size); clear hb hbv))
      go_loopw [8] (fun q wl => ∃ i : Nat, i ≤ k ∧ q = .int .i64 (i : Int) ∧ Below w4.heap.size w4 wl) (fun q _ => k - (intOf q).toNat)
      case atStart => exact ⟨0, by omega, rfl, Below.refl _ _⟩
      case round =>
        obtain ⟨i, hi, rfl, hb⟩ := hrel
        rename_i wl _
        have HBL := Lib.hid hb
        clear hb
        by_cases hlt : i < k
        · have i1 : (0 : Int) ≤ i ∧ (i : Int) < k := by omega
          have hw : IntKind.i64.wrap ((i : Int) + 1) = (i : Int) + 1 := IntWalk.i64_in _ (by omega)
          obtain ⟨ab, ao, eaa, hac⟩ := (HAW.out.below HBL.out).cellAt (show i < (DD.postL G).length by rw [HLN.out]; exact hlt)
          rw [HTR.out i hlt] at hac
          subst eaa
          obtain ⟨bb, bo, bc', eb⟩ := HBV.out.addr (by rw [HLH.out]; omega)
          cases eb
          obtain ⟨ra, rac, hx1, _⟩ := (HBV.out.below HBL.out).at (show i < (DD.heldL G).length by rw [HLH.out]; exact hlt)
          rw [HHE.out i hlt] at hx1
          have HR0 := Lib.hid (HRE.out i hlt)
          go_wp2_with (go_at_call 32; refine (region_any (to := G) _ (HG4.out.on HBL.out HBL.out.size) HSM.out (i : Int)).mono ?_; rintro e w5 ⟨rv, rfl, hrv, hb⟩; rw [HR0.out] at hrv; obtain ⟨xa, xc, rfl⟩ := hrv.form; have HB5 := Lib.hid (bstep HBL.out hb); clear hb hrv)
          go_roundw
          case rel => exact ⟨i + 1, by omega, by go_num, HB5.out⟩
          case measure => simp [intOf]; omega
        · go_wp2_with (first
            | (go_at_call 25; refine (rightG_any _ G _ (HG4.out.on HBL.out HBL.out.size) HSM.out).mono ?_; rintro e w6 ⟨rfl, hb⟩; rw [HRI.out]; have HB6 := Lib.hid (bstep HBL.out hb); clear hb)
            | (go_at_call 31; refine (awakeP_any _).mono ?_; rintro e w9 ⟨rfl, hb⟩; have HB9 := Lib.hid (bstep HB4.out (bstep HB6.out hb)); clear hb))
          go_ret
          exact ⟨rfl, HB9.out⟩
end Go.Proofs.Ytbdmpilaeoclgaa
