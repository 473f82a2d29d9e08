import Derived.Test.YtjadckmdkkeopaaDoorSolZ
import Derived.Test.YtjadckmdkkeopaaDoorOpenS
import Derived.Test.YtjadckmdkkeopaaDoorDoorZ
import Derived.Deep.CutBlock
set_option linter.unusedSimpArgs false
set_option linter.unusedVariables false
/-! SolveBounds, walked -/
namespace Go.Proofs.YtjadckmdkkeopaaDoor
open Go.RowKit
open SV (Lab SysOk Least labs sumOf mu sumP at' natsL askT askI fanN lok Bnd val valT)
theorem numS_src {n : Nat} {W : World} {a : Option Addr} {c : Nat} {xs : List Int} (h : Nums .u64 n W (.slice a xs.length c) xs) (hn : a = none → c = 0) :
    Value.slice a xs.length c = .slice none 0 0 ∧ xs.length = 0 ∨ ∃ ad c', Value.slice a xs.length c = .slice (some ad) xs.length c' ∧ ∀ j u, (xs.map (Value.int .u64))[j]? = some u → W.cell? (ad.add j) = some u := by
  rcases h with ⟨⟨a', c', e⟩, rfl⟩ | ⟨b, off, cap, e, _, _, hc⟩
  · cases a with
    | none => rw [hn rfl]; exact .inl ⟨rfl, rfl⟩
    | some x => exact .inr ⟨x, c, rfl, fun j u hj => by simp at hj⟩
  · cases e
    refine .inr ⟨_, _, rfl, fun j u hj => ?_⟩
    rw [Addr.add_lit]
    have hjl : j < xs.length := by have := (List.getElem?_eq_some_iff.1 hj).1; simpa using this
    rw [hc j hjl, List.getElem?_eq_getElem hjl]
    rw [List.getElem?_map, List.getElem?_eq_getElem hjl] at hj
    exact hj
theorem numS_one (xs : List Int) : ∀ u ∈ xs.map (Value.int .u64), u.oneCell' = true := by
  intro u hu
  obtain ⟨x, _, rfl⟩ := List.mem_map.1 hu
  rfl
theorem boundZ_one {xs : List Int} {c l : List (Int × Int)} {tq : List (List Int)} {y z : Bool} (h : BoundZ xs c tq l y) (g : BoundZ xs c tq l z) : y = z := by
  have : (y = true ↔ z = true) := h.trans g.symm
  cases y <;> cases z <;> simp_all
theorem SysAt.grown {W w w' : World} {cv nv : Value} {row : Option Nat} (h : SysAt W cv nv w) (hg : w.grownBy w' row) (hr : ∀ k, row = some k → W.heap.size < k) : SysAt W cv nv w' := by
  have hb : Below (W.heap.size + 1) w w' := ⟨hg.os, hg.tape, hg.output, hg.size, fun k hk => hg.block k (by have := h.2.1; omega) (fun e => by have := hr k e.symm; omega)⟩
  exact ⟨h.1.trans (hb.mono (Nat.le_succ _)), Nat.lt_of_lt_of_le h.2.1 hb.size, (hb.cell (p := ⟨W.heap.size, 0, none⟩) (Nat.lt_succ_self _)).trans h.2.2.1, (hb.cell (p := ⟨W.heap.size, 1, none⟩) (Nat.lt_succ_self _)).trans h.2.2.2⟩
theorem infoU64 : (Tryd.prog.info? 41).map (fun i => (i.zero, i.size, i.bytes)) = some (some (.int .u64 0), 1, 8) := by kernel_rfl
theorem all_take {n : Nat} {l : List (Int × Int)} (h : ∀ a, a < l.length → labOk n (l[a]?.getD s0) = true) : l.all (labOk n) = true := by
  rw [List.all_eq_true]
  intro p hp
  obtain ⟨i, hi, rfl⟩ := List.mem_iff_getElem.1 hp
  have := h i hi
  rwa [List.getElem?_eq_getElem hi] at this
theorem all_miss {n : Nat} {l : List (Int × Int)} {j : Nat} (hj : j < l.length) (h : labOk n (l[j]?.getD s0) = false) : l.all (labOk n) = false := by
  rw [List.all_eq_false]
  exact ⟨l[j]?.getD s0, GG.getD_mem hj, by rw [h]; simp⟩
set_option maxRecDepth 100000 in
set_option maxHeartbeats 12800000 in
theorem solveBounds_walk {ua la : Option Addr} {uc lc : Nat} {cv nv : Value} {xs : List Int} {c l : List (Int × Int)} {tq : List (List Int)} (W : World) (hu : Nums .u64 W.heap.size W (.slice ua xs.length uc) xs) (hun : ua = none → uc = 0) (hx : Wide xs) (hxl : xs.length ≤ big5) (hT : Tz W) (hv : LabRow W.heap.size W cv c) (hwc : WideL c) (hg : GraphM W.heap.size W nv tq) (hs : Small tq) (hl : LabRow W.heap.size W (.slice la l.length lc) l) (hwl : WideL l) (hcl : c.length ≤ 17592186044416) (hll : l.length * 16 ≤ 140737488355328) :
    Calls Tryd.prog 4 #[.slice ua xs.length uc, .agg #[cv, nv], .slice la l.length lc] W fun e V => e = .returned (.bool true) ∧ Below W.heap.size W V := by
  obtain ⟨ca, cc, rfl⟩ := hv.form
  obtain ⟨na, nc, rfl⟩ := hg.form
  obtain ⟨i0, hi0, hz0, hz1, hz2⟩ := info_parts infoLab
  obtain ⟨j0, hj0, hy0, hy1, hy2⟩ := info_parts infoU64
  have HU := Lib.hid hu
  have HUN := Lib.hid hun
  have HX := Lib.hid hx
  have HXL := Lib.hid hxl
  have HT := Lib.hid hT
  have HC := Lib.hid hv
  have HWC := Lib.hid hwc
  have HG := Lib.hid hg
  have HSM := Lib.hid hs
  have HL := Lib.hid hl
  have HWL := Lib.hid hwl
  have HCL := Lib.hid hcl
  have HS0 := Lib.hid (sysAt_start W (.slice ca c.length cc) (.slice na tq.length nc))
  have HFEW := Lib.hid (few_any (ca := ca) (cc := cc) (l := c) _ ((HG.out.below HS0.out.1).mono HS0.out.1.size) hcl hs)
  have HAW := Lib.hid (fun w (hb : Below W.heap.size W w) => awake17_any w (hT.on hb))
  have HRR := Lib.hid (fun w (hb : Below W.heap.size W w) => rright17_any w ((HU.out.below hb).mono hb.size) hx hxl ((HC.out.below hb).mono hb.size) ((HG.out.below hb).mono hb.size) hcl hs)
  have b0 : (c.length : Int) ≤ 17592186044416 := by omega
  have b1 : (l.length : Int) ≤ 17592186044416 := by omega
  have b2 : (xs.length : Int) ≤ 17592186044416 := by have := hxl; unfold big5 at this; omega
  obtain ⟨z, ez⟩ : ∃ z, z = fewB c tq := ⟨_, rfl⟩
  have HZ := Lib.hid ez
  have HLB := Lib.hid hll
  clear hu hun hx hxl hT hv hwc hg hs hl hwl hcl hll ez
  cases z with
  | false =>
    go_enter Tryd.func4, Tryd.ntmps4
    go_wp2_with (go_at_call 15; refine HFEW.out.mono ?_; rintro e w2 ⟨rfl, hb2⟩; rw [← HZ.out]; have HS2 := Lib.hid (HS0.out.on hb2); clear hb2)
    go_ret
    exact ⟨rfl, HS2.out.1⟩
  | true =>
    by_cases h8 : (8 : Int) < xs.length
    · go_enter Tryd.func4, Tryd.ntmps4
      go_wp2_with (go_at_call 15; refine HFEW.out.mono ?_; rintro e w2 ⟨rfl, hb2⟩; rw [← HZ.out]; have HS2 := Lib.hid (HS0.out.on hb2); clear hb2)
      go_ret
      exact ⟨rfl, HS2.out.1⟩
    · obtain ⟨f1, f2, f3⟩ := few_parts HZ.out.symm
      have HTM := Lib.hid (fun a => Nat.le_trans (f3 a) (show 60 ≤ 1000000 by decide))
      have HSZ := Lib.hid (show xs.length ≤ 8 ∧ c.length ≤ 60 ∧ tq.length ≤ 60 ∧ l.length * 16 ≤ 140737488355328 from ⟨by omega, f1, f2, HLB.out⟩)
      clear f1 f2 f3
      obtain ⟨zs, ezs⟩ : ∃ zs, zs = sysB xs c tq := ⟨_, rfl⟩
      have HSY := Lib.hid ezs
      obtain ⟨zl, ezl⟩ : ∃ zl, zl = ((l.length : Int) == (c.length : Int)) := ⟨_, rfl⟩
      have HZL := Lib.hid ezl
      clear ezs ezl
      go_enter Tryd.func4, Tryd.ntmps4
      go_upto_region 3 with (go_at_call 15; refine HFEW.out.mono ?_; rintro e w2 ⟨rfl, hb2⟩; rw [← HZ.out]; have HS2 := Lib.hid (HS0.out.on hb2); clear hb2)
      go_cut [7] from 18 to 31 (fun s7 w9 => s7 = .bool (zs && zl) ∧ SysAt W (.slice ca c.length cc) (.slice na tq.length nc) w9)
      case first =>
        have hc0 := HS2.out.2.2.1
        have hc1 := HS2.out.2.2.2
        cases zs with
        | false =>
          go_wp2_with (go_at_call 18; refine (HRR.out _ HS2.out.1).mono ?_; rintro e w3 ⟨rfl, hb3⟩; rw [← HSY.out]; have HS3 := Lib.hid (HS2.out.on hb3); clear hb3 hc0 hc1; have hc0 := HS3.out.2.2.1; have hc1 := HS3.out.2.2.2)
          go_meet
          case rel => exact ⟨rfl, HS3.out⟩
        | true =>
          cases zl with
          | false =>
            have hq := HZL.out.symm
            go_wp2_with (go_at_call 18; refine (HRR.out _ HS2.out.1).mono ?_; rintro e w3 ⟨rfl, hb3⟩; rw [← HSY.out]; have HS3 := Lib.hid (HS2.out.on hb3); clear hb3 hc0 hc1; have hc0 := HS3.out.2.2.1; have hc1 := HS3.out.2.2.2)
            go_meet
            case rel => exact ⟨rfl, HS3.out⟩
          | true =>
            have hq := HZL.out.symm
            go_wp2_with (go_at_call 18; refine (HRR.out _ HS2.out.1).mono ?_; rintro e w3 ⟨rfl, hb3⟩; rw [← HSY.out]; have HS3 := Lib.hid (HS2.out.on hb3); clear hb3 hc0 hc1; have hc0 := HS3.out.2.2.1; have hc1 := HS3.out.2.2.2)
            go_meet
            case rel => exact ⟨rfl, HS3.out⟩
      case rest =>
        obtain ⟨rfl, hsa⟩ := hcut
        have HS3 := Lib.hid hsa
        clear hsa
        obtain ⟨z0, ez0⟩ : ∃ z0, z0 = (zs && zl) := ⟨_, rfl⟩
        have HZ0 := Lib.hid ez0
        rw [← ez0]
        clear ez0
        obtain ⟨w3, ew3⟩ : ∃ w3 : World, w3 = wc := ⟨_, rfl⟩
        rw [← ew3]
        rw [← ew3] at HS3
        clear ew3
        go_upto_block 0 with fail
        go_cut [7, 8] from 32 to 46 (fun s7 s8 w9 => s7 = .bool (z0 && l.all (labOk xs.length)) ∧ SysAt W (.slice ca c.length cc) (.slice na tq.length nc) w9)
        case first =>
          go_wp2_with fail
          go_loopw [7, 8] (fun s k wr => ∃ (i : Nat) (b : Bool), i ≤ l.length ∧ k = .int .i64 (i : Int) ∧ s = .bool b ∧ SysAt W (.slice ca c.length cc) (.slice na tq.length nc) wr ∧ RowKit.Hid (b = true → z0 = true ∧ ∀ a, a < i → labOk xs.length (l[a]?.getD s0) = true) ∧ RowKit.Hid (b = false → (z0 && l.all (labOk xs.length)) = false)) (fun _ k _ => l.length - (intOf k).toNat)
          case atStart => exact ⟨0, z0, Nat.zero_le _, rfl, rfl, HS3.out, Lib.hid fun h => ⟨h, fun a ha => absurd ha (Nat.not_lt_zero _)⟩, Lib.hid fun h => by rw [h]; rfl⟩
          case round =>
            obtain ⟨i, b, hi, rfl, rfl, hsa, HT1, HF1⟩ := hrel
            have HS4 := Lib.hid hsa
            clear hsa
            cases b with
            | false =>
              have HR := Lib.hid (HF1.out rfl)
              by_cases hlt : i < l.length
              · have i1 : (i : Int) < l.length := by omega
                go_wp2_with fail
                go_meet
                case rel => exact ⟨by rw [HR.out], HS4.out⟩
              · have i1 : ¬ ((i : Int) < l.length) := by omega
                go_wp2_with fail
                go_meet
                case rel => exact ⟨by rw [HR.out], HS4.out⟩
            | true =>
              by_cases hlt : i < l.length
              · have i1 : (0 : Int) ≤ i ∧ (i : Int) < l.length := by omega
                obtain ⟨lb, lo, rfl, _, hl1, hl2⟩ := (HL.out.below HS4.out.1).at hlt
                have HNF := Lib.hid (fun h => all_miss (n := xs.length) hlt h)
                have HNT := Lib.hid (fun (h : labOk xs.length (l[i]?.getD s0) = true) (a : Nat) (ha : a < i + 1) => if e : a = i then e ▸ h else (HT1.out rfl).2 a (by omega))
                have HZT := Lib.hid (HT1.out rfl).1
                obtain ⟨⟨p1, p2⟩, ep⟩ : ∃ p, p = l[i]?.getD s0 := ⟨_, rfl⟩
                rw [← ep] at hl1 hl2 HNF HNT
                clear ep
                simp only at hl1 hl2
                obtain ⟨bn, ebn⟩ : ∃ bn, bn = labOk xs.length (p1, p2) := ⟨_, rfl⟩
                have HBN := Lib.hid ebn
                rw [← ebn] at HNF HNT
                clear ebn
                go_wp2_with (go_at_call 26; refine (rgood17_any _ _ _ _ _ _).mono ?_; rintro e w4 ⟨rfl, hb4⟩; rw [← HBN.out]; have HS5 := Lib.hid (HS4.out.on hb4); clear hb4 hl1 hl2)
                go_roundw
                case rel => exact ⟨i + 1, bn, by omega, by go_num, rfl, HS5.out, Lib.hid fun h => ⟨HZT.out, HNT.out h⟩, Lib.hid fun h => by rw [HNF.out h, Bool.and_false]⟩
                case measure => simp [intOf]; omega
              · have i1 : ¬ ((i : Int) < l.length) := by omega
                have HR := Lib.hid (show (z0 && l.all (labOk xs.length)) = true by rw [(HT1.out rfl).1, all_take (fun a ha => (HT1.out rfl).2 a (by omega))]; rfl)
                go_wp2_with fail
                go_meet
                case rel => exact ⟨by rw [HR.out], HS4.out⟩
        case rest =>
          obtain ⟨rfl, hsa⟩ := hcut
          have HS4 := Lib.hid hsa
          clear hsa
          obtain ⟨z1, ez1⟩ : ∃ z1, z1 = (z0 && l.all (labOk xs.length)) := ⟨_, rfl⟩
          have HZ1 := Lib.hid ez1
          rw [← ez1]
          clear ez1
          obtain ⟨w4, ew4⟩ : ∃ w4 : World, w4 = wc := ⟨_, rfl⟩
          rw [← ew4]
          rw [← ew4] at HS4
          clear ew4
          go_upto_block 2 with fail
          go_cut [7, 9] from 47 to 69 (fun s7 s9 w9 => (∃ z, s7 = .bool z ∧ BoundZ xs c tq l z) ∧ SysAt W (.slice ca c.length cc) (.slice na tq.length nc) w9)
          case first =>
            go_wp2_with fail
            go_loopw [7, 9] (fun s k wr => ∃ (i : Nat) (b : Bool), i ≤ l.length ∧ k = .int .i64 (i : Int) ∧ s = .bool b ∧ SysAt W (.slice ca c.length cc) (.slice na tq.length nc) wr ∧ RowKit.Hid (b = true → z1 = true ∧ ∀ (hr : LL.rightB xs = true) (a : Nat), a < i → lleqB xs (val (labs xs hr HX.out) (sysL c tq) (natL l) a) (at' (natL l) a) = true) ∧ RowKit.Hid (b = false → BoundZ xs c tq l false)) (fun _ k _ => l.length - (intOf k).toNat)
            case atStart =>
              refine ⟨0, z1, Nat.zero_le _, rfl, rfl, HS4.out, Lib.hid fun h => ⟨h, fun _ a ha => absurd ha (Nat.not_lt_zero _)⟩, Lib.hid fun h => Iff.intro (fun h2 => by cases h2) (fun h2 => ?_)⟩
              have h3 := HZ1.out
              rw [h, HZ0.out, HSY.out, HZL.out, h2.1, h2.2.1, h2.2.2.1] at h3
              simp at h3
            case round =>
              obtain ⟨i, b, hi, rfl, rfl, hsa, HT1, HF1⟩ := hrel
              have HS5 := Lib.hid hsa
              clear hsa
              cases b with
              | false =>
                have HR := Lib.hid (HF1.out rfl)
                by_cases hlt : i < l.length
                · have i1 : (i : Int) < l.length := by omega
                  go_wp2_with fail
                  go_meet
                  case rel => exact ⟨⟨_, rfl, HR.out⟩, HS5.out⟩
                · have i1 : ¬ ((i : Int) < l.length) := by omega
                  go_wp2_with fail
                  go_meet
                  case rel => exact ⟨⟨_, rfl, HR.out⟩, HS5.out⟩
              | true =>
                have hz1 := HZ1.out
                rw [(HT1.out rfl).1, HZ0.out, HSY.out, HZL.out] at hz1
                simp only [Bool.and_eq_true, Bool.true_eq] at hz1
                obtain ⟨⟨hsy, hzl⟩, hal⟩ := hz1
                have hlen : l.length = c.length := by have := eq_of_beq hzl; omega
                obtain ⟨hln, htn, hr, hin, hti⟩ := sys_parts hsy
                have HRB := Lib.hid hr
                have HS := Lib.hid (sys_ok hr HX.out HWC.out htn hin hti)
                have HAL := Lib.hid hal
                have HLEN := Lib.hid hlen
                have HSYT := Lib.hid hsy
                have HOK := Lib.hid (fun i (hi : i < c.length) => lok_at HWL.out hal (show i < l.length by rw [hlen]; exact hi))
                by_cases hlt : i < l.length
                · have i1 : (0 : Int) ≤ i ∧ (i : Int) < l.length := by omega
                  have HIC := Lib.hid (show i < c.length by omega)
                  have HVAL := Lib.hid (fun w (hb : Below W.heap.size W w) => rvalue_any w ((HU.out.below hb).mono hb.size) HX.out hr ((HC.out.below hb).mono hb.size) ((HG.out.below hb).mono hb.size) HSM.out ((HL.out.below hb).mono hb.size) HS.out hin hti HWL.out hal hlen htn HCL.out i HIC.out)
                  clear hsy hzl hal hlen hln htn hin hti
                  obtain ⟨lb, lo, rfl, hlb, hl1, hl2⟩ := HL.out.at hlt
                  have e2 : (l[i]?.getD s0).1 = ((at' (natL l) i).1 : Int) := by rw [natL_at hlt]; have := lab_yes2 HAL.out hlt; simp only; omega
                  have e3 : (l[i]?.getD s0).2 = (at' (natL l) i).2 := by rw [natL_at hlt]
                  have HLI := Lib.hid (HOK.out i HIC.out)
                  have HVK := Lib.hid (SV.val_is HS.out (l := natL l) (fun j hj => HOK.out j (by rw [← natL_len c]; exact hj)) (i := i) (by rw [show (sysL c tq).C.length = c.length from natL_len c]; exact HIC.out)).1
                  rw [e2] at hl1
                  rw [e3] at hl2
                  clear e2 e3
                  have HNT := Lib.hid (fun (h : lleqB xs (val (labs xs hr HX.out) (sysL c tq) (natL l) i) (at' (natL l) i) = true) (hr2 : LL.rightB xs = true) (a : Nat) (ha : a < i + 1) => show lleqB xs (val (labs xs hr2 HX.out) (sysL c tq) (natL l) a) (at' (natL l) a) = true from if e : a = i then e ▸ h else (HT1.out rfl).2 hr2 a (by omega))
                  have HNF := Lib.hid (show lleqB xs (val (labs xs hr HX.out) (sysL c tq) (natL l) i) (at' (natL l) i) = false → BoundZ xs c tq l false from fun h => Iff.intro (fun h2 => by cases h2) (fun h2 => by
                    obtain ⟨hr3, hw3, hbd⟩ := h2.2.2.2
                    have h3 := (SV.bnd_iff HS.out (t := natL l) (by rw [natL_len, HLEN.out]; exact (natL_len c).symm) (fun j hj => HOK.out j (by rw [← natL_len c]; exact hj))).1 hbd i (by rw [show (sysL c tq).C.length = c.length from natL_len c]; exact HIC.out)
                    have h4 := (le_iff hr HX.out HVK.out HLI.out).1 h3
                    rw [h] at h4
                    cases h4))
                  have HZT := Lib.hid (HT1.out rfl).1
                  obtain ⟨⟨v1, v2⟩, ev⟩ : ∃ v, v = val (labs xs hr HX.out) (sysL c tq) (natL l) i := ⟨_, rfl⟩
                  have HEV := Lib.hid ev
                  obtain ⟨⟨b4, b5⟩, eb⟩ : ∃ b, b = at' (natL l) i := ⟨_, rfl⟩
                  rw [← ev] at HNT HNF HVK
                  rw [← eb] at HNT HNF HLI hl1 hl2
                  simp only at hl1 hl2
                  clear ev eb
                  obtain ⟨bn, ebn⟩ : ∃ bn, bn = lleqB xs (v1, v2) (b4, b5) := ⟨_, rfl⟩
                  have HBN := Lib.hid ebn
                  rw [← ebn] at HNF HNT
                  clear ebn
                  go_upto_region 11 with fail
                  have HY7 := Lib.hid (show SysAt W _ _ wr.drew from HS5.out.drewN 1)
                  have HSS := Lib.hid (fun w (h : SysAt W (.slice ca c.length cc) (.slice na tq.length nc) w) => show w.cell? ⟨W.heap.size, 0, none⟩ = some (.slice ca c.length cc) ∧ w.cell? ⟨W.heap.size, 1, none⟩ = some (.slice na tq.length nc) ∧ w.cell? ⟨lb, lo + i * 2, none⟩ = some (.int .i64 b4) ∧ w.cell? ⟨lb, lo + i * 2 + 1, none⟩ = some (.int .u64 b5) from ⟨h.2.2.1, h.2.2.2, (h.1.cell (p := ⟨lb, lo + i * 2, none⟩) hlb).trans hl1, (h.1.cell (p := ⟨lb, lo + i * 2 + 1, none⟩) hlb).trans hl2⟩)
                  clear hl1 hl2
                  refine wp_region_held_drew (S := (fun V => V.cell? ⟨W.heap.size, 0, none⟩ = some (.slice ca c.length cc) ∧ V.cell? ⟨W.heap.size, 1, none⟩ = some (.slice na tq.length nc) ∧ V.cell? ⟨lb, lo + i * 2, none⟩ = some (.int .i64 b4) ∧ V.cell? ⟨lb, lo + i * 2 + 1, none⟩ = some (.int .u64 b5))) (by kernel_rfl) ?_ (fun hHeld => ?_)
                  · exact HSS.out _ HY7.out
                  generalize wr.drew = w7 at HY7 hHeld ⊢
                  refine wpAnyH_take (i := 0) (v := .slice ua xs.length uc) rfl (by kernel_rfl) (by kernel_rfl) (by kernel_rfl) (fun _ _ _ h => h) (Or.inl ⟨by rfl, fun W hSW => ?_⟩) hHeld ?_
                  · ((try dsimp only at hSW); go_split_ands; go_simp <;> with_reducible rfl)
                  try simp only [List.getElem_toArray, List.getElem_cons_succ, List.getElem_cons_zero, Act.put, List.setIfInBounds_toArray, List.set_cons_zero, List.set_cons_succ]
                  refine wpAnyH_take (i := 1) (v := .slice ua xs.length uc) rfl (by kernel_rfl) (by kernel_rfl) (by kernel_rfl) (fun _ _ _ h => h) (Or.inl ⟨by rfl, fun W hSW => ?_⟩) hHeld ?_
                  · ((try dsimp only at hSW); go_split_ands; go_simp <;> with_reducible rfl)
                  try simp only [List.getElem_toArray, List.getElem_cons_succ, List.getElem_cons_zero, Act.put, List.setIfInBounds_toArray, List.set_cons_zero, List.set_cons_succ]
                  refine wpAnyH_take (i := 2) (v := .pointer (some ⟨W.heap.size, 0, none⟩)) rfl (by kernel_rfl) (by kernel_rfl) (by kernel_rfl) (fun _ _ _ h => h) (Or.inl ⟨by rfl, fun W hSW => ?_⟩) hHeld ?_
                  · ((try dsimp only at hSW); go_split_ands; go_simp <;> with_reducible rfl)
                  try simp only [List.getElem_toArray, List.getElem_cons_succ, List.getElem_cons_zero, Act.put, List.setIfInBounds_toArray, List.set_cons_zero, List.set_cons_succ]
                  refine wpAnyH_take (i := 3) (v := .slice ca c.length cc) rfl (by kernel_rfl) (by kernel_rfl) (by kernel_rfl) (fun _ _ _ h => h) (Or.inl ⟨by rfl, fun W hSW => ?_⟩) hHeld ?_
                  · ((try dsimp only at hSW); go_split_ands; go_simp <;> with_reducible rfl)
                  try simp only [List.getElem_toArray, List.getElem_cons_succ, List.getElem_cons_zero, Act.put, List.setIfInBounds_toArray, List.set_cons_zero, List.set_cons_succ]
                  refine wpAnyH_take (i := 4) (v := .pointer (some ⟨W.heap.size, 1, none⟩)) rfl (by kernel_rfl) (by kernel_rfl) (by kernel_rfl) (fun _ _ _ h => h) (Or.inl ⟨by rfl, fun W hSW => ?_⟩) hHeld ?_
                  · ((try dsimp only at hSW); go_split_ands; go_simp <;> with_reducible rfl)
                  try simp only [List.getElem_toArray, List.getElem_cons_succ, List.getElem_cons_zero, Act.put, List.setIfInBounds_toArray, List.set_cons_zero, List.set_cons_succ]
                  refine wpAnyH_take (i := 5) (v := .slice na tq.length nc) rfl (by kernel_rfl) (by kernel_rfl) (by kernel_rfl) (fun _ _ _ h => h) (Or.inl ⟨by rfl, fun W hSW => ?_⟩) hHeld ?_
                  · ((try dsimp only at hSW); go_split_ands; go_simp <;> with_reducible rfl)
                  try simp only [List.getElem_toArray, List.getElem_cons_succ, List.getElem_cons_zero, Act.put, List.setIfInBounds_toArray, List.set_cons_zero, List.set_cons_succ]
                  refine wpAnyH_take (i := 6) (v := .slice (some ⟨lb, lo, none⟩) l.length lc) rfl (by kernel_rfl) (by kernel_rfl) (by kernel_rfl) (fun _ _ _ h => h) (Or.inl ⟨by rfl, fun W hSW => ?_⟩) hHeld ?_
                  · ((try dsimp only at hSW); go_split_ands; go_simp <;> with_reducible rfl)
                  try simp only [List.getElem_toArray, List.getElem_cons_succ, List.getElem_cons_zero, Act.put, List.setIfInBounds_toArray, List.set_cons_zero, List.set_cons_succ]
                  refine wpAnyH_take (i := 7) (v := .int .i64 i) rfl (by kernel_rfl) (by kernel_rfl) (by kernel_rfl) (fun _ _ _ h => h) (Or.inl ⟨by rfl, fun W hSW => ?_⟩) hHeld ?_
                  · ((try dsimp only at hSW); go_split_ands; go_simp <;> with_reducible rfl)
                  try simp only [List.getElem_toArray, List.getElem_cons_succ, List.getElem_cons_zero, Act.put, List.setIfInBounds_toArray, List.set_cons_zero, List.set_cons_succ]
                  refine wpAnyH_take (i := 9) (v := .slice (some ⟨lb, lo, none⟩) l.length lc) rfl (by kernel_rfl) (by kernel_rfl) (by kernel_rfl) (fun _ _ _ h => h) (Or.inl ⟨by rfl, fun W hSW => ?_⟩) hHeld ?_
                  · ((try dsimp only at hSW); go_split_ands; go_simp <;> with_reducible rfl)
                  try simp only [List.getElem_toArray, List.getElem_cons_succ, List.getElem_cons_zero, Act.put, List.setIfInBounds_toArray, List.set_cons_zero, List.set_cons_succ]
                  refine wpAnyH_take (i := 10) (v := .int .i64 i) rfl (by kernel_rfl) (by kernel_rfl) (by kernel_rfl) (fun _ _ _ h => h) (Or.inl ⟨by rfl, fun W hSW => ?_⟩) hHeld ?_
                  · ((try dsimp only at hSW); go_split_ands; go_simp <;> with_reducible rfl)
                  try simp only [List.getElem_toArray, List.getElem_cons_succ, List.getElem_cons_zero, Act.put, List.setIfInBounds_toArray, List.set_cons_zero, List.set_cons_succ]
                  refine wpAnyH_take (i := 11) (v := .pointer (some ⟨lb, lo + i * 2, none⟩)) rfl (by kernel_rfl) (by kernel_rfl) (by kernel_rfl) (fun _ _ _ h => h) (Or.inl ⟨by rfl, fun W hSW => ?_⟩) hHeld ?_
                  · ((try dsimp only at hSW); go_split_ands; go_simp <;> with_reducible rfl)
                  try simp only [List.getElem_toArray, List.getElem_cons_succ, List.getElem_cons_zero, Act.put, List.setIfInBounds_toArray, List.set_cons_zero, List.set_cons_succ]
                  refine wpAnyH_take (i := 12) (v := .agg #[.int .i64 b4, .int .u64 b5]) rfl (by kernel_rfl) (by kernel_rfl) (by kernel_rfl) (fun _ _ _ h => h) (Or.inl ⟨by rfl, fun W hSW => ?_⟩) hHeld ?_
                  · ((try dsimp only at hSW); go_split_ands; go_simp <;> with_reducible rfl)
                  try simp only [List.getElem_toArray, List.getElem_cons_succ, List.getElem_cons_zero, Act.put, List.setIfInBounds_toArray, List.set_cons_zero, List.set_cons_succ]
                  refine wpAnyH_ready (rs := [8]) (by kernel_rfl) (by simp) ?_
                  refine AllReadyH.cons rfl (fun K hK => ?_) AllReadyH.nil
                  try simp only [List.getElem_toArray, List.getElem_cons_succ, List.getElem_cons_zero]
                  go_simp
                  (go_at_call 28; refine (HVAL.out _ HY7.out.1).mono ?_; rintro e w8 ⟨rfl, hb8⟩; rw [← HEV.out]; have HY8 := Lib.hid (HY7.out.on hb8); clear hb8)
                  try go_wp2_with fail
                  refine hK.out _ _ ?_ (fun hHeld => ?_)
                  · exact HSS.out _ HY8.out
                  clear hK K
                  try simp only [List.getElem_toArray, List.getElem_cons_succ, List.getElem_cons_zero, Act.put, List.setIfInBounds_toArray, List.set_cons_zero, List.set_cons_succ]
                  refine wpAnyH_ready (rs := [13]) (by kernel_rfl) (by simp) ?_
                  refine AllReadyH.cons rfl (fun K hK => ?_) AllReadyH.nil
                  try simp only [List.getElem_toArray, List.getElem_cons_succ, List.getElem_cons_zero]
                  go_simp
                  (go_at_call 27; refine (rleq17_any _ xs w8.heap.size v1 b4 v2 b5 w8 ((HU.out.below HY8.out.1).mono HY8.out.1.size) (Nat.le_refl _) HX.out HVK.out.1).mono ?_; rintro e w9 ⟨rfl, hb9⟩; rw [← HBN.out]; have HY9 := Lib.hid (HY8.out.on hb9); clear hb9)
                  try go_wp2_with fail
                  refine hK.out _ _ ?_ (fun hHeld => ?_)
                  · exact HSS.out _ HY9.out
                  clear hK K
                  try simp only [List.getElem_toArray, List.getElem_cons_succ, List.getElem_cons_zero, Act.put, List.setIfInBounds_toArray, List.set_cons_zero, List.set_cons_succ]
                  refine wpAnyH_take (i := 14) (v := .bool bn) rfl (by kernel_rfl) (by kernel_rfl) (by kernel_rfl) (fun _ _ _ h => h) (Or.inl ⟨by rfl, fun W hSW => ?_⟩) hHeld ?_
                  · ((try dsimp only at hSW); go_split_ands; go_simp <;> with_reducible rfl)
                  try simp only [List.getElem_toArray, List.getElem_cons_succ, List.getElem_cons_zero, Act.put, List.setIfInBounds_toArray, List.set_cons_zero, List.set_cons_succ]
                  refine wpAnyH_done (by kernel_rfl) ?_ _
                  clear hHeld
                  go_wp2_with fail
                  go_roundw
                  case rel => exact ⟨i + 1, bn, by omega, by go_num, rfl, HY9.out, Lib.hid fun h => ⟨HZT.out, HNT.out h⟩, Lib.hid fun h => HNF.out h⟩
                  case measure => simp [intOf]; omega
                · have i1 : ¬ ((i : Int) < l.length) := by omega
                  have HR := Lib.hid (show BoundZ xs c tq l true from Iff.intro (fun _ => ⟨HSYT.out, HLEN.out, HAL.out, hr, HX.out, (SV.bnd_iff HS.out (t := natL l) (by rw [natL_len, HLEN.out]; exact (natL_len c).symm) (fun j hj => HOK.out j (by rw [← natL_len c]; exact hj))).2 (fun j hj => by
                    have hj2 : j < c.length := by rw [← natL_len c]; exact hj
                    exact (le_iff hr HX.out (SV.val_is HS.out (l := natL l) (fun j hj => HOK.out j (by rw [← natL_len c]; exact hj)) hj).1 (HOK.out j hj2)).2 ((HT1.out rfl).2 hr j (by have := HLEN.out; omega)))⟩) (fun _ => rfl))
                  clear hsy hzl hal hlen hln htn hin hti
                  go_wp2_with fail
                  go_meet
                  case rel => exact ⟨⟨_, rfl, HR.out⟩, HS5.out⟩
          case rest =>
            obtain ⟨⟨z, rfl, hbz⟩, hsa⟩ := hcut
            have HBZ := Lib.hid hbz
            have HS5 := Lib.hid hsa
            clear hsa hbz
            have HZZ := Lib.hid (show (z == z) = true from beq_self_eq_true z)
            go_upto_region 12 with fail
            have HY0 := Lib.hid (show SysAt W _ _ wc.drew from HS5.out.drewN 1)
            refine wp_region_held_drew (S := (fun V => V.cell? ⟨W.heap.size, 0, none⟩ = some (.slice ca c.length cc) ∧ V.cell? ⟨W.heap.size, 1, none⟩ = some (.slice na tq.length nc))) (by kernel_rfl) ?_ (fun hHeld => ?_)
            · exact HY0.out.2.2
            generalize wc.drew = x0 at HY0 hHeld ⊢
            refine wpAnyH_take (i := 1) (v := .slice ua xs.length uc) rfl (by kernel_rfl) (by kernel_rfl) (by kernel_rfl) (fun _ _ _ h => h) (Or.inl ⟨by rfl, fun W hSW => ?_⟩) hHeld ?_
            · ((try dsimp only at hSW); go_split_ands; go_simp <;> with_reducible rfl)
            try simp only [List.getElem_toArray, List.getElem_cons_succ, List.getElem_cons_zero, Act.put, List.setIfInBounds_toArray, List.set_cons_zero, List.set_cons_succ]
            refine wpAnyH_take (i := 3) (v := .agg #[.slice ca c.length cc, .slice na tq.length nc]) rfl (by kernel_rfl) (by kernel_rfl) (by kernel_rfl) (fun _ _ _ h => h) (Or.inl ⟨by rfl, fun W hSW => ?_⟩) hHeld ?_
            · ((try dsimp only at hSW); go_split_ands; go_simp <;> with_reducible rfl)
            try simp only [List.getElem_toArray, List.getElem_cons_succ, List.getElem_cons_zero, Act.put, List.setIfInBounds_toArray, List.set_cons_zero, List.set_cons_succ]
            refine wpAnyH_take (i := 6) (v := .slice la l.length lc) rfl (by kernel_rfl) (by kernel_rfl) (by kernel_rfl) (fun _ _ _ h => h) (Or.inl ⟨by rfl, fun W hSW => ?_⟩) hHeld ?_
            · ((try dsimp only at hSW); go_split_ands; go_simp <;> with_reducible rfl)
            try simp only [List.getElem_toArray, List.getElem_cons_succ, List.getElem_cons_zero, Act.put, List.setIfInBounds_toArray, List.set_cons_zero, List.set_cons_succ]
            refine wpAnyH_take (i := 9) (v := .bool z) rfl (by kernel_rfl) (by kernel_rfl) (by kernel_rfl) (fun _ _ _ h => h) (Or.inl ⟨by rfl, fun W hSW => ?_⟩) hHeld ?_
            · ((try dsimp only at hSW); go_split_ands; go_simp <;> with_reducible rfl)
            try simp only [List.getElem_toArray, List.getElem_cons_succ, List.getElem_cons_zero, Act.put, List.setIfInBounds_toArray, List.set_cons_zero, List.set_cons_succ]
            refine wpAnyH_ready (rs := [0, 5]) (by kernel_rfl) (by simp) ?_
            refine AllReadyH.cons rfl (fun K hK => ?_) (AllReadyH.cons rfl (fun K hK => ?_) AllReadyH.nil)
            · skip
              try simp only [List.getElem_toArray, List.getElem_cons_succ, List.getElem_cons_zero]
              go_simp
              have HY1 := Lib.hid (show SysAt W _ _ (x0.alloc (.cells #[] 41)) from HY0.out.on ((Below.refl _ _).alloc (Nat.le_refl _) _))
              have HE0102 := Lib.hid (show (x0.alloc (.cells #[] 41)).ownsRow x0.heap.size 41 1 (.slice (some ⟨x0.heap.size, 0, none⟩) 0 0) 0 [] from lit_rowS (heap_alloc_new _ _) (Nat.le_refl _))
              generalize (x0.alloc (.cells #[] 41)) = x1 at HY1 HE0102 ⊢
              try go_wp2_with fail
              refine hK.out _ _ ?_ (fun hHeld => ?_)
              · exact HY1.out.2.2
              clear hK K
              try simp only [List.getElem_toArray, List.getElem_cons_succ, List.getElem_cons_zero, Act.put, List.setIfInBounds_toArray, List.set_cons_zero, List.set_cons_succ]
              have HGE0 := Lib.hid (show W.heap.size < x0.heap.size from HY0.out.2.1)
              refine wpAnyH_ready (rs := [2, 5]) (by kernel_rfl) (by simp) ?_
              refine AllReadyH.cons rfl (fun K hK => ?_) (AllReadyH.cons rfl (fun K hK => ?_) AllReadyH.nil)
              · skip
                refine step_append_anyS rfl (.tmp 70) (.tmp 71) 22 rfl x0.heap.size 41 j0 (.int .u64 0) 1 8 Tryd.underlying22 hj0 hy0 hy1 hy2 rfl (by decide) (.slice (some ⟨x0.heap.size, 0, none⟩) 0 0) 0 [] (by rfl) HE0102.out (.slice ua xs.length uc) xs.length (xs.map (Value.int .u64)) (by rfl) (by rw [List.length_map, Nat.mul_one]) (numS_src (HU.out.below HY1.out.1) HUN.out) (numS_one xs) (by have := HSZ.out; unfold maxLen; omega) (by have := HSZ.out; omega) (Nat.le_of_lt (HE0102.out.lt _ rfl).2) ?_
                intro v2 x2 ho2 hg2
                have HY2 := Lib.hid (HY1.out.grown hg2 (fun k e => by have h1 : x0.heap.size = k := Option.some.inj e; have h2 := HGE0.out; omega))
                have HO2103 := Lib.hid (own0S ho2)
                obtain ⟨pa, pb, rfl⟩ := SS.ownOf HO2103.out
                clear ho2 hg2
                refine hK.out _ _ ?_ (fun hHeld => ?_)
                · exact HY2.out.2.2
                clear hK K
                try simp only [List.getElem_toArray, List.getElem_cons_succ, List.getElem_cons_zero, Act.put, List.setIfInBounds_toArray, List.set_cons_zero, List.set_cons_succ]
                refine wpAnyH_ready (rs := [4, 5]) (by kernel_rfl) (by simp) ?_
                refine AllReadyH.cons rfl (fun K hK => ?_) (AllReadyH.cons rfl (fun K hK => ?_) AllReadyH.nil)
                · skip
                  try simp only [List.getElem_toArray, List.getElem_cons_succ, List.getElem_cons_zero]
                  go_simp
                  (go_at_call 17; refine (copied_any x2 ((HC.out.below HY2.out.1).mono HY2.out.1.size) ((HG.out.below HY2.out.1).mono HY2.out.1.size) HSM.out (by have := HSZ.out; omega) (by have := HSZ.out; omega)).mono ?_; rintro e x3 ⟨sa, sb, ga, gb, vs, rfl, hco, hgo, hgr, hb3⟩; have HY3 := Lib.hid (HY2.out.on hb3))
                  try go_wp2_with fail
                  refine hK.out _ _ ?_ (fun hHeld => ?_)
                  · exact HY3.out.2.2
                  clear hK K
                  try simp only [List.getElem_toArray, List.getElem_cons_succ, List.getElem_cons_zero, Act.put, List.setIfInBounds_toArray, List.set_cons_zero, List.set_cons_succ]
                  have HO2105 := Lib.hid (SS.own_of_block HO2103.out (fun k e => hb3.block k (HO2103.out.lt k e).2))
                  have HCO106 := Lib.hid hco
                  have HGO106 := Lib.hid hgo
                  have HGR106 := Lib.hid hgr
                  clear hco hgo hgr
                  clear hb3
                  refine wpAnyH_ready (rs := [5]) (by kernel_rfl) (by simp) ?_
                  refine AllReadyH.cons rfl (fun K hK => ?_) AllReadyH.nil
                  try simp only [List.getElem_toArray, List.getElem_cons_succ, List.getElem_cons_zero]
                  go_simp
                  have HO2107 := Lib.hid ((HO2105.out).alloc (.cells #[] 43))
                  have HCO107 := Lib.hid ((HCO106.out).alloc (.cells #[] 43))
                  have HGO107 := Lib.hid ((HGO106.out).alloc (.cells #[] 43))
                  have HGR107 := Lib.hid ((HGR106.out).alloc (.cells #[] 43))
                  have HY4 := Lib.hid (show SysAt W _ _ (x3.alloc (.cells #[] 43)) from HY3.out.on ((Below.refl _ _).alloc (Nat.le_refl _) _))
                  have HE5108 := Lib.hid (show (x3.alloc (.cells #[] 43)).ownsRow x3.heap.size 43 2 (.slice (some ⟨x3.heap.size, 0, none⟩) 0 0) 0 [] from lit_rowS (heap_alloc_new _ _) (Nat.le_refl _))
                  have HD5109 := Lib.hid (fun k (hk : (Value.slice sa c.length sb).ownBlock = some k) => show k ≠ x3.heap.size from fun e => by have h1 := (HCO106.out.lt k hk).2; omega)
                  generalize (x3.alloc (.cells #[] 43)) = x4 at HY4 HO2107 HCO107 HGO107 HGR107 HE5108 ⊢
                  try go_wp2_with fail
                  refine hK.out _ _ ?_ (fun hHeld => ?_)
                  · exact HY4.out.2.2
                  clear hK K
                  try simp only [List.getElem_toArray, List.getElem_cons_succ, List.getElem_cons_zero, Act.put, List.setIfInBounds_toArray, List.set_cons_zero, List.set_cons_succ]
                  have HGE5 := Lib.hid (show W.heap.size < x3.heap.size from HY3.out.2.1)
                  refine wpAnyH_ready (rs := [7]) (by kernel_rfl) (by simp) ?_
                  refine AllReadyH.cons rfl (fun K hK => ?_) AllReadyH.nil
                  refine step_append_anyS rfl (.tmp 75) (.tmp 76) 23 rfl x3.heap.size 43 i0 (.agg #[.int .i64 0, .int .u64 0]) 2 16 Tryd.underlying23 hi0 hz0 hz1 hz2 rfl (by decide) (.slice (some ⟨x3.heap.size, 0, none⟩) 0 0) 0 [] (by rfl) HE5108.out (.slice la l.length lc) l.length (labV l) (by rfl) (labV_len l) (HL.out.below HY4.out.1).src (labV_one l) (by have := HSZ.out; unfold maxLen; omega) (by have := HSZ.out; omega) (Nat.le_of_lt (HE5108.out.lt _ rfl).2) ?_
                  intro v5 x5 ho5 hg5
                  have HY5 := Lib.hid (HY4.out.grown hg5 (fun k e => by have h1 : x3.heap.size = k := Option.some.inj e; have h2 := HGE5.out; omega))
                  have HO2111 := Lib.hid (HO2107.out.kept hg5 (GG.own_types HO2107.out HE5108.out (by decide)))
                  have HCO111 := Lib.hid (HCO107.out.kept hg5 (by cases hk : (Value.slice sa c.length sb).ownBlock with | none => exact .inl rfl | some k => exact .inr (fun e => HD5109.out k hk (Option.some.inj e))))
                  have HGO111 := Lib.hid (HGO107.out.kept hg5 (GG.own_types HGO107.out HE5108.out (by decide)))
                  have HGR111 := Lib.hid (HGR107.out.kept HE5108.out (by decide) hg5)
                  have HO7110 := Lib.hid (own0S ho5)
                  obtain ⟨qa, qb, rfl⟩ := SS.ownOf HO7110.out
                  clear ho5 hg5
                  refine hK.out _ _ ?_ (fun hHeld => ?_)
                  · exact HY5.out.2.2
                  clear hK K
                  try simp only [List.getElem_toArray, List.getElem_cons_succ, List.getElem_cons_zero, Act.put, List.setIfInBounds_toArray, List.set_cons_zero, List.set_cons_succ]
                  refine wpAnyH_ready (rs := [8]) (by kernel_rfl) (by simp) ?_
                  refine AllReadyH.cons rfl (fun K hK => ?_) AllReadyH.nil
                  try simp only [List.getElem_toArray, List.getElem_cons_succ, List.getElem_cons_zero]
                  go_simp
                  (go_at_call 29; refine (bounds_any x5 (nums_of_row HO2111.out) HX.out HXL.out (HT.out.on HY5.out.1) (lab_ownV HCO111.out) HWC.out (HGR111.out.graph HGO111.out) (lab_ownV HO7110.out) HWL.out (by have := HSZ.out; omega) (by have := HSZ.out; omega) (by have := HSZ.out; omega) HTM.out).mono ?_; rintro e x6 ⟨hb6, zb, rfl, hzb⟩; obtain rfl : zb = z := boundZ_one hzb HBZ.out; have HY6 := Lib.hid (HY5.out.on hb6); clear hb6 hzb)
                  try go_wp2_with fail
                  refine hK.out _ _ ?_ (fun hHeld => ?_)
                  · exact HY6.out.2.2
                  clear hK K
                  try simp only [List.getElem_toArray, List.getElem_cons_succ, List.getElem_cons_zero, Act.put, List.setIfInBounds_toArray, List.set_cons_zero, List.set_cons_succ]
                  have hzz := HZZ.out
                  refine wpAnyH_take (i := 10) (v := .bool true) rfl (by kernel_rfl) (by kernel_rfl) (by kernel_rfl) (fun _ _ _ h => h) (Or.inl ⟨by rfl, fun W hSW => ?_⟩) hHeld ?_
                  · ((try dsimp only at hSW); go_split_ands; go_simp <;> with_reducible rfl)
                  try simp only [List.getElem_toArray, List.getElem_cons_succ, List.getElem_cons_zero, Act.put, List.setIfInBounds_toArray, List.set_cons_zero, List.set_cons_succ]
                  refine wpAnyH_take (i := 11) (v := .bool true) rfl (by kernel_rfl) (by kernel_rfl) (by kernel_rfl) (fun _ _ _ h => h) (Or.inl ⟨by rfl, fun W hSW => ?_⟩) hHeld ?_
                  · ((try dsimp only at hSW); go_split_ands; go_simp <;> with_reducible rfl)
                  try simp only [List.getElem_toArray, List.getElem_cons_succ, List.getElem_cons_zero, Act.put, List.setIfInBounds_toArray, List.set_cons_zero, List.set_cons_succ]
                  clear hzz
                  refine wpAnyH_ready (rs := [12]) (by kernel_rfl) (by simp) ?_
                  refine AllReadyH.cons rfl (fun K hK => ?_) AllReadyH.nil
                  try simp only [List.getElem_toArray, List.getElem_cons_succ, List.getElem_cons_zero]
                  go_simp
                  (go_at_call 21; refine (HAW.out _ HY6.out.1).mono ?_; rintro e x7 ⟨rfl, hb7⟩; have HY7 := Lib.hid (HY6.out.on hb7); clear hb7)
                  try go_wp2_with fail
                  refine hK.out _ _ ?_ (fun hHeld => ?_)
                  · exact HY7.out.2.2
                  clear hK K
                  try simp only [List.getElem_toArray, List.getElem_cons_succ, List.getElem_cons_zero, Act.put, List.setIfInBounds_toArray, List.set_cons_zero, List.set_cons_succ]
                  refine wpAnyH_take (i := 13) (v := .bool true) rfl (by kernel_rfl) (by kernel_rfl) (by kernel_rfl) (fun _ _ _ h => h) (Or.inl ⟨by rfl, fun W hSW => ?_⟩) hHeld ?_
                  · ((try dsimp only at hSW); go_split_ands; go_simp <;> with_reducible rfl)
                  try simp only [List.getElem_toArray, List.getElem_cons_succ, List.getElem_cons_zero, Act.put, List.setIfInBounds_toArray, List.set_cons_zero, List.set_cons_succ]
                  refine wpAnyH_take (i := 14) (v := .bool true) rfl (by kernel_rfl) (by kernel_rfl) (by kernel_rfl) (fun _ _ _ h => h) (Or.inl ⟨by rfl, fun W hSW => ?_⟩) hHeld ?_
                  · ((try dsimp only at hSW); go_split_ands; go_simp <;> with_reducible rfl)
                  try simp only [List.getElem_toArray, List.getElem_cons_succ, List.getElem_cons_zero, Act.put, List.setIfInBounds_toArray, List.set_cons_zero, List.set_cons_succ]
                  refine wpAnyH_done (by kernel_rfl) ?_ _
                  clear hHeld
                  go_wp2_with fail
                  go_ret
                  exact ⟨rfl, HY7.out.1⟩
                · skip
                  try simp only [List.getElem_toArray, List.getElem_cons_succ, List.getElem_cons_zero]
                  go_simp
                  have HO2112 := Lib.hid ((HO2103.out).alloc (.cells #[] 43))
                  have HY3 := Lib.hid (show SysAt W _ _ (x2.alloc (.cells #[] 43)) from HY2.out.on ((Below.refl _ _).alloc (Nat.le_refl _) _))
                  have HE5113 := Lib.hid (show (x2.alloc (.cells #[] 43)).ownsRow x2.heap.size 43 2 (.slice (some ⟨x2.heap.size, 0, none⟩) 0 0) 0 [] from lit_rowS (heap_alloc_new _ _) (Nat.le_refl _))
                  generalize (x2.alloc (.cells #[] 43)) = x3 at HY3 HO2112 HE5113 ⊢
                  try go_wp2_with fail
                  refine hK.out _ _ ?_ (fun hHeld => ?_)
                  · exact HY3.out.2.2
                  clear hK K
                  try simp only [List.getElem_toArray, List.getElem_cons_succ, List.getElem_cons_zero, Act.put, List.setIfInBounds_toArray, List.set_cons_zero, List.set_cons_succ]
                  have HGE5 := Lib.hid (show W.heap.size < x2.heap.size from HY2.out.2.1)
                  refine wpAnyH_ready (rs := [4]) (by kernel_rfl) (by simp) ?_
                  refine AllReadyH.cons rfl (fun K hK => ?_) AllReadyH.nil
                  try simp only [List.getElem_toArray, List.getElem_cons_succ, List.getElem_cons_zero]
                  go_simp
                  (go_at_call 17; refine (copied_any x3 ((HC.out.below HY3.out.1).mono HY3.out.1.size) ((HG.out.below HY3.out.1).mono HY3.out.1.size) HSM.out (by have := HSZ.out; omega) (by have := HSZ.out; omega)).mono ?_; rintro e x4 ⟨sa, sb, ga, gb, vs, rfl, hco, hgo, hgr, hb4⟩; have HY4 := Lib.hid (HY3.out.on hb4))
                  try go_wp2_with fail
                  refine hK.out _ _ ?_ (fun hHeld => ?_)
                  · exact HY4.out.2.2
                  clear hK K
                  try simp only [List.getElem_toArray, List.getElem_cons_succ, List.getElem_cons_zero, Act.put, List.setIfInBounds_toArray, List.set_cons_zero, List.set_cons_succ]
                  have HO2114 := Lib.hid (SS.own_of_block HO2112.out (fun k e => hb4.block k (HO2112.out.lt k e).2))
                  have HE5114 := Lib.hid (SS.own_of_block HE5113.out (fun k e => hb4.block k (HE5113.out.lt k e).2))
                  have HCO115 := Lib.hid hco
                  have HGO115 := Lib.hid hgo
                  have HGR115 := Lib.hid hgr
                  have HD5116 := Lib.hid (fun k (hk : (Value.slice sa c.length sb).ownBlock = some k) => show k ≠ x2.heap.size from fun e => by have h1 := (hco.lt k hk).1; have h2 : x2.heap.size < x3.heap.size := (HE5113.out.lt _ rfl).2; omega)
                  clear hco hgo hgr
                  clear hb4
                  refine wpAnyH_ready (rs := [7]) (by kernel_rfl) (by simp) ?_
                  refine AllReadyH.cons rfl (fun K hK => ?_) AllReadyH.nil
                  refine step_append_anyS rfl (.tmp 75) (.tmp 76) 23 rfl x2.heap.size 43 i0 (.agg #[.int .i64 0, .int .u64 0]) 2 16 Tryd.underlying23 hi0 hz0 hz1 hz2 rfl (by decide) (.slice (some ⟨x2.heap.size, 0, none⟩) 0 0) 0 [] (by rfl) HE5114.out (.slice la l.length lc) l.length (labV l) (by rfl) (labV_len l) (HL.out.below HY4.out.1).src (labV_one l) (by have := HSZ.out; unfold maxLen; omega) (by have := HSZ.out; omega) (Nat.le_of_lt (HE5114.out.lt _ rfl).2) ?_
                  intro v5 x5 ho5 hg5
                  have HY5 := Lib.hid (HY4.out.grown hg5 (fun k e => by have h1 : x2.heap.size = k := Option.some.inj e; have h2 := HGE5.out; omega))
                  have HO2118 := Lib.hid (HO2114.out.kept hg5 (GG.own_types HO2114.out HE5114.out (by decide)))
                  have HCO118 := Lib.hid (HCO115.out.kept hg5 (by cases hk : (Value.slice sa c.length sb).ownBlock with | none => exact .inl rfl | some k => exact .inr (fun e => HD5116.out k hk (Option.some.inj e))))
                  have HGO118 := Lib.hid (HGO115.out.kept hg5 (GG.own_types HGO115.out HE5114.out (by decide)))
                  have HGR118 := Lib.hid (HGR115.out.kept HE5114.out (by decide) hg5)
                  have HO7117 := Lib.hid (own0S ho5)
                  obtain ⟨qa, qb, rfl⟩ := SS.ownOf HO7117.out
                  clear ho5 hg5
                  refine hK.out _ _ ?_ (fun hHeld => ?_)
                  · exact HY5.out.2.2
                  clear hK K
                  try simp only [List.getElem_toArray, List.getElem_cons_succ, List.getElem_cons_zero, Act.put, List.setIfInBounds_toArray, List.set_cons_zero, List.set_cons_succ]
                  refine wpAnyH_ready (rs := [8]) (by kernel_rfl) (by simp) ?_
                  refine AllReadyH.cons rfl (fun K hK => ?_) AllReadyH.nil
                  try simp only [List.getElem_toArray, List.getElem_cons_succ, List.getElem_cons_zero]
                  go_simp
                  (go_at_call 29; refine (bounds_any x5 (nums_of_row HO2118.out) HX.out HXL.out (HT.out.on HY5.out.1) (lab_ownV HCO118.out) HWC.out (HGR118.out.graph HGO118.out) (lab_ownV HO7117.out) HWL.out (by have := HSZ.out; omega) (by have := HSZ.out; omega) (by have := HSZ.out; omega) HTM.out).mono ?_; rintro e x6 ⟨hb6, zb, rfl, hzb⟩; obtain rfl : zb = z := boundZ_one hzb HBZ.out; have HY6 := Lib.hid (HY5.out.on hb6); clear hb6 hzb)
                  try go_wp2_with fail
                  refine hK.out _ _ ?_ (fun hHeld => ?_)
                  · exact HY6.out.2.2
                  clear hK K
                  try simp only [List.getElem_toArray, List.getElem_cons_succ, List.getElem_cons_zero, Act.put, List.setIfInBounds_toArray, List.set_cons_zero, List.set_cons_succ]
                  have hzz := HZZ.out
                  refine wpAnyH_take (i := 10) (v := .bool true) rfl (by kernel_rfl) (by kernel_rfl) (by kernel_rfl) (fun _ _ _ h => h) (Or.inl ⟨by rfl, fun W hSW => ?_⟩) hHeld ?_
                  · ((try dsimp only at hSW); go_split_ands; go_simp <;> with_reducible rfl)
                  try simp only [List.getElem_toArray, List.getElem_cons_succ, List.getElem_cons_zero, Act.put, List.setIfInBounds_toArray, List.set_cons_zero, List.set_cons_succ]
                  refine wpAnyH_take (i := 11) (v := .bool true) rfl (by kernel_rfl) (by kernel_rfl) (by kernel_rfl) (fun _ _ _ h => h) (Or.inl ⟨by rfl, fun W hSW => ?_⟩) hHeld ?_
                  · ((try dsimp only at hSW); go_split_ands; go_simp <;> with_reducible rfl)
                  try simp only [List.getElem_toArray, List.getElem_cons_succ, List.getElem_cons_zero, Act.put, List.setIfInBounds_toArray, List.set_cons_zero, List.set_cons_succ]
                  clear hzz
                  refine wpAnyH_ready (rs := [12]) (by kernel_rfl) (by simp) ?_
                  refine AllReadyH.cons rfl (fun K hK => ?_) AllReadyH.nil
                  try simp only [List.getElem_toArray, List.getElem_cons_succ, List.getElem_cons_zero]
                  go_simp
                  (go_at_call 21; refine (HAW.out _ HY6.out.1).mono ?_; rintro e x7 ⟨rfl, hb7⟩; have HY7 := Lib.hid (HY6.out.on hb7); clear hb7)
                  try go_wp2_with fail
                  refine hK.out _ _ ?_ (fun hHeld => ?_)
                  · exact HY7.out.2.2
                  clear hK K
                  try simp only [List.getElem_toArray, List.getElem_cons_succ, List.getElem_cons_zero, Act.put, List.setIfInBounds_toArray, List.set_cons_zero, List.set_cons_succ]
                  refine wpAnyH_take (i := 13) (v := .bool true) rfl (by kernel_rfl) (by kernel_rfl) (by kernel_rfl) (fun _ _ _ h => h) (Or.inl ⟨by rfl, fun W hSW => ?_⟩) hHeld ?_
                  · ((try dsimp only at hSW); go_split_ands; go_simp <;> with_reducible rfl)
                  try simp only [List.getElem_toArray, List.getElem_cons_succ, List.getElem_cons_zero, Act.put, List.setIfInBounds_toArray, List.set_cons_zero, List.set_cons_succ]
                  refine wpAnyH_take (i := 14) (v := .bool true) rfl (by kernel_rfl) (by kernel_rfl) (by kernel_rfl) (fun _ _ _ h => h) (Or.inl ⟨by rfl, fun W hSW => ?_⟩) hHeld ?_
                  · ((try dsimp only at hSW); go_split_ands; go_simp <;> with_reducible rfl)
                  try simp only [List.getElem_toArray, List.getElem_cons_succ, List.getElem_cons_zero, Act.put, List.setIfInBounds_toArray, List.set_cons_zero, List.set_cons_succ]
                  refine wpAnyH_done (by kernel_rfl) ?_ _
                  clear hHeld
                  go_wp2_with fail
                  go_ret
                  exact ⟨rfl, HY7.out.1⟩
              · skip
                try simp only [List.getElem_toArray, List.getElem_cons_succ, List.getElem_cons_zero]
                go_simp
                have HE0119 := Lib.hid ((HE0102.out).alloc (.cells #[] 43))
                have HY2 := Lib.hid (show SysAt W _ _ (x1.alloc (.cells #[] 43)) from HY1.out.on ((Below.refl _ _).alloc (Nat.le_refl _) _))
                have HE5120 := Lib.hid (show (x1.alloc (.cells #[] 43)).ownsRow x1.heap.size 43 2 (.slice (some ⟨x1.heap.size, 0, none⟩) 0 0) 0 [] from lit_rowS (heap_alloc_new _ _) (Nat.le_refl _))
                generalize (x1.alloc (.cells #[] 43)) = x2 at HY2 HE0119 HE5120 ⊢
                try go_wp2_with fail
                refine hK.out _ _ ?_ (fun hHeld => ?_)
                · exact HY2.out.2.2
                clear hK K
                try simp only [List.getElem_toArray, List.getElem_cons_succ, List.getElem_cons_zero, Act.put, List.setIfInBounds_toArray, List.set_cons_zero, List.set_cons_succ]
                have HGE5 := Lib.hid (show W.heap.size < x1.heap.size from HY1.out.2.1)
                refine wpAnyH_ready (rs := [2]) (by kernel_rfl) (by simp) ?_
                refine AllReadyH.cons rfl (fun K hK => ?_) AllReadyH.nil
                refine step_append_anyS rfl (.tmp 70) (.tmp 71) 22 rfl x0.heap.size 41 j0 (.int .u64 0) 1 8 Tryd.underlying22 hj0 hy0 hy1 hy2 rfl (by decide) (.slice (some ⟨x0.heap.size, 0, none⟩) 0 0) 0 [] (by rfl) HE0119.out (.slice ua xs.length uc) xs.length (xs.map (Value.int .u64)) (by rfl) (by rw [List.length_map, Nat.mul_one]) (numS_src (HU.out.below HY2.out.1) HUN.out) (numS_one xs) (by have := HSZ.out; unfold maxLen; omega) (by have := HSZ.out; omega) (Nat.le_of_lt (HE0119.out.lt _ rfl).2) ?_
                intro v3 x3 ho3 hg3
                have HY3 := Lib.hid (HY2.out.grown hg3 (fun k e => by have h1 : x0.heap.size = k := Option.some.inj e; have h2 := HGE0.out; omega))
                have HE5122 := Lib.hid (HE5120.out.kept hg3 (GG.own_types HE5120.out HE0119.out (by decide)))
                have HO2121 := Lib.hid (own0S ho3)
                obtain ⟨pa, pb, rfl⟩ := SS.ownOf HO2121.out
                clear ho3 hg3
                refine hK.out _ _ ?_ (fun hHeld => ?_)
                · exact HY3.out.2.2
                clear hK K
                try simp only [List.getElem_toArray, List.getElem_cons_succ, List.getElem_cons_zero, Act.put, List.setIfInBounds_toArray, List.set_cons_zero, List.set_cons_succ]
                refine wpAnyH_ready (rs := [4]) (by kernel_rfl) (by simp) ?_
                refine AllReadyH.cons rfl (fun K hK => ?_) AllReadyH.nil
                try simp only [List.getElem_toArray, List.getElem_cons_succ, List.getElem_cons_zero]
                go_simp
                (go_at_call 17; refine (copied_any x3 ((HC.out.below HY3.out.1).mono HY3.out.1.size) ((HG.out.below HY3.out.1).mono HY3.out.1.size) HSM.out (by have := HSZ.out; omega) (by have := HSZ.out; omega)).mono ?_; rintro e x4 ⟨sa, sb, ga, gb, vs, rfl, hco, hgo, hgr, hb4⟩; have HY4 := Lib.hid (HY3.out.on hb4))
                try go_wp2_with fail
                refine hK.out _ _ ?_ (fun hHeld => ?_)
                · exact HY4.out.2.2
                clear hK K
                try simp only [List.getElem_toArray, List.getElem_cons_succ, List.getElem_cons_zero, Act.put, List.setIfInBounds_toArray, List.set_cons_zero, List.set_cons_succ]
                have HO2123 := Lib.hid (SS.own_of_block HO2121.out (fun k e => hb4.block k (HO2121.out.lt k e).2))
                have HE5123 := Lib.hid (SS.own_of_block HE5122.out (fun k e => hb4.block k (HE5122.out.lt k e).2))
                have HCO124 := Lib.hid hco
                have HGO124 := Lib.hid hgo
                have HGR124 := Lib.hid hgr
                have HD5125 := Lib.hid (fun k (hk : (Value.slice sa c.length sb).ownBlock = some k) => show k ≠ x1.heap.size from fun e => by have h1 := (hco.lt k hk).1; have h2 : x1.heap.size < x3.heap.size := (HE5122.out.lt _ rfl).2; omega)
                clear hco hgo hgr
                clear hb4
                refine wpAnyH_ready (rs := [7]) (by kernel_rfl) (by simp) ?_
                refine AllReadyH.cons rfl (fun K hK => ?_) AllReadyH.nil
                refine step_append_anyS rfl (.tmp 75) (.tmp 76) 23 rfl x1.heap.size 43 i0 (.agg #[.int .i64 0, .int .u64 0]) 2 16 Tryd.underlying23 hi0 hz0 hz1 hz2 rfl (by decide) (.slice (some ⟨x1.heap.size, 0, none⟩) 0 0) 0 [] (by rfl) HE5123.out (.slice la l.length lc) l.length (labV l) (by rfl) (labV_len l) (HL.out.below HY4.out.1).src (labV_one l) (by have := HSZ.out; unfold maxLen; omega) (by have := HSZ.out; omega) (Nat.le_of_lt (HE5123.out.lt _ rfl).2) ?_
                intro v5 x5 ho5 hg5
                have HY5 := Lib.hid (HY4.out.grown hg5 (fun k e => by have h1 : x1.heap.size = k := Option.some.inj e; have h2 := HGE5.out; omega))
                have HO2127 := Lib.hid (HO2123.out.kept hg5 (GG.own_types HO2123.out HE5123.out (by decide)))
                have HCO127 := Lib.hid (HCO124.out.kept hg5 (by cases hk : (Value.slice sa c.length sb).ownBlock with | none => exact .inl rfl | some k => exact .inr (fun e => HD5125.out k hk (Option.some.inj e))))
                have HGO127 := Lib.hid (HGO124.out.kept hg5 (GG.own_types HGO124.out HE5123.out (by decide)))
                have HGR127 := Lib.hid (HGR124.out.kept HE5123.out (by decide) hg5)
                have HO7126 := Lib.hid (own0S ho5)
                obtain ⟨qa, qb, rfl⟩ := SS.ownOf HO7126.out
                clear ho5 hg5
                refine hK.out _ _ ?_ (fun hHeld => ?_)
                · exact HY5.out.2.2
                clear hK K
                try simp only [List.getElem_toArray, List.getElem_cons_succ, List.getElem_cons_zero, Act.put, List.setIfInBounds_toArray, List.set_cons_zero, List.set_cons_succ]
                refine wpAnyH_ready (rs := [8]) (by kernel_rfl) (by simp) ?_
                refine AllReadyH.cons rfl (fun K hK => ?_) AllReadyH.nil
                try simp only [List.getElem_toArray, List.getElem_cons_succ, List.getElem_cons_zero]
                go_simp
                (go_at_call 29; refine (bounds_any x5 (nums_of_row HO2127.out) HX.out HXL.out (HT.out.on HY5.out.1) (lab_ownV HCO127.out) HWC.out (HGR127.out.graph HGO127.out) (lab_ownV HO7126.out) HWL.out (by have := HSZ.out; omega) (by have := HSZ.out; omega) (by have := HSZ.out; omega) HTM.out).mono ?_; rintro e x6 ⟨hb6, zb, rfl, hzb⟩; obtain rfl : zb = z := boundZ_one hzb HBZ.out; have HY6 := Lib.hid (HY5.out.on hb6); clear hb6 hzb)
                try go_wp2_with fail
                refine hK.out _ _ ?_ (fun hHeld => ?_)
                · exact HY6.out.2.2
                clear hK K
                try simp only [List.getElem_toArray, List.getElem_cons_succ, List.getElem_cons_zero, Act.put, List.setIfInBounds_toArray, List.set_cons_zero, List.set_cons_succ]
                have hzz := HZZ.out
                refine wpAnyH_take (i := 10) (v := .bool true) rfl (by kernel_rfl) (by kernel_rfl) (by kernel_rfl) (fun _ _ _ h => h) (Or.inl ⟨by rfl, fun W hSW => ?_⟩) hHeld ?_
                · ((try dsimp only at hSW); go_split_ands; go_simp <;> with_reducible rfl)
                try simp only [List.getElem_toArray, List.getElem_cons_succ, List.getElem_cons_zero, Act.put, List.setIfInBounds_toArray, List.set_cons_zero, List.set_cons_succ]
                refine wpAnyH_take (i := 11) (v := .bool true) rfl (by kernel_rfl) (by kernel_rfl) (by kernel_rfl) (fun _ _ _ h => h) (Or.inl ⟨by rfl, fun W hSW => ?_⟩) hHeld ?_
                · ((try dsimp only at hSW); go_split_ands; go_simp <;> with_reducible rfl)
                try simp only [List.getElem_toArray, List.getElem_cons_succ, List.getElem_cons_zero, Act.put, List.setIfInBounds_toArray, List.set_cons_zero, List.set_cons_succ]
                clear hzz
                refine wpAnyH_ready (rs := [12]) (by kernel_rfl) (by simp) ?_
                refine AllReadyH.cons rfl (fun K hK => ?_) AllReadyH.nil
                try simp only [List.getElem_toArray, List.getElem_cons_succ, List.getElem_cons_zero]
                go_simp
                (go_at_call 21; refine (HAW.out _ HY6.out.1).mono ?_; rintro e x7 ⟨rfl, hb7⟩; have HY7 := Lib.hid (HY6.out.on hb7); clear hb7)
                try go_wp2_with fail
                refine hK.out _ _ ?_ (fun hHeld => ?_)
                · exact HY7.out.2.2
                clear hK K
                try simp only [List.getElem_toArray, List.getElem_cons_succ, List.getElem_cons_zero, Act.put, List.setIfInBounds_toArray, List.set_cons_zero, List.set_cons_succ]
                refine wpAnyH_take (i := 13) (v := .bool true) rfl (by kernel_rfl) (by kernel_rfl) (by kernel_rfl) (fun _ _ _ h => h) (Or.inl ⟨by rfl, fun W hSW => ?_⟩) hHeld ?_
                · ((try dsimp only at hSW); go_split_ands; go_simp <;> with_reducible rfl)
                try simp only [List.getElem_toArray, List.getElem_cons_succ, List.getElem_cons_zero, Act.put, List.setIfInBounds_toArray, List.set_cons_zero, List.set_cons_succ]
                refine wpAnyH_take (i := 14) (v := .bool true) rfl (by kernel_rfl) (by kernel_rfl) (by kernel_rfl) (fun _ _ _ h => h) (Or.inl ⟨by rfl, fun W hSW => ?_⟩) hHeld ?_
                · ((try dsimp only at hSW); go_split_ands; go_simp <;> with_reducible rfl)
                try simp only [List.getElem_toArray, List.getElem_cons_succ, List.getElem_cons_zero, Act.put, List.setIfInBounds_toArray, List.set_cons_zero, List.set_cons_succ]
                refine wpAnyH_done (by kernel_rfl) ?_ _
                clear hHeld
                go_wp2_with fail
                go_ret
                exact ⟨rfl, HY7.out.1⟩
            · skip
              try simp only [List.getElem_toArray, List.getElem_cons_succ, List.getElem_cons_zero]
              go_simp
              have HY1 := Lib.hid (show SysAt W _ _ (x0.alloc (.cells #[] 43)) from HY0.out.on ((Below.refl _ _).alloc (Nat.le_refl _) _))
              have HE5129 := Lib.hid (show (x0.alloc (.cells #[] 43)).ownsRow x0.heap.size 43 2 (.slice (some ⟨x0.heap.size, 0, none⟩) 0 0) 0 [] from lit_rowS (heap_alloc_new _ _) (Nat.le_refl _))
              generalize (x0.alloc (.cells #[] 43)) = x1 at HY1 HE5129 ⊢
              try go_wp2_with fail
              refine hK.out _ _ ?_ (fun hHeld => ?_)
              · exact HY1.out.2.2
              clear hK K
              try simp only [List.getElem_toArray, List.getElem_cons_succ, List.getElem_cons_zero, Act.put, List.setIfInBounds_toArray, List.set_cons_zero, List.set_cons_succ]
              have HGE5 := Lib.hid (show W.heap.size < x0.heap.size from HY0.out.2.1)
              refine wpAnyH_ready (rs := [0]) (by kernel_rfl) (by simp) ?_
              refine AllReadyH.cons rfl (fun K hK => ?_) AllReadyH.nil
              try simp only [List.getElem_toArray, List.getElem_cons_succ, List.getElem_cons_zero]
              go_simp
              have HE5130 := Lib.hid ((HE5129.out).alloc (.cells #[] 41))
              have HY2 := Lib.hid (show SysAt W _ _ (x1.alloc (.cells #[] 41)) from HY1.out.on ((Below.refl _ _).alloc (Nat.le_refl _) _))
              have HE0131 := Lib.hid (show (x1.alloc (.cells #[] 41)).ownsRow x1.heap.size 41 1 (.slice (some ⟨x1.heap.size, 0, none⟩) 0 0) 0 [] from lit_rowS (heap_alloc_new _ _) (Nat.le_refl _))
              generalize (x1.alloc (.cells #[] 41)) = x2 at HY2 HE0131 HE5130 ⊢
              try go_wp2_with fail
              refine hK.out _ _ ?_ (fun hHeld => ?_)
              · exact HY2.out.2.2
              clear hK K
              try simp only [List.getElem_toArray, List.getElem_cons_succ, List.getElem_cons_zero, Act.put, List.setIfInBounds_toArray, List.set_cons_zero, List.set_cons_succ]
              have HGE0 := Lib.hid (show W.heap.size < x1.heap.size from HY1.out.2.1)
              refine wpAnyH_ready (rs := [2]) (by kernel_rfl) (by simp) ?_
              refine AllReadyH.cons rfl (fun K hK => ?_) AllReadyH.nil
              refine step_append_anyS rfl (.tmp 70) (.tmp 71) 22 rfl x1.heap.size 41 j0 (.int .u64 0) 1 8 Tryd.underlying22 hj0 hy0 hy1 hy2 rfl (by decide) (.slice (some ⟨x1.heap.size, 0, none⟩) 0 0) 0 [] (by rfl) HE0131.out (.slice ua xs.length uc) xs.length (xs.map (Value.int .u64)) (by rfl) (by rw [List.length_map, Nat.mul_one]) (numS_src (HU.out.below HY2.out.1) HUN.out) (numS_one xs) (by have := HSZ.out; unfold maxLen; omega) (by have := HSZ.out; omega) (Nat.le_of_lt (HE0131.out.lt _ rfl).2) ?_
              intro v3 x3 ho3 hg3
              have HY3 := Lib.hid (HY2.out.grown hg3 (fun k e => by have h1 : x1.heap.size = k := Option.some.inj e; have h2 := HGE0.out; omega))
              have HE5133 := Lib.hid (HE5130.out.kept hg3 (GG.own_types HE5130.out HE0131.out (by decide)))
              have HO2132 := Lib.hid (own0S ho3)
              obtain ⟨pa, pb, rfl⟩ := SS.ownOf HO2132.out
              clear ho3 hg3
              refine hK.out _ _ ?_ (fun hHeld => ?_)
              · exact HY3.out.2.2
              clear hK K
              try simp only [List.getElem_toArray, List.getElem_cons_succ, List.getElem_cons_zero, Act.put, List.setIfInBounds_toArray, List.set_cons_zero, List.set_cons_succ]
              refine wpAnyH_ready (rs := [4]) (by kernel_rfl) (by simp) ?_
              refine AllReadyH.cons rfl (fun K hK => ?_) AllReadyH.nil
              try simp only [List.getElem_toArray, List.getElem_cons_succ, List.getElem_cons_zero]
              go_simp
              (go_at_call 17; refine (copied_any x3 ((HC.out.below HY3.out.1).mono HY3.out.1.size) ((HG.out.below HY3.out.1).mono HY3.out.1.size) HSM.out (by have := HSZ.out; omega) (by have := HSZ.out; omega)).mono ?_; rintro e x4 ⟨sa, sb, ga, gb, vs, rfl, hco, hgo, hgr, hb4⟩; have HY4 := Lib.hid (HY3.out.on hb4))
              try go_wp2_with fail
              refine hK.out _ _ ?_ (fun hHeld => ?_)
              · exact HY4.out.2.2
              clear hK K
              try simp only [List.getElem_toArray, List.getElem_cons_succ, List.getElem_cons_zero, Act.put, List.setIfInBounds_toArray, List.set_cons_zero, List.set_cons_succ]
              have HO2134 := Lib.hid (SS.own_of_block HO2132.out (fun k e => hb4.block k (HO2132.out.lt k e).2))
              have HE5134 := Lib.hid (SS.own_of_block HE5133.out (fun k e => hb4.block k (HE5133.out.lt k e).2))
              have HCO135 := Lib.hid hco
              have HGO135 := Lib.hid hgo
              have HGR135 := Lib.hid hgr
              have HD5136 := Lib.hid (fun k (hk : (Value.slice sa c.length sb).ownBlock = some k) => show k ≠ x0.heap.size from fun e => by have h1 := (hco.lt k hk).1; have h2 : x0.heap.size < x3.heap.size := (HE5133.out.lt _ rfl).2; omega)
              clear hco hgo hgr
              clear hb4
              refine wpAnyH_ready (rs := [7]) (by kernel_rfl) (by simp) ?_
              refine AllReadyH.cons rfl (fun K hK => ?_) AllReadyH.nil
              refine step_append_anyS rfl (.tmp 75) (.tmp 76) 23 rfl x0.heap.size 43 i0 (.agg #[.int .i64 0, .int .u64 0]) 2 16 Tryd.underlying23 hi0 hz0 hz1 hz2 rfl (by decide) (.slice (some ⟨x0.heap.size, 0, none⟩) 0 0) 0 [] (by rfl) HE5134.out (.slice la l.length lc) l.length (labV l) (by rfl) (labV_len l) (HL.out.below HY4.out.1).src (labV_one l) (by have := HSZ.out; unfold maxLen; omega) (by have := HSZ.out; omega) (Nat.le_of_lt (HE5134.out.lt _ rfl).2) ?_
              intro v5 x5 ho5 hg5
              have HY5 := Lib.hid (HY4.out.grown hg5 (fun k e => by have h1 : x0.heap.size = k := Option.some.inj e; have h2 := HGE5.out; omega))
              have HO2138 := Lib.hid (HO2134.out.kept hg5 (GG.own_types HO2134.out HE5134.out (by decide)))
              have HCO138 := Lib.hid (HCO135.out.kept hg5 (by cases hk : (Value.slice sa c.length sb).ownBlock with | none => exact .inl rfl | some k => exact .inr (fun e => HD5136.out k hk (Option.some.inj e))))
              have HGO138 := Lib.hid (HGO135.out.kept hg5 (GG.own_types HGO135.out HE5134.out (by decide)))
              have HGR138 := Lib.hid (HGR135.out.kept HE5134.out (by decide) hg5)
              have HO7137 := Lib.hid (own0S ho5)
              obtain ⟨qa, qb, rfl⟩ := SS.ownOf HO7137.out
              clear ho5 hg5
              refine hK.out _ _ ?_ (fun hHeld => ?_)
              · exact HY5.out.2.2
              clear hK K
              try simp only [List.getElem_toArray, List.getElem_cons_succ, List.getElem_cons_zero, Act.put, List.setIfInBounds_toArray, List.set_cons_zero, List.set_cons_succ]
              refine wpAnyH_ready (rs := [8]) (by kernel_rfl) (by simp) ?_
              refine AllReadyH.cons rfl (fun K hK => ?_) AllReadyH.nil
              try simp only [List.getElem_toArray, List.getElem_cons_succ, List.getElem_cons_zero]
              go_simp
              (go_at_call 29; refine (bounds_any x5 (nums_of_row HO2138.out) HX.out HXL.out (HT.out.on HY5.out.1) (lab_ownV HCO138.out) HWC.out (HGR138.out.graph HGO138.out) (lab_ownV HO7137.out) HWL.out (by have := HSZ.out; omega) (by have := HSZ.out; omega) (by have := HSZ.out; omega) HTM.out).mono ?_; rintro e x6 ⟨hb6, zb, rfl, hzb⟩; obtain rfl : zb = z := boundZ_one hzb HBZ.out; have HY6 := Lib.hid (HY5.out.on hb6); clear hb6 hzb)
              try go_wp2_with fail
              refine hK.out _ _ ?_ (fun hHeld => ?_)
              · exact HY6.out.2.2
              clear hK K
              try simp only [List.getElem_toArray, List.getElem_cons_succ, List.getElem_cons_zero, Act.put, List.setIfInBounds_toArray, List.set_cons_zero, List.set_cons_succ]
              have hzz := HZZ.out
              refine wpAnyH_take (i := 10) (v := .bool true) rfl (by kernel_rfl) (by kernel_rfl) (by kernel_rfl) (fun _ _ _ h => h) (Or.inl ⟨by rfl, fun W hSW => ?_⟩) hHeld ?_
              · ((try dsimp only at hSW); go_split_ands; go_simp <;> with_reducible rfl)
              try simp only [List.getElem_toArray, List.getElem_cons_succ, List.getElem_cons_zero, Act.put, List.setIfInBounds_toArray, List.set_cons_zero, List.set_cons_succ]
              refine wpAnyH_take (i := 11) (v := .bool true) rfl (by kernel_rfl) (by kernel_rfl) (by kernel_rfl) (fun _ _ _ h => h) (Or.inl ⟨by rfl, fun W hSW => ?_⟩) hHeld ?_
              · ((try dsimp only at hSW); go_split_ands; go_simp <;> with_reducible rfl)
              try simp only [List.getElem_toArray, List.getElem_cons_succ, List.getElem_cons_zero, Act.put, List.setIfInBounds_toArray, List.set_cons_zero, List.set_cons_succ]
              clear hzz
              refine wpAnyH_ready (rs := [12]) (by kernel_rfl) (by simp) ?_
              refine AllReadyH.cons rfl (fun K hK => ?_) AllReadyH.nil
              try simp only [List.getElem_toArray, List.getElem_cons_succ, List.getElem_cons_zero]
              go_simp
              (go_at_call 21; refine (HAW.out _ HY6.out.1).mono ?_; rintro e x7 ⟨rfl, hb7⟩; have HY7 := Lib.hid (HY6.out.on hb7); clear hb7)
              try go_wp2_with fail
              refine hK.out _ _ ?_ (fun hHeld => ?_)
              · exact HY7.out.2.2
              clear hK K
              try simp only [List.getElem_toArray, List.getElem_cons_succ, List.getElem_cons_zero, Act.put, List.setIfInBounds_toArray, List.set_cons_zero, List.set_cons_succ]
              refine wpAnyH_take (i := 13) (v := .bool true) rfl (by kernel_rfl) (by kernel_rfl) (by kernel_rfl) (fun _ _ _ h => h) (Or.inl ⟨by rfl, fun W hSW => ?_⟩) hHeld ?_
              · ((try dsimp only at hSW); go_split_ands; go_simp <;> with_reducible rfl)
              try simp only [List.getElem_toArray, List.getElem_cons_succ, List.getElem_cons_zero, Act.put, List.setIfInBounds_toArray, List.set_cons_zero, List.set_cons_succ]
              refine wpAnyH_take (i := 14) (v := .bool true) rfl (by kernel_rfl) (by kernel_rfl) (by kernel_rfl) (fun _ _ _ h => h) (Or.inl ⟨by rfl, fun W hSW => ?_⟩) hHeld ?_
              · ((try dsimp only at hSW); go_split_ands; go_simp <;> with_reducible rfl)
              try simp only [List.getElem_toArray, List.getElem_cons_succ, List.getElem_cons_zero, Act.put, List.setIfInBounds_toArray, List.set_cons_zero, List.set_cons_succ]
              refine wpAnyH_done (by kernel_rfl) ?_ _
              clear hHeld
              go_wp2_with fail
              go_ret
              exact ⟨rfl, HY7.out.1⟩
theorem solveBounds_all {uv lv cv nv : Value} {xs : List Int} {c l : List (Int × Int)} {tq : List (List Int)} (W : World) (hu : Nums .u64 W.heap.size W uv xs) (hun : ∀ n c, uv = .slice none n c → c = 0) (hx : Wide xs) (hxl : xs.length ≤ big5) (hT : Tz W) (hv : LabRow W.heap.size W cv c) (hwc : WideL c) (hg : GraphM W.heap.size W nv tq) (hs : Small tq) (hl : LabRow W.heap.size W lv l) (hwl : WideL l) (hcl : c.length ≤ 17592186044416) (hll : l.length * 16 ≤ 140737488351232) :
    Calls Tryd.prog 4 #[uv, .agg #[cv, nv], lv] W fun e V => e = .returned (.bool true) ∧ Below W.heap.size W V := by
  obtain ⟨ua, uc, rfl⟩ := hu.form
  obtain ⟨la, lc, rfl⟩ := hl.form
  exact solveBounds_walk W hu (fun e => hun xs.length uc (by rw [e])) hx hxl hT hv hwc hg hs hl hwl hcl (by omega)
end Go.Proofs.YtjadckmdkkeopaaDoor
