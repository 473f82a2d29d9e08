import Derived.Test.YtodhoplchficpaaDoorSymH
set_option linter.unusedSimpArgs false
set_option linter.unusedVariables false
/-! SymLows, walked -/
namespace Go.Proofs.YtodhoplchficpaaDoor
open Go.RowKit
open SV (Lab SysOk Least labs sumOf mu sumP at' natsL askT askI fanN lok ljoin val le Bnd)
def isL (xs : List Int) (a m pc : Int) (rest : List Int) : Bool := decide (rest.length ≤ 6) && (LL.rightB xs && (rfitB xs.length a m rest.length && levB xs.length (pc :: rest)))
theorem low_is (xs : List Int) (a m pc : Int) (rest : List Int) : isL xs a m pc rest = putB xs a m (lows rest) (pc, 0) := by
  unfold isL putB fitB rfitB putAll levB
  simp only [List.all_cons, lows_len]
  have e : labOk xs.length (a, 0) = labOk xs.length (a, m) := rfl
  have e2 : (lows rest).all (labOk xs.length) = rest.all fun x => decide (0 ≤ x ∧ x < xs.length) := lows_all
  have e3 : labOk xs.length (pc, 0) = decide (0 ≤ pc ∧ pc < xs.length) := rfl
  rw [e, e2, e3]
  cases decide (rest.length ≤ 6) <;> cases LL.rightB xs <;> cases labOk xs.length (a, m) <;> cases bitsIn m rest.length <;> cases decide (0 ≤ pc ∧ pc < (xs.length : Int)) <;> cases rest.all (fun x => decide (0 ≤ x ∧ x < (xs.length : Int))) <;> rfl
set_option maxRecDepth 100000 in
set_option maxHeartbeats 12800000 in
theorem symLows_walk {ua aa : Option Addr} {uc ac : Nat} {xs : List Int} {a m : Int} {args : List Int} (W : World) (hu : Nums .u64 W.heap.size W (.slice ua xs.length uc) xs) (hun : ua = none → uc = 0) (hx : Wide xs) (hxl : xs.length ≤ big5) (hT : Tz W) (hav : Row W.heap.size W (.slice aa args.length ac) args) (hal : args.length ≤ 17592186044416) (hm : 0 ≤ m ∧ m ≤ 18446744073709551615) :
    Calls Tryd.prog 6 #[.slice ua xs.length uc, .agg #[.int .i64 a, .int .u64 m], .slice aa args.length ac] W fun e V => e = .returned (.bool true) ∧ Below W.heap.size W V := by
  obtain ⟨i0, hi0, hz0, hz1, hz2⟩ := info_parts Tryd.infoU64
  obtain ⟨j0, hj0, hw0, hw1, hw2⟩ := info_parts Tryd.infoGInt
  have HU := Lib.hid hu
  have HNN := Lib.hid hun
  have HX := Lib.hid hx
  have HM := Lib.hid hm
  have HA := Lib.hid hav
  have HAW := Lib.hid (fun w (hb : Below W.heap.size W w) => awake19_any w (hT.on hb))
  have b0 : (xs.length : Int) ≤ 17592186044416 := by have := hxl; unfold big5 at this; omega
  have b1 : (args.length : Int) ≤ 17592186044416 := by omega
  have HS0 := Lib.hid (labBx_start W a m)
  obtain ⟨W0, eW0⟩ : ∃ W0, W0 = W.alloc (.cells #[.int .i64 a, .int .u64 m] 38) := ⟨_, rfl⟩
  rw [← eW0] at HS0
  have HBIG := Lib.hid hxl
  have HTZ := Lib.hid hT
  clear hu hun hx hxl hT hav hal hm
  by_cases h20 : (20 : Int) < xs.length
  · have j20 : decide ((xs.length : Int) > 20) = true := decide_eq_true h20
    have k20 : decide ((20 : Int) < xs.length) = true := decide_eq_true h20
    go_enter Tryd.func6, Tryd.ntmps6
    go_upto_region 1 with fail
    rw [← eW0]
    clear eW0
    go_wp2_with fail
    go_ret
    exact ⟨rfl, HS0.out.1⟩
  · have j20 : decide ((xs.length : Int) > 20) = false := decide_eq_false h20
    have k20 : decide ((20 : Int) < xs.length) = false := decide_eq_false h20
    by_cases h10 : (10 : Int) < args.length
    · have j10 : decide ((args.length : Int) > 10) = true := decide_eq_true h10
      have k10 : decide ((10 : Int) < args.length) = true := decide_eq_true h10
      go_enter Tryd.func6, Tryd.ntmps6
      go_upto_region 1 with fail
      rw [← eW0]
      clear eW0
      go_wp2_with fail
      go_ret
      exact ⟨rfl, HS0.out.1⟩
    · have j10 : decide ((args.length : Int) > 10) = false := decide_eq_false h10
      have k10 : decide ((10 : Int) < args.length) = false := decide_eq_false h10
      cases args with
      | nil =>
        have HB0 := Lib.hid HS0.out.1
        clear HA
        simp only [List.length_nil] at *
        go_enter Tryd.func6, Tryd.ntmps6
        go_upto_region 1 with fail
        rw [← eW0]
        clear eW0
        go_wp2_with fail
        go_ret
        exact ⟨rfl, HB0.out⟩
      | cons pc rest =>
        simp only [List.length_cons, Int.natCast_add, Int.natCast_one] at *
        have i20 : (xs.length : Int) ≤ 20 := by omega
        have i10 : (rest.length : Int) ≤ 9 := by omega
        have j11 : decide ((rest.length : Int) + 1 > 10) = false := decide_eq_false (by omega)
        have k11 : decide ((10 : Int) < (rest.length : Int) + 1) = false := decide_eq_false (by omega)
        have j0' : ((rest.length : Int) + 1 == 0) = false := by simp; omega
        obtain ⟨b, off, cap, e⟩ : ∃ b off cap, Value.slice aa (rest.length + 1) ac = .slice (some ⟨b, off, none⟩) (rest.length + 1) cap := by
          obtain ⟨b, off, e, _⟩ := HA.out.cellAt (k := 0) (by simp)
          rw [e]
          exact ⟨b, off, ac, rfl⟩
        cases e
        obtain ⟨ht1, ht2, htc, htb, htx⟩ := Row.tail HA.out
        have HT1 := Lib.hid ht1
        have HT2 := Lib.hid ht2
        have HTC := Lib.hid htc
        have HTB := Lib.hid htb
        have HTX := Lib.hid htx
        have c1 : (rest.length : Int) + 1 ≤ ac := by omega
        clear ht1 ht2 htc htb htx
        go_enter Tryd.func6, Tryd.ntmps6
        go_upto_region 1 with fail
        rw [← eW0]
        clear eW0
        go_upto_region 3 with fail
        go_cut [7, 8] from 24 (fun s7 s8 w9 => s7 = .int .i64 pc ∧ (∃ ra rc, s8 = .slice ra rest.length rc ∧ Row W.heap.size W (.slice ra rest.length rc) rest) ∧ LabBx W a m w9)
        case first =>
          have HX0 := Lib.hid HS0.out.drew
          have hx0 : W0.drew.cell? ⟨b, off, none⟩ = some (.int .i64 pc) := (HX0.out.1.cell (p := ⟨b, off, none⟩) HTB.out).trans HTX.out
          refine wp_region_held_drew (S := (fun V => V.cell? ⟨b, off, none⟩ = some (.int .i64 pc))) (by kernel_rfl) ?_ (fun hHeld => ?_)
          · exact hx0
          clear hx0
          generalize W0.drew = w0 at HX0 hHeld ⊢
          have hn1 : ¬ ((rest.length : Int) + 1 < 1) := by omega
          by_cases hac : ac = 1
          · have HR1 := Lib.hid (HT2.out hac)
            subst hac
            refine wpAnyH_take (i := 0) (v := .slice (some ⟨b, off, none⟩) (rest.length + 1) 1) rfl (by kernel_rfl) (by kernel_rfl) (by kernel_rfl) (fun _ _ _ h => h) (Or.inl ⟨by rfl, fun W hSW => ?_⟩) hHeld ?_
            · ((try dsimp only at hSW); go_split_ands; go_simp <;> with_reducible rfl)
            try simp only [List.getElem_toArray, List.getElem_cons_succ, List.getElem_cons_zero, Act.put, List.setIfInBounds_toArray, List.set_cons_zero, List.set_cons_succ]
            refine wpAnyH_take (i := 1) (v := .pointer (some ⟨b, off, none⟩)) rfl (by kernel_rfl) (by kernel_rfl) (by kernel_rfl) (fun _ _ _ h => h) (Or.inl ⟨by rfl, fun W hSW => ?_⟩) hHeld ?_
            · ((try dsimp only at hSW); go_split_ands; go_simp <;> with_reducible rfl)
            try simp only [List.getElem_toArray, List.getElem_cons_succ, List.getElem_cons_zero, Act.put, List.setIfInBounds_toArray, List.set_cons_zero, List.set_cons_succ]
            refine wpAnyH_take (i := 2) (v := .int .i64 pc) rfl (by kernel_rfl) (by kernel_rfl) (by kernel_rfl) (fun _ _ _ h => h) (Or.inl ⟨by rfl, fun W hSW => ?_⟩) hHeld ?_
            · ((try dsimp only at hSW); go_split_ands; go_simp <;> with_reducible rfl)
            try simp only [List.getElem_toArray, List.getElem_cons_succ, List.getElem_cons_zero, Act.put, List.setIfInBounds_toArray, List.set_cons_zero, List.set_cons_succ]
            refine wpAnyH_take (i := 3) (v := .slice (some ⟨b, off, none⟩) (rest.length + 1) 1) rfl (by kernel_rfl) (by kernel_rfl) (by kernel_rfl) (fun _ _ _ h => h) (Or.inl ⟨by rfl, fun W hSW => ?_⟩) hHeld ?_
            · ((try dsimp only at hSW); go_split_ands; go_simp <;> with_reducible rfl)
            try simp only [List.getElem_toArray, List.getElem_cons_succ, List.getElem_cons_zero, Act.put, List.setIfInBounds_toArray, List.set_cons_zero, List.set_cons_succ]
            refine wpAnyH_take (i := 4) (v := .slice (some ⟨b, off, none⟩) rest.length 0) rfl (by kernel_rfl) (by kernel_rfl) (by kernel_rfl) (fun _ _ _ h => h) (Or.inl ⟨by rfl, fun W hSW => ?_⟩) hHeld ?_
            · ((try dsimp only at hSW); go_split_ands; go_simp <;> with_reducible rfl)
            try simp only [List.getElem_toArray, List.getElem_cons_succ, List.getElem_cons_zero, Act.put, List.setIfInBounds_toArray, List.set_cons_zero, List.set_cons_succ]
            refine wpAnyH_take (i := 5) (v := .int .i64 pc) rfl (by kernel_rfl) (by kernel_rfl) (by kernel_rfl) (fun _ _ _ h => h) (Or.inl ⟨by rfl, fun W hSW => ?_⟩) hHeld ?_
            · ((try dsimp only at hSW); go_split_ands; go_simp <;> with_reducible rfl)
            try simp only [List.getElem_toArray, List.getElem_cons_succ, List.getElem_cons_zero, Act.put, List.setIfInBounds_toArray, List.set_cons_zero, List.set_cons_succ]
            refine wpAnyH_take (i := 6) (v := .slice (some ⟨b, off, none⟩) rest.length 0) rfl (by kernel_rfl) (by kernel_rfl) (by kernel_rfl) (fun _ _ _ h => h) (Or.inl ⟨by rfl, fun W hSW => ?_⟩) hHeld ?_
            · ((try dsimp only at hSW); go_split_ands; go_simp <;> with_reducible rfl)
            try simp only [List.getElem_toArray, List.getElem_cons_succ, List.getElem_cons_zero, Act.put, List.setIfInBounds_toArray, List.set_cons_zero, List.set_cons_succ]
            refine wpAnyH_done (by kernel_rfl) ?_ _
            clear hHeld
            go_wp2_with fail
            go_meet
            case rel => exact ⟨rfl, ⟨_, _, rfl, HR1.out⟩, HX0.out⟩
          · have q1 : ((ac : Int) == 1) = false := by simp; omega
            have q2 : ((1 : Int) == ac) = false := by simp; omega
            have q3 : ac ≠ 1 := hac
            refine wpAnyH_take (i := 0) (v := .slice (some ⟨b, off, none⟩) (rest.length + 1) ac) rfl (by kernel_rfl) (by kernel_rfl) (by kernel_rfl) (fun _ _ _ h => h) (Or.inl ⟨by rfl, fun W hSW => ?_⟩) hHeld ?_
            · ((try dsimp only at hSW); go_split_ands; go_simp <;> with_reducible rfl)
            try simp only [List.getElem_toArray, List.getElem_cons_succ, List.getElem_cons_zero, Act.put, List.setIfInBounds_toArray, List.set_cons_zero, List.set_cons_succ]
            refine wpAnyH_take (i := 1) (v := .pointer (some ⟨b, off, none⟩)) rfl (by kernel_rfl) (by kernel_rfl) (by kernel_rfl) (fun _ _ _ h => h) (Or.inl ⟨by rfl, fun W hSW => ?_⟩) hHeld ?_
            · ((try dsimp only at hSW); go_split_ands; go_simp <;> with_reducible rfl)
            try simp only [List.getElem_toArray, List.getElem_cons_succ, List.getElem_cons_zero, Act.put, List.setIfInBounds_toArray, List.set_cons_zero, List.set_cons_succ]
            refine wpAnyH_take (i := 2) (v := .int .i64 pc) rfl (by kernel_rfl) (by kernel_rfl) (by kernel_rfl) (fun _ _ _ h => h) (Or.inl ⟨by rfl, fun W hSW => ?_⟩) hHeld ?_
            · ((try dsimp only at hSW); go_split_ands; go_simp <;> with_reducible rfl)
            try simp only [List.getElem_toArray, List.getElem_cons_succ, List.getElem_cons_zero, Act.put, List.setIfInBounds_toArray, List.set_cons_zero, List.set_cons_succ]
            refine wpAnyH_take (i := 3) (v := .slice (some ⟨b, off, none⟩) (rest.length + 1) ac) rfl (by kernel_rfl) (by kernel_rfl) (by kernel_rfl) (fun _ _ _ h => h) (Or.inl ⟨by rfl, fun W hSW => ?_⟩) hHeld ?_
            · ((try dsimp only at hSW); go_split_ands; go_simp <;> with_reducible rfl)
            try simp only [List.getElem_toArray, List.getElem_cons_succ, List.getElem_cons_zero, Act.put, List.setIfInBounds_toArray, List.set_cons_zero, List.set_cons_succ]
            refine wpAnyH_take (i := 4) (v := .slice (some ⟨b, off + 1, none⟩) rest.length (ac - 1)) rfl (by kernel_rfl) (by kernel_rfl) (by kernel_rfl) (fun _ _ _ h => h) (Or.inl ⟨by rfl, fun W hSW => ?_⟩) hHeld ?_
            · ((try dsimp only at hSW); go_split_ands; go_simp <;> with_reducible rfl)
            try simp only [List.getElem_toArray, List.getElem_cons_succ, List.getElem_cons_zero, Act.put, List.setIfInBounds_toArray, List.set_cons_zero, List.set_cons_succ]
            refine wpAnyH_take (i := 5) (v := .int .i64 pc) rfl (by kernel_rfl) (by kernel_rfl) (by kernel_rfl) (fun _ _ _ h => h) (Or.inl ⟨by rfl, fun W hSW => ?_⟩) hHeld ?_
            · ((try dsimp only at hSW); go_split_ands; go_simp <;> with_reducible rfl)
            try simp only [List.getElem_toArray, List.getElem_cons_succ, List.getElem_cons_zero, Act.put, List.setIfInBounds_toArray, List.set_cons_zero, List.set_cons_succ]
            refine wpAnyH_take (i := 6) (v := .slice (some ⟨b, off + 1, none⟩) rest.length (ac - 1)) rfl (by kernel_rfl) (by kernel_rfl) (by kernel_rfl) (fun _ _ _ h => h) (Or.inl ⟨by rfl, fun W hSW => ?_⟩) hHeld ?_
            · ((try dsimp only at hSW); go_split_ands; go_simp <;> with_reducible rfl)
            try simp only [List.getElem_toArray, List.getElem_cons_succ, List.getElem_cons_zero, Act.put, List.setIfInBounds_toArray, List.set_cons_zero, List.set_cons_succ]
            refine wpAnyH_done (by kernel_rfl) ?_ _
            clear hHeld
            go_wp2_with fail
            go_meet
            case rel => exact ⟨rfl, ⟨_, _, rfl, HT1.out⟩, HX0.out⟩
        case rest =>
          obtain ⟨rfl, ⟨ra, rc, rfl, hrr⟩, hx9⟩ := hcut
          have HRW := Lib.hid hrr
          have HX0 := Lib.hid hx9
          obtain ⟨z, ez⟩ : ∃ z, z = putB xs a m (lows rest) (pc, 0) := ⟨_, rfl⟩
          obtain ⟨y1, ey1⟩ : ∃ y1 : Int, y1 = if z = true then ((putJ xs a m (lows rest) (pc, 0)).1 : Int) else 0 := ⟨_, rfl⟩
          have HLR := Lib.hid (show lowRet xs a m rest pc = .tuple #[.int .i64 y1, .bool z] by unfold lowRet; rw [ey1, ez])
          have HZ := Lib.hid ez
          have HY := Lib.hid ey1
          have HJ := Lib.hid (fun w (hb : Below W.heap.size W w) {v lv : Value} (hv : Nums .u64 w.heap.size w v xs) (hl : Row w.heap.size w lv rest) => slow_any (a := a) (m := m) (pc := pc) w hv HX.out HBIG.out (HTZ.out.on hb) hl HM.out (by omega))
          clear HS0 HT1 HT2 HTB HTX HTC hrr hx9 ez ey1 j10 k10 j11 k11 j20 k20 h10 h20 j0'
          go_upto_region 4 with fail
          go_cut [7, 8, 9, 10] from 29 (fun s7 s8 s9 s10 w9 => s7 = .int .i64 pc ∧ s8 = .slice ra rest.length rc ∧ s9 = .int .i64 y1 ∧ s10 = .bool z ∧ LabBx W a m w9)
          case first =>
            have HX1 := Lib.hid HX0.out.drew
            refine wp_region_held_drew (S := (fun V => V.cell? ⟨W.heap.size, 0, none⟩ = some (.int .i64 a) ∧ V.cell? ⟨W.heap.size, 1, none⟩ = some (.int .u64 m))) (by kernel_rfl) ?_ (fun hHeld => ?_)
            · exact HX1.out.cells
            clear HX0
            generalize wc.drew = w0 at HX1 hHeld ⊢
            have HR0 := Lib.hid (Below.refl w0.heap.size w0)
            refine wpAnyH_take (i := 1) (v := .slice ua xs.length uc) rfl (by kernel_rfl) (by kernel_rfl) (by kernel_rfl) (fun _ _ _ h => h) (Or.inl ⟨by rfl, fun W hSW => ?_⟩) hHeld ?_
            · ((try dsimp only at hSW); go_split_ands; go_simp <;> with_reducible rfl)
            try simp only [List.getElem_toArray, List.getElem_cons_succ, List.getElem_cons_zero, Act.put, List.setIfInBounds_toArray, List.set_cons_zero, List.set_cons_succ]
            refine wpAnyH_take (i := 3) (v := .agg #[.int .i64 a, .int .u64 m]) rfl (by kernel_rfl) (by kernel_rfl) (by kernel_rfl) (fun _ _ _ h => h) (Or.inl ⟨by rfl, fun W hSW => ?_⟩) hHeld ?_
            · ((try dsimp only at hSW); go_split_ands; go_simp <;> with_reducible rfl)
            try simp only [List.getElem_toArray, List.getElem_cons_succ, List.getElem_cons_zero, Act.put, List.setIfInBounds_toArray, List.set_cons_zero, List.set_cons_succ]
            refine wpAnyH_take (i := 5) (v := .slice ra rest.length rc) rfl (by kernel_rfl) (by kernel_rfl) (by kernel_rfl) (fun _ _ _ h => h) (Or.inl ⟨by rfl, fun W hSW => ?_⟩) hHeld ?_
            · ((try dsimp only at hSW); go_split_ands; go_simp <;> with_reducible rfl)
            try simp only [List.getElem_toArray, List.getElem_cons_succ, List.getElem_cons_zero, Act.put, List.setIfInBounds_toArray, List.set_cons_zero, List.set_cons_succ]
            refine wpAnyH_take (i := 7) (v := .int .i64 pc) rfl (by kernel_rfl) (by kernel_rfl) (by kernel_rfl) (fun _ _ _ h => h) (Or.inl ⟨by rfl, fun W hSW => ?_⟩) hHeld ?_
            · ((try dsimp only at hSW); go_split_ands; go_simp <;> with_reducible rfl)
            try simp only [List.getElem_toArray, List.getElem_cons_succ, List.getElem_cons_zero, Act.put, List.setIfInBounds_toArray, List.set_cons_zero, List.set_cons_succ]
            refine wpAnyH_ready (rs := [0, 4]) (by kernel_rfl) (by simp) ?_
            refine AllReadyH.cons rfl (fun K hK => ?_) ?_
            · try simp only [List.getElem_toArray, List.getElem_cons_succ, List.getElem_cons_zero]
              go_simp
              obtain ⟨wy1, ey⟩ : ∃ y, y = w0.alloc (.cells #[] 36) := ⟨_, rfl⟩
              rw [← ey]
              have hb : Below w0.heap.size w0 wy1 := by rw [ey]; exact (Below.refl _ _).alloc (Nat.le_refl _) _
              have F1_base := Lib.hid (HR0.out.trans (hb.mono HR0.out.size))
              have F1_lu := Lib.hid (show wy1.heap[w0.heap.size]? = some (.cells #[] 36) by rw [ey]; exact heap_alloc_new _ _)
              have G1_lu := Lib.hid (show w0.heap.size ≤ w0.heap.size from HR0.out.size)
              clear ey hb
              refine hK.out _ _ ?_ (fun hHeld => ?_)
              · exact (HX1.out.on F1_base.out).cells
              clear hK K
              try simp only [List.getElem_toArray, List.getElem_cons_succ, List.getElem_cons_zero, Act.put, List.setIfInBounds_toArray, List.set_cons_zero, List.set_cons_succ]
              refine wpAnyH_ready (rs := [2, 4]) (by kernel_rfl) (by simp) ?_
              refine AllReadyH.cons rfl (fun K hK => ?_) ?_
              · refine step_append_anyS rfl (.tmp 30) (.tmp 31) 22 rfl w0.heap.size 36 i0 (.int .u64 0) 1 8 Tryd.underlying22 hi0 hz0 hz1 hz2 rfl (by decide) (.slice (some ⟨w0.heap.size, 0, none⟩) 0 0) 0 [] (by rfl) (lit_rowS F1_lu.out G1_lu.out) (.slice ua xs.length uc) xs.length (xs.map (Value.int .u64)) (by rfl) (by simp) (nums_src ((HU.out.below (HX1.out.on F1_base.out).1).mono (HX1.out.on F1_base.out).1.size) HNN.out) (by intro u hu; obtain ⟨x, _, rfl⟩ := List.mem_map.1 hu; rfl) (by unfold maxLen; omega) (by omega) F1_base.out.size ?_
                intro vup wy2 ho hg
                have F2_base := Lib.hid (F1_base.out.grown hg F1_base.out.size (fun k e => by cases e; exact G1_lu.out))
                have F2_up := Lib.hid (own0S ho)
                obtain ⟨aup, cup, rfl⟩ := SS.ownOf F2_up.out
                clear ho hg
                refine hK.out _ _ ?_ (fun hHeld => ?_)
                · exact (HX1.out.on F2_base.out).cells
                clear hK K
                try simp only [List.getElem_toArray, List.getElem_cons_succ, List.getElem_cons_zero, Act.put, List.setIfInBounds_toArray, List.set_cons_zero, List.set_cons_succ]
                refine wpAnyH_ready (rs := [4]) (by kernel_rfl) (by simp) ?_
                refine AllReadyH.cons rfl (fun K hK => ?_) ?_
                · try simp only [List.getElem_toArray, List.getElem_cons_succ, List.getElem_cons_zero]
                  go_simp
                  obtain ⟨wy3, ey⟩ : ∃ y, y = wy2.alloc (.cells #[] 3) := ⟨_, rfl⟩
                  rw [← ey]
                  have hb : Below wy2.heap.size wy2 wy3 := by rw [ey]; exact (Below.refl _ _).alloc (Nat.le_refl _) _
                  have F3_base := Lib.hid (F2_base.out.trans (hb.mono F2_base.out.size))
                  have F3_up := Lib.hid (SS.own_of_block F2_up.out (fun k e => hb.block k (F2_up.out.lt k e).2))
                  have F3_li := Lib.hid (show wy3.heap[wy2.heap.size]? = some (.cells #[] 3) by rw [ey]; exact heap_alloc_new _ _)
                  have G3_li := Lib.hid (show w0.heap.size ≤ wy2.heap.size from F2_base.out.size)
                  clear ey hb
                  refine hK.out _ _ ?_ (fun hHeld => ?_)
                  · exact (HX1.out.on F3_base.out).cells
                  clear hK K
                  try simp only [List.getElem_toArray, List.getElem_cons_succ, List.getElem_cons_zero, Act.put, List.setIfInBounds_toArray, List.set_cons_zero, List.set_cons_succ]
                  refine wpAnyH_ready (rs := [6]) (by kernel_rfl) (by simp) ?_
                  refine AllReadyH.cons rfl (fun K hK => ?_) ?_
                  · refine step_append_anyS rfl (.tmp 34) (.tmp 35) 29 rfl w0.heap.size 3 j0 (.int .i64 0) 1 8 Tryd.underlying29 hj0 hw0 hw1 hw2 rfl (by decide) (.slice (some ⟨wy2.heap.size, 0, none⟩) 0 0) 0 [] (by rfl) (lit_rowS F3_li.out G3_li.out) (.slice ra rest.length rc) rest.length (intsV rest) (by rfl) (by rw [intsV_len]; simp) (by have h := Cells.src (show Cells _ _ _ (intsV rest) from HRW.out.below (HX1.out.on F3_base.out).1); rw [intsV_len] at h; exact h) (GG.oneCell_ints rest) (by unfold maxLen; omega) (by omega) F3_base.out.size ?_
                    intro vai wy4 ho hg
                    have F4_base := Lib.hid (F3_base.out.grown hg F3_base.out.size (fun k e => by cases e; exact G3_li.out))
                    have F4_up := Lib.hid (F3_up.out.kept hg (GG.own_types F3_up.out (lit_rowS (size := 1) F3_li.out G3_li.out) (by decide)))
                    have F4_ai := Lib.hid (own0S ho)
                    obtain ⟨aai, cai, rfl⟩ := SS.ownOf F4_ai.out
                    clear ho hg
                    refine hK.out _ _ ?_ (fun hHeld => ?_)
                    · exact (HX1.out.on F4_base.out).cells
                    clear hK K
                    try simp only [List.getElem_toArray, List.getElem_cons_succ, List.getElem_cons_zero, Act.put, List.setIfInBounds_toArray, List.set_cons_zero, List.set_cons_succ]
                    refine wpAnyH_ready (rs := [8]) (by kernel_rfl) (by simp) ?_
                    refine AllReadyH.cons rfl (fun K hK => ?_) ?_
                    · try simp only [List.getElem_toArray, List.getElem_cons_succ, List.getElem_cons_zero]
                      go_simp
                      (go_at_call 26; refine (HJ.out wy4 (HX1.out.on F4_base.out).1 (nums_of_row F4_up.out) (row_ofS F4_ai.out)).mono ?_; rintro e wy5 ⟨rfl, hb⟩; rw [HLR.out])
                      have F5_base := Lib.hid (F4_base.out.trans (hb.mono F4_base.out.size))
                      have F5_up := Lib.hid (SS.own_of_block F4_up.out (fun k e => hb.block k (F4_up.out.lt k e).2))
                      have F5_ai := Lib.hid (SS.own_of_block F4_ai.out (fun k e => hb.block k (F4_ai.out.lt k e).2))
                      clear hb
                      try go_wp2_with fail
                      refine hK.out _ _ ?_ (fun hHeld => ?_)
                      · exact (HX1.out.on F5_base.out).cells
                      clear hK K
                      try simp only [List.getElem_toArray, List.getElem_cons_succ, List.getElem_cons_zero, Act.put, List.setIfInBounds_toArray, List.set_cons_zero, List.set_cons_succ]
                      refine wpAnyH_take (i := 9) (v := .tuple #[.int .i64 y1, .bool z]) rfl (by kernel_rfl) (by kernel_rfl) (by kernel_rfl) (fun _ _ _ h => h) (Or.inl ⟨by rfl, fun W hSW => ?_⟩) hHeld ?_
                      · ((try dsimp only at hSW); go_split_ands; go_simp <;> with_reducible rfl)
                      try simp only [List.getElem_toArray, List.getElem_cons_succ, List.getElem_cons_zero, Act.put, List.setIfInBounds_toArray, List.set_cons_zero, List.set_cons_succ]
                      refine wpAnyH_take (i := 10) (v := .int .i64 y1) rfl (by kernel_rfl) (by kernel_rfl) (by kernel_rfl) (fun _ _ _ h => h) (Or.inl ⟨by rfl, fun W hSW => ?_⟩) hHeld ?_
                      · ((try dsimp only at hSW); go_split_ands; go_simp <;> with_reducible rfl)
                      try simp only [List.getElem_toArray, List.getElem_cons_succ, List.getElem_cons_zero, Act.put, List.setIfInBounds_toArray, List.set_cons_zero, List.set_cons_succ]
                      refine wpAnyH_take (i := 11) (v := .bool z) rfl (by kernel_rfl) (by kernel_rfl) (by kernel_rfl) (fun _ _ _ h => h) (Or.inl ⟨by rfl, fun W hSW => ?_⟩) hHeld ?_
                      · ((try dsimp only at hSW); go_split_ands; go_simp <;> with_reducible rfl)
                      try simp only [List.getElem_toArray, List.getElem_cons_succ, List.getElem_cons_zero, Act.put, List.setIfInBounds_toArray, List.set_cons_zero, List.set_cons_succ]
                      refine wpAnyH_take (i := 12) (v := .int .i64 y1) rfl (by kernel_rfl) (by kernel_rfl) (by kernel_rfl) (fun _ _ _ h => h) (Or.inl ⟨by rfl, fun W hSW => ?_⟩) hHeld ?_
                      · ((try dsimp only at hSW); go_split_ands; go_simp <;> with_reducible rfl)
                      try simp only [List.getElem_toArray, List.getElem_cons_succ, List.getElem_cons_zero, Act.put, List.setIfInBounds_toArray, List.set_cons_zero, List.set_cons_succ]
                      refine wpAnyH_take (i := 13) (v := .bool z) rfl (by kernel_rfl) (by kernel_rfl) (by kernel_rfl) (fun _ _ _ h => h) (Or.inl ⟨by rfl, fun W hSW => ?_⟩) hHeld ?_
                      · ((try dsimp only at hSW); go_split_ands; go_simp <;> with_reducible rfl)
                      try simp only [List.getElem_toArray, List.getElem_cons_succ, List.getElem_cons_zero, Act.put, List.setIfInBounds_toArray, List.set_cons_zero, List.set_cons_succ]
                      refine wpAnyH_done (by kernel_rfl) ?_ _
                      clear hHeld
                      go_wp2_with fail
                      go_meet
                      case rel => exact ⟨rfl, rfl, rfl, rfl, (HX1.out.on F5_base.out)⟩
                    exact AllReadyH.nil
                  exact AllReadyH.nil
                exact AllReadyH.nil
              refine AllReadyH.cons rfl (fun K hK => ?_) ?_
              · try simp only [List.getElem_toArray, List.getElem_cons_succ, List.getElem_cons_zero]
                go_simp
                obtain ⟨wy2, ey⟩ : ∃ y, y = wy1.alloc (.cells #[] 3) := ⟨_, rfl⟩
                rw [← ey]
                have hb : Below wy1.heap.size wy1 wy2 := by rw [ey]; exact (Below.refl _ _).alloc (Nat.le_refl _) _
                have F2_base := Lib.hid (F1_base.out.trans (hb.mono F1_base.out.size))
                have F2_lu := Lib.hid ((hb.block _ (Array.getElem?_eq_some_iff.1 F1_lu.out).1).trans F1_lu.out)
                have F2_ge_lu := Lib.hid (G1_lu.out)
                have F2_li := Lib.hid (show wy2.heap[wy1.heap.size]? = some (.cells #[] 3) by rw [ey]; exact heap_alloc_new _ _)
                have G2_li := Lib.hid (show w0.heap.size ≤ wy1.heap.size from F1_base.out.size)
                clear ey hb
                refine hK.out _ _ ?_ (fun hHeld => ?_)
                · exact (HX1.out.on F2_base.out).cells
                clear hK K
                try simp only [List.getElem_toArray, List.getElem_cons_succ, List.getElem_cons_zero, Act.put, List.setIfInBounds_toArray, List.set_cons_zero, List.set_cons_succ]
                refine wpAnyH_ready (rs := [2]) (by kernel_rfl) (by simp) ?_
                refine AllReadyH.cons rfl (fun K hK => ?_) ?_
                · refine step_append_anyS rfl (.tmp 30) (.tmp 31) 22 rfl w0.heap.size 36 i0 (.int .u64 0) 1 8 Tryd.underlying22 hi0 hz0 hz1 hz2 rfl (by decide) (.slice (some ⟨w0.heap.size, 0, none⟩) 0 0) 0 [] (by rfl) (lit_rowS F2_lu.out F2_ge_lu.out) (.slice ua xs.length uc) xs.length (xs.map (Value.int .u64)) (by rfl) (by simp) (nums_src ((HU.out.below (HX1.out.on F2_base.out).1).mono (HX1.out.on F2_base.out).1.size) HNN.out) (by intro u hu; obtain ⟨x, _, rfl⟩ := List.mem_map.1 hu; rfl) (by unfold maxLen; omega) (by omega) F2_base.out.size ?_
                  intro vup wy3 ho hg
                  have F3_base := Lib.hid (F2_base.out.grown hg F2_base.out.size (fun k e => by cases e; exact F2_ge_lu.out))
                  have F3_li := Lib.hid (lit_keep hg F2_lu.out F2_li.out (by decide))
                  have F3_ge_li := Lib.hid (G2_li.out)
                  have F3_up := Lib.hid (own0S ho)
                  obtain ⟨aup, cup, rfl⟩ := SS.ownOf F3_up.out
                  clear ho hg
                  refine hK.out _ _ ?_ (fun hHeld => ?_)
                  · exact (HX1.out.on F3_base.out).cells
                  clear hK K
                  try simp only [List.getElem_toArray, List.getElem_cons_succ, List.getElem_cons_zero, Act.put, List.setIfInBounds_toArray, List.set_cons_zero, List.set_cons_succ]
                  refine wpAnyH_ready (rs := [6]) (by kernel_rfl) (by simp) ?_
                  refine AllReadyH.cons rfl (fun K hK => ?_) ?_
                  · refine step_append_anyS rfl (.tmp 34) (.tmp 35) 29 rfl w0.heap.size 3 j0 (.int .i64 0) 1 8 Tryd.underlying29 hj0 hw0 hw1 hw2 rfl (by decide) (.slice (some ⟨wy1.heap.size, 0, none⟩) 0 0) 0 [] (by rfl) (lit_rowS F3_li.out F3_ge_li.out) (.slice ra rest.length rc) rest.length (intsV rest) (by rfl) (by rw [intsV_len]; simp) (by have h := Cells.src (show Cells _ _ _ (intsV rest) from HRW.out.below (HX1.out.on F3_base.out).1); rw [intsV_len] at h; exact h) (GG.oneCell_ints rest) (by unfold maxLen; omega) (by omega) F3_base.out.size ?_
                    intro vai wy4 ho hg
                    have F4_base := Lib.hid (F3_base.out.grown hg F3_base.out.size (fun k e => by cases e; exact F3_ge_li.out))
                    have F4_up := Lib.hid (F3_up.out.kept hg (GG.own_types F3_up.out (lit_rowS (size := 1) F3_li.out F3_ge_li.out) (by decide)))
                    have F4_ai := Lib.hid (own0S ho)
                    obtain ⟨aai, cai, rfl⟩ := SS.ownOf F4_ai.out
                    clear ho hg
                    refine hK.out _ _ ?_ (fun hHeld => ?_)
                    · exact (HX1.out.on F4_base.out).cells
                    clear hK K
                    try simp only [List.getElem_toArray, List.getElem_cons_succ, List.getElem_cons_zero, Act.put, List.setIfInBounds_toArray, List.set_cons_zero, List.set_cons_succ]
                    refine wpAnyH_ready (rs := [8]) (by kernel_rfl) (by simp) ?_
                    refine AllReadyH.cons rfl (fun K hK => ?_) ?_
                    · try simp only [List.getElem_toArray, List.getElem_cons_succ, List.getElem_cons_zero]
                      go_simp
                      (go_at_call 26; refine (HJ.out wy4 (HX1.out.on F4_base.out).1 (nums_of_row F4_up.out) (row_ofS F4_ai.out)).mono ?_; rintro e wy5 ⟨rfl, hb⟩; rw [HLR.out])
                      have F5_base := Lib.hid (F4_base.out.trans (hb.mono F4_base.out.size))
                      have F5_up := Lib.hid (SS.own_of_block F4_up.out (fun k e => hb.block k (F4_up.out.lt k e).2))
                      have F5_ai := Lib.hid (SS.own_of_block F4_ai.out (fun k e => hb.block k (F4_ai.out.lt k e).2))
                      clear hb
                      try go_wp2_with fail
                      refine hK.out _ _ ?_ (fun hHeld => ?_)
                      · exact (HX1.out.on F5_base.out).cells
                      clear hK K
                      try simp only [List.getElem_toArray, List.getElem_cons_succ, List.getElem_cons_zero, Act.put, List.setIfInBounds_toArray, List.set_cons_zero, List.set_cons_succ]
                      refine wpAnyH_take (i := 9) (v := .tuple #[.int .i64 y1, .bool z]) rfl (by kernel_rfl) (by kernel_rfl) (by kernel_rfl) (fun _ _ _ h => h) (Or.inl ⟨by rfl, fun W hSW => ?_⟩) hHeld ?_
                      · ((try dsimp only at hSW); go_split_ands; go_simp <;> with_reducible rfl)
                      try simp only [List.getElem_toArray, List.getElem_cons_succ, List.getElem_cons_zero, Act.put, List.setIfInBounds_toArray, List.set_cons_zero, List.set_cons_succ]
                      refine wpAnyH_take (i := 10) (v := .int .i64 y1) rfl (by kernel_rfl) (by kernel_rfl) (by kernel_rfl) (fun _ _ _ h => h) (Or.inl ⟨by rfl, fun W hSW => ?_⟩) hHeld ?_
                      · ((try dsimp only at hSW); go_split_ands; go_simp <;> with_reducible rfl)
                      try simp only [List.getElem_toArray, List.getElem_cons_succ, List.getElem_cons_zero, Act.put, List.setIfInBounds_toArray, List.set_cons_zero, List.set_cons_succ]
                      refine wpAnyH_take (i := 11) (v := .bool z) rfl (by kernel_rfl) (by kernel_rfl) (by kernel_rfl) (fun _ _ _ h => h) (Or.inl ⟨by rfl, fun W hSW => ?_⟩) hHeld ?_
                      · ((try dsimp only at hSW); go_split_ands; go_simp <;> with_reducible rfl)
                      try simp only [List.getElem_toArray, List.getElem_cons_succ, List.getElem_cons_zero, Act.put, List.setIfInBounds_toArray, List.set_cons_zero, List.set_cons_succ]
                      refine wpAnyH_take (i := 12) (v := .int .i64 y1) rfl (by kernel_rfl) (by kernel_rfl) (by kernel_rfl) (fun _ _ _ h => h) (Or.inl ⟨by rfl, fun W hSW => ?_⟩) hHeld ?_
                      · ((try dsimp only at hSW); go_split_ands; go_simp <;> with_reducible rfl)
                      try simp only [List.getElem_toArray, List.getElem_cons_succ, List.getElem_cons_zero, Act.put, List.setIfInBounds_toArray, List.set_cons_zero, List.set_cons_succ]
                      refine wpAnyH_take (i := 13) (v := .bool z) rfl (by kernel_rfl) (by kernel_rfl) (by kernel_rfl) (fun _ _ _ h => h) (Or.inl ⟨by rfl, fun W hSW => ?_⟩) hHeld ?_
                      · ((try dsimp only at hSW); go_split_ands; go_simp <;> with_reducible rfl)
                      try simp only [List.getElem_toArray, List.getElem_cons_succ, List.getElem_cons_zero, Act.put, List.setIfInBounds_toArray, List.set_cons_zero, List.set_cons_succ]
                      refine wpAnyH_done (by kernel_rfl) ?_ _
                      clear hHeld
                      go_wp2_with fail
                      go_meet
                      case rel => exact ⟨rfl, rfl, rfl, rfl, (HX1.out.on F5_base.out)⟩
                    exact AllReadyH.nil
                  exact AllReadyH.nil
                exact AllReadyH.nil
              exact AllReadyH.nil
            refine AllReadyH.cons rfl (fun K hK => ?_) ?_
            · try simp only [List.getElem_toArray, List.getElem_cons_succ, List.getElem_cons_zero]
              go_simp
              obtain ⟨wy1, ey⟩ : ∃ y, y = w0.alloc (.cells #[] 3) := ⟨_, rfl⟩
              rw [← ey]
              have hb : Below w0.heap.size w0 wy1 := by rw [ey]; exact (Below.refl _ _).alloc (Nat.le_refl _) _
              have F1_base := Lib.hid (HR0.out.trans (hb.mono HR0.out.size))
              have F1_li := Lib.hid (show wy1.heap[w0.heap.size]? = some (.cells #[] 3) by rw [ey]; exact heap_alloc_new _ _)
              have G1_li := Lib.hid (show w0.heap.size ≤ w0.heap.size from HR0.out.size)
              clear ey hb
              refine hK.out _ _ ?_ (fun hHeld => ?_)
              · exact (HX1.out.on F1_base.out).cells
              clear hK K
              try simp only [List.getElem_toArray, List.getElem_cons_succ, List.getElem_cons_zero, Act.put, List.setIfInBounds_toArray, List.set_cons_zero, List.set_cons_succ]
              refine wpAnyH_ready (rs := [0]) (by kernel_rfl) (by simp) ?_
              refine AllReadyH.cons rfl (fun K hK => ?_) ?_
              · try simp only [List.getElem_toArray, List.getElem_cons_succ, List.getElem_cons_zero]
                go_simp
                obtain ⟨wy2, ey⟩ : ∃ y, y = wy1.alloc (.cells #[] 36) := ⟨_, rfl⟩
                rw [← ey]
                have hb : Below wy1.heap.size wy1 wy2 := by rw [ey]; exact (Below.refl _ _).alloc (Nat.le_refl _) _
                have F2_base := Lib.hid (F1_base.out.trans (hb.mono F1_base.out.size))
                have F2_li := Lib.hid ((hb.block _ (Array.getElem?_eq_some_iff.1 F1_li.out).1).trans F1_li.out)
                have F2_ge_li := Lib.hid (G1_li.out)
                have F2_lu := Lib.hid (show wy2.heap[wy1.heap.size]? = some (.cells #[] 36) by rw [ey]; exact heap_alloc_new _ _)
                have G2_lu := Lib.hid (show w0.heap.size ≤ wy1.heap.size from F1_base.out.size)
                clear ey hb
                refine hK.out _ _ ?_ (fun hHeld => ?_)
                · exact (HX1.out.on F2_base.out).cells
                clear hK K
                try simp only [List.getElem_toArray, List.getElem_cons_succ, List.getElem_cons_zero, Act.put, List.setIfInBounds_toArray, List.set_cons_zero, List.set_cons_succ]
                refine wpAnyH_ready (rs := [2]) (by kernel_rfl) (by simp) ?_
                refine AllReadyH.cons rfl (fun K hK => ?_) ?_
                · refine step_append_anyS rfl (.tmp 30) (.tmp 31) 22 rfl w0.heap.size 36 i0 (.int .u64 0) 1 8 Tryd.underlying22 hi0 hz0 hz1 hz2 rfl (by decide) (.slice (some ⟨wy1.heap.size, 0, none⟩) 0 0) 0 [] (by rfl) (lit_rowS F2_lu.out G2_lu.out) (.slice ua xs.length uc) xs.length (xs.map (Value.int .u64)) (by rfl) (by simp) (nums_src ((HU.out.below (HX1.out.on F2_base.out).1).mono (HX1.out.on F2_base.out).1.size) HNN.out) (by intro u hu; obtain ⟨x, _, rfl⟩ := List.mem_map.1 hu; rfl) (by unfold maxLen; omega) (by omega) F2_base.out.size ?_
                  intro vup wy3 ho hg
                  have F3_base := Lib.hid (F2_base.out.grown hg F2_base.out.size (fun k e => by cases e; exact G2_lu.out))
                  have F3_li := Lib.hid (lit_keep hg F2_lu.out F2_li.out (by decide))
                  have F3_ge_li := Lib.hid (F2_ge_li.out)
                  have F3_up := Lib.hid (own0S ho)
                  obtain ⟨aup, cup, rfl⟩ := SS.ownOf F3_up.out
                  clear ho hg
                  refine hK.out _ _ ?_ (fun hHeld => ?_)
                  · exact (HX1.out.on F3_base.out).cells
                  clear hK K
                  try simp only [List.getElem_toArray, List.getElem_cons_succ, List.getElem_cons_zero, Act.put, List.setIfInBounds_toArray, List.set_cons_zero, List.set_cons_succ]
                  refine wpAnyH_ready (rs := [6]) (by kernel_rfl) (by simp) ?_
                  refine AllReadyH.cons rfl (fun K hK => ?_) ?_
                  · refine step_append_anyS rfl (.tmp 34) (.tmp 35) 29 rfl w0.heap.size 3 j0 (.int .i64 0) 1 8 Tryd.underlying29 hj0 hw0 hw1 hw2 rfl (by decide) (.slice (some ⟨w0.heap.size, 0, none⟩) 0 0) 0 [] (by rfl) (lit_rowS F3_li.out F3_ge_li.out) (.slice ra rest.length rc) rest.length (intsV rest) (by rfl) (by rw [intsV_len]; simp) (by have h := Cells.src (show Cells _ _ _ (intsV rest) from HRW.out.below (HX1.out.on F3_base.out).1); rw [intsV_len] at h; exact h) (GG.oneCell_ints rest) (by unfold maxLen; omega) (by omega) F3_base.out.size ?_
                    intro vai wy4 ho hg
                    have F4_base := Lib.hid (F3_base.out.grown hg F3_base.out.size (fun k e => by cases e; exact F3_ge_li.out))
                    have F4_up := Lib.hid (F3_up.out.kept hg (GG.own_types F3_up.out (lit_rowS (size := 1) F3_li.out F3_ge_li.out) (by decide)))
                    have F4_ai := Lib.hid (own0S ho)
                    obtain ⟨aai, cai, rfl⟩ := SS.ownOf F4_ai.out
                    clear ho hg
                    refine hK.out _ _ ?_ (fun hHeld => ?_)
                    · exact (HX1.out.on F4_base.out).cells
                    clear hK K
                    try simp only [List.getElem_toArray, List.getElem_cons_succ, List.getElem_cons_zero, Act.put, List.setIfInBounds_toArray, List.set_cons_zero, List.set_cons_succ]
                    refine wpAnyH_ready (rs := [8]) (by kernel_rfl) (by simp) ?_
                    refine AllReadyH.cons rfl (fun K hK => ?_) ?_
                    · try simp only [List.getElem_toArray, List.getElem_cons_succ, List.getElem_cons_zero]
                      go_simp
                      (go_at_call 26; refine (HJ.out wy4 (HX1.out.on F4_base.out).1 (nums_of_row F4_up.out) (row_ofS F4_ai.out)).mono ?_; rintro e wy5 ⟨rfl, hb⟩; rw [HLR.out])
                      have F5_base := Lib.hid (F4_base.out.trans (hb.mono F4_base.out.size))
                      have F5_up := Lib.hid (SS.own_of_block F4_up.out (fun k e => hb.block k (F4_up.out.lt k e).2))
                      have F5_ai := Lib.hid (SS.own_of_block F4_ai.out (fun k e => hb.block k (F4_ai.out.lt k e).2))
                      clear hb
                      try go_wp2_with fail
                      refine hK.out _ _ ?_ (fun hHeld => ?_)
                      · exact (HX1.out.on F5_base.out).cells
                      clear hK K
                      try simp only [List.getElem_toArray, List.getElem_cons_succ, List.getElem_cons_zero, Act.put, List.setIfInBounds_toArray, List.set_cons_zero, List.set_cons_succ]
                      refine wpAnyH_take (i := 9) (v := .tuple #[.int .i64 y1, .bool z]) rfl (by kernel_rfl) (by kernel_rfl) (by kernel_rfl) (fun _ _ _ h => h) (Or.inl ⟨by rfl, fun W hSW => ?_⟩) hHeld ?_
                      · ((try dsimp only at hSW); go_split_ands; go_simp <;> with_reducible rfl)
                      try simp only [List.getElem_toArray, List.getElem_cons_succ, List.getElem_cons_zero, Act.put, List.setIfInBounds_toArray, List.set_cons_zero, List.set_cons_succ]
                      refine wpAnyH_take (i := 10) (v := .int .i64 y1) rfl (by kernel_rfl) (by kernel_rfl) (by kernel_rfl) (fun _ _ _ h => h) (Or.inl ⟨by rfl, fun W hSW => ?_⟩) hHeld ?_
                      · ((try dsimp only at hSW); go_split_ands; go_simp <;> with_reducible rfl)
                      try simp only [List.getElem_toArray, List.getElem_cons_succ, List.getElem_cons_zero, Act.put, List.setIfInBounds_toArray, List.set_cons_zero, List.set_cons_succ]
                      refine wpAnyH_take (i := 11) (v := .bool z) rfl (by kernel_rfl) (by kernel_rfl) (by kernel_rfl) (fun _ _ _ h => h) (Or.inl ⟨by rfl, fun W hSW => ?_⟩) hHeld ?_
                      · ((try dsimp only at hSW); go_split_ands; go_simp <;> with_reducible rfl)
                      try simp only [List.getElem_toArray, List.getElem_cons_succ, List.getElem_cons_zero, Act.put, List.setIfInBounds_toArray, List.set_cons_zero, List.set_cons_succ]
                      refine wpAnyH_take (i := 12) (v := .int .i64 y1) rfl (by kernel_rfl) (by kernel_rfl) (by kernel_rfl) (fun _ _ _ h => h) (Or.inl ⟨by rfl, fun W hSW => ?_⟩) hHeld ?_
                      · ((try dsimp only at hSW); go_split_ands; go_simp <;> with_reducible rfl)
                      try simp only [List.getElem_toArray, List.getElem_cons_succ, List.getElem_cons_zero, Act.put, List.setIfInBounds_toArray, List.set_cons_zero, List.set_cons_succ]
                      refine wpAnyH_take (i := 13) (v := .bool z) rfl (by kernel_rfl) (by kernel_rfl) (by kernel_rfl) (fun _ _ _ h => h) (Or.inl ⟨by rfl, fun W hSW => ?_⟩) hHeld ?_
                      · ((try dsimp only at hSW); go_split_ands; go_simp <;> with_reducible rfl)
                      try simp only [List.getElem_toArray, List.getElem_cons_succ, List.getElem_cons_zero, Act.put, List.setIfInBounds_toArray, List.set_cons_zero, List.set_cons_succ]
                      refine wpAnyH_done (by kernel_rfl) ?_ _
                      clear hHeld
                      go_wp2_with fail
                      go_meet
                      case rel => exact ⟨rfl, rfl, rfl, rfl, (HX1.out.on F5_base.out)⟩
                    exact AllReadyH.nil
                  exact AllReadyH.nil
                exact AllReadyH.nil
              exact AllReadyH.nil
            exact AllReadyH.nil
          case rest =>
            obtain ⟨rfl, rfl, rfl, rfl, hx9⟩ := hcut
            have HX1 := Lib.hid hx9
            obtain ⟨is0, eis⟩ : ∃ is0, is0 = isL xs a m pc rest := ⟨_, rfl⟩
            have HIS := Lib.hid (eis.trans ((low_is xs a m pc rest).trans HZ.out.symm))
            have b9 : xs.length ≤ 9223372036854775807 := by omega
            obtain ⟨hc0, hc1⟩ := HX1.out.cells
            clear hx9 HX0 HJ HLR
            by_cases h6 : rest.length ≤ 6
            · have i6 : ¬ (rest.length : Int) > 6 := by omega
              have j6 : decide ((rest.length : Int) > 6) = false := decide_eq_false i6
              have k6 : decide ((6 : Int) < rest.length) = false := decide_eq_false i6
              cases hr : LL.rightB xs with
              | false =>
                have HRR := Lib.hid hr
                have hz : z = false := by rw [← HIS.out, eis]; unfold isL; simp [hr]
                have hy := HY.out
                rw [hz] at hy
                simp at hy
                clear HY HZ HIS eis
                subst hz hy
                go_wp2_with (first
                  | (go_at_call 18; refine (rright_any _ xs _ _ ((HU.out.below HX1.out.1).mono HX1.out.1.size) HX.out b9).mono ?_; rintro e w2 ⟨rfl, d, e2⟩; rw [HRR.out]; have hb : Below wc.heap.size wc w2 := by rw [e2]; exact bel_of_dN d
                     clear e2; have HX2 := Lib.hid (HX1.out.on hb); clear hb hc0 hc1; obtain ⟨hc0, hc1⟩ := HX2.out.cells)
                  | (go_at_call 24; refine (rfits_any _ _ _ _ _ _ _ HM.out (by omega)).mono ?_; rintro e w3 ⟨rfl, hb⟩; rw [HFF.out]; have HX3 := Lib.hid (HX2.out.on hb); clear hb hc0 hc1; obtain ⟨hc0, hc1⟩ := HX3.out.cells)
                  | (go_at_call 27; refine (rlevels_any _ _ _ (l := _ :: rest) w3 ((HA.out.below HX3.out.1).mono HX3.out.1.size) (by omega) (by simp; omega)).mono ?_; rintro e w4 ⟨rfl, rfl⟩; rw [HVV.out])
                  | (go_at_call 20; refine (HAW.out _ HX2.out.1).mono ?_; rintro e w9 ⟨rfl, hb⟩; have HF := Lib.hid (HX2.out.on hb); clear hb))
                go_ret
                exact ⟨rfl, HF.out.1⟩
              | true =>
                have HRR := Lib.hid hr
                cases hf : rfitB xs.length a m rest.length with
                | false =>
                  have HFF := Lib.hid hf
                  have hz : z = false := by rw [← HIS.out, eis]; unfold isL; simp [hr, hf]
                  have hy := HY.out
                  rw [hz] at hy
                  simp at hy
                  clear HY HZ HIS eis
                  subst hz hy
                  go_wp2_with (first
                    | (go_at_call 18; refine (rright_any _ xs _ _ ((HU.out.below HX1.out.1).mono HX1.out.1.size) HX.out b9).mono ?_; rintro e w2 ⟨rfl, d, e2⟩; rw [HRR.out]; have hb : Below wc.heap.size wc w2 := by rw [e2]; exact bel_of_dN d
                       clear e2; have HX2 := Lib.hid (HX1.out.on hb); clear hb hc0 hc1; obtain ⟨hc0, hc1⟩ := HX2.out.cells)
                    | (go_at_call 24; refine (rfits_any _ _ _ _ _ _ _ HM.out (by omega)).mono ?_; rintro e w3 ⟨rfl, hb⟩; rw [HFF.out]; have HX3 := Lib.hid (HX2.out.on hb); clear hb hc0 hc1; obtain ⟨hc0, hc1⟩ := HX3.out.cells)
                    | (go_at_call 27; refine (rlevels_any _ _ _ (l := _ :: rest) w3 ((HA.out.below HX3.out.1).mono HX3.out.1.size) (by omega) (by simp; omega)).mono ?_; rintro e w4 ⟨rfl, rfl⟩; rw [HVV.out])
                    | (go_at_call 20; refine (HAW.out _ HX3.out.1).mono ?_; rintro e w9 ⟨rfl, hb⟩; have HF := Lib.hid (HX3.out.on hb); clear hb))
                  go_ret
                  exact ⟨rfl, HF.out.1⟩
                | true =>
                  have HFF := Lib.hid hf
                  cases hv : levB xs.length (pc :: rest) with
                  | false =>
                    have HVV := Lib.hid hv
                    have hz : z = false := by rw [← HIS.out, eis]; unfold isL; simp [hr, hf, hv]
                    have hy := HY.out
                    rw [hz] at hy
                    simp at hy
                    clear HY HZ HIS eis
                    subst hz hy
                    go_wp2_with (first
                      | (go_at_call 18; refine (rright_any _ xs _ _ ((HU.out.below HX1.out.1).mono HX1.out.1.size) HX.out b9).mono ?_; rintro e w2 ⟨rfl, d, e2⟩; rw [HRR.out]; have hb : Below wc.heap.size wc w2 := by rw [e2]; exact bel_of_dN d
                         clear e2; have HX2 := Lib.hid (HX1.out.on hb); clear hb hc0 hc1; obtain ⟨hc0, hc1⟩ := HX2.out.cells)
                      | (go_at_call 24; refine (rfits_any _ _ _ _ _ _ _ HM.out (by omega)).mono ?_; rintro e w3 ⟨rfl, hb⟩; rw [HFF.out]; have HX3 := Lib.hid (HX2.out.on hb); clear hb hc0 hc1; obtain ⟨hc0, hc1⟩ := HX3.out.cells)
                      | (go_at_call 27; refine (rlevels_any _ _ _ (l := _ :: rest) w3 ((HA.out.below HX3.out.1).mono HX3.out.1.size) (by omega) (by simp; omega)).mono ?_; rintro e w4 ⟨rfl, rfl⟩; rw [HVV.out])
                      | (go_at_call 20; refine (HAW.out _ HX3.out.1).mono ?_; rintro e w9 ⟨rfl, hb⟩; have HF := Lib.hid (HX3.out.on hb); clear hb))
                    go_ret
                    exact ⟨rfl, HF.out.1⟩
                  | true =>
                    have HVV := Lib.hid hv
                    have hz : z = true := by rw [← HIS.out, eis]; unfold isL; simp [hr, hf, hv]; omega
                    have hp := putB_iff.1 (HZ.out.symm.trans hz)
                    have HRB := Lib.hid hp.right
                    obtain ⟨al, rfl⟩ := Int.eq_ofNat_of_zero_le hp.lev.1
                    obtain ⟨pl, rfl⟩ := Int.eq_ofNat_of_zero_le hp.place.1
                    have HAX := Lib.hid (show al < xs.length by have := hp.lev.2; omega)
                    have HPX := Lib.hid (show pl < xs.length by have := hp.place.2; simp only at this; omega)
                    have HLV := Lib.hid (show levB xs.length rest = true by have h := hv; unfold levB at h ⊢; simp only [List.all_cons, Bool.and_eq_true] at h; exact h.2)
                    have hy := HY.out
                    rw [hz, putJ_ref hp.n6 hp.fit] at hy
                    have HY1 := Lib.hid (show ((refJ xs al m (lows rest) ((pl : Int), 0)).1 : Int) = y1 from hy.symm)
                    clear HY HZ HIS eis hy hp
                    subst hz
                    have hyy : (y1 == y1) = true := by simp
                    go_wp2_with (first
                      | (go_at_call 18; refine (rright_any _ xs _ _ ((HU.out.below HX1.out.1).mono HX1.out.1.size) HX.out b9).mono ?_; rintro e w2 ⟨rfl, d, e2⟩; rw [HRR.out]; have hb : Below wc.heap.size wc w2 := by rw [e2]; exact bel_of_dN d
                         clear e2; have HX2 := Lib.hid (HX1.out.on hb); clear hb hc0 hc1; obtain ⟨hc0, hc1⟩ := HX2.out.cells)
                      | (go_at_call 24; refine (rfits_any _ _ _ _ _ _ _ HM.out (by omega)).mono ?_; rintro e w3 ⟨rfl, hb⟩; rw [HFF.out]; have HX3 := Lib.hid (HX2.out.on hb); clear hb hc0 hc1; obtain ⟨hc0, hc1⟩ := HX3.out.cells)
                      | (go_at_call 27; refine (rlevels_any _ _ _ (l := _ :: rest) w3 ((HA.out.below HX3.out.1).mono HX3.out.1.size) (by omega) (by simp; omega)).mono ?_; rintro e w4 ⟨rfl, rfl⟩; rw [HVV.out])
                      | (go_at_call 28; refine (rlow_any (a := al) (pc := pl) w3 ((HU.out.below HX3.out.1).mono HX3.out.1.size) HX.out HRB.out ((HRW.out.below HX3.out.1).mono HX3.out.1.size) HLV.out HM.out HAX.out HPX.out (by omega)).mono ?_; rintro e w5 ⟨rfl, hb⟩; rw [HY1.out]; have HX5 := Lib.hid (HX3.out.on hb); clear hb)
                      | (go_at_call 20; refine (HAW.out _ HX5.out.1).mono ?_; rintro e w9 ⟨rfl, hb⟩; have HF := Lib.hid (HX5.out.on hb); clear hb))
                    go_ret
                    exact ⟨rfl, HF.out.1⟩
            · have i6 : (rest.length : Int) > 6 := by omega
              have j6 : decide ((rest.length : Int) > 6) = true := decide_eq_true i6
              have k6 : decide ((6 : Int) < rest.length) = true := decide_eq_true i6
              have hz : z = false := by rw [← HIS.out, eis]; unfold isL; simp [h6]
              have hy := HY.out
              rw [hz] at hy
              simp at hy
              clear HY HZ HIS eis
              subst hz hy
              go_wp2_with (first
                | (go_at_call 18; refine (rright_any _ xs _ _ ((HU.out.below HX1.out.1).mono HX1.out.1.size) HX.out b9).mono ?_; rintro e w2 ⟨rfl, d, e2⟩; rw [HRR.out]; have hb : Below wc.heap.size wc w2 := by rw [e2]; exact bel_of_dN d
                   clear e2; have HX2 := Lib.hid (HX1.out.on hb); clear hb hc0 hc1; obtain ⟨hc0, hc1⟩ := HX2.out.cells)
                | (go_at_call 24; refine (rfits_any _ _ _ _ _ _ _ HM.out (by omega)).mono ?_; rintro e w3 ⟨rfl, hb⟩; rw [HFF.out]; have HX3 := Lib.hid (HX2.out.on hb); clear hb hc0 hc1; obtain ⟨hc0, hc1⟩ := HX3.out.cells)
                | (go_at_call 27; refine (rlevels_any _ _ _ (l := _ :: rest) w3 ((HA.out.below HX3.out.1).mono HX3.out.1.size) (by omega) (by simp; omega)).mono ?_; rintro e w4 ⟨rfl, rfl⟩; rw [HVV.out])
                | (go_at_call 20; refine (HAW.out _ HX1.out.1).mono ?_; rintro e w9 ⟨rfl, hb⟩; have HF := Lib.hid (HX1.out.on hb); clear hb))
              go_ret
              exact ⟨rfl, HF.out.1⟩
theorem symLows_all {uv : Value} {xs : List Int} {a m : Int} {aa : Option Addr} {len cap : Nat} {zs : List Int} (W : World) (h : Nums .u64 W.heap.size W uv xs ∧ Wide xs ∧ xs.length ≤ big5 ∧ ∀ n c, uv = .slice none n c → c = 0) (hT : Tz W) (hm : 0 ≤ m ∧ m ≤ 18446744073709551615) (hz : IsRow .i64 W aa len cap zs) (hs : len ≤ 17592186044416) :
    Calls Tryd.prog 6 #[uv, .agg #[.int .i64 a, .int .u64 m], .slice aa len cap] W fun e V => e = .returned (.bool true) ∧ Below W.heap.size W V := by
  obtain ⟨ua, uc, rfl⟩ := h.1.form
  obtain ⟨h1, h2⟩ := row_of_isRow hz
  have h3 := symLows_walk (aa := aa) (ac := cap) (args := zs.take len) (m := m) (a := a) W h.1 (fun e => h.2.2.2 _ _ (by rw [e])) h.2.1 h.2.2.1 hT (by rw [h2]; exact h1) (by rw [h2]; exact hs) hm
  rw [h2] at h3
  exact h3
end Go.Proofs.YtodhoplchficpaaDoor
