import Derived.Test.YtodhoplchficpaaDoorSymQ
import Derived.Test.YtodhoplchficpaaDoorLawSymJoins
import Derived.Test.YtodhoplchficpaaDoorOpenC
set_option linter.unusedSimpArgs false
set_option linter.unusedVariables false
/-! SymPuts, walked -/
namespace Go.Proofs.YtodhoplchficpaaDoor
open Go.RowKit
open SV (Lab SysOk Least labs sumOf mu sumP at' natsL askT askI fanN lok ljoin val le Bnd)
/-- a call in its box -/
def CallB (W : World) (uv av : Value) (a m p1 p2 : Int) (V : World) : Prop := Below W.heap.size W V ∧ W.heap.size + 1 ≤ V.heap.size ∧ V.heap[W.heap.size]? = some (.cells #[uv, .int .i64 a, .int .u64 m, av, .int .i64 p1, .int .u64 p2] 46)
theorem CallB.on {W U V : World} {uv av : Value} {a m p1 p2 : Int} (h : CallB W uv av a m p1 p2 U) (hb : Below U.heap.size U V) : CallB W uv av a m p1 p2 V :=
  ⟨h.1.trans (hb.mono h.1.size), Nat.le_trans h.2.1 hb.size, (hb.block _ (by have := h.2.1; omega)).trans h.2.2⟩
theorem CallB.drew {W U : World} {uv av : Value} {a m p1 p2 : Int} (h : CallB W uv av a m p1 p2 U) : CallB W uv av a m p1 p2 U.drew := ⟨h.1.drew, h.2.1, h.2.2⟩
theorem CallB.cells {W V : World} {uv av : Value} {a m p1 p2 : Int} (h : CallB W uv av a m p1 p2 V) : V.cell? ⟨W.heap.size, 0, none⟩ = some uv ∧ V.cell? ⟨W.heap.size, 1, none⟩ = some (.int .i64 a) ∧ V.cell? ⟨W.heap.size, 2, none⟩ = some (.int .u64 m) ∧ V.cell? ⟨W.heap.size, 3, none⟩ = some av ∧ V.cell? ⟨W.heap.size, 4, none⟩ = some (.int .i64 p1) ∧ V.cell? ⟨W.heap.size, 5, none⟩ = some (.int .u64 p2) :=
  ⟨cell_of_row _ _ 0 _ _ _ h.2.2, cell_of_row _ _ 1 _ _ _ h.2.2, cell_of_row _ _ 2 _ _ _ h.2.2, cell_of_row _ _ 3 _ _ _ h.2.2, cell_of_row _ _ 4 _ _ _ h.2.2, cell_of_row _ _ 5 _ _ _ h.2.2⟩
theorem callB_start (W : World) (uv av : Value) (a m p1 p2 : Int) : CallB W uv av a m p1 p2 (W.alloc (.cells #[uv, .int .i64 a, .int .u64 m, av, .int .i64 p1, .int .u64 p2] 46)) :=
  ⟨(Below.refl _ _).alloc (Nat.le_refl _) _, by simp, heap_alloc_new _ _⟩
def isB (xs : List Int) (a m : Int) (n : Nat) (pc : Int × Int) : Bool := decide (n ≤ 6) && (LL.rightB xs && (rfitB xs.length a m n && labOk xs.length pc))
theorem put_is (xs : List Int) (a m : Int) (args : List (Int × Int)) (pc : Int × Int) : (isB xs a m args.length pc && args.all (labOk xs.length)) = putB xs a m args pc := by
  unfold isB putB fitB rfitB putAll
  simp only [List.all_cons]
  have e : labOk xs.length (a, 0) = labOk xs.length (a, m) := rfl
  rw [e]
  cases decide (args.length ≤ 6) <;> cases LL.rightB xs <;> cases labOk xs.length (a, m) <;> cases bitsIn m args.length <;> cases labOk xs.length pc <;> cases args.all (labOk xs.length) <;> rfl
theorem all_take {n : Nat} {l : List (Int × Int)} {i : Nat} (hi : i < l.length) : (l.take (i + 1)).all (labOk n) = ((l.take i).all (labOk n) && labOk n (l[i]?.getD s0)) := by
  rw [List.take_succ_eq_append_getElem hi, List.all_append, List.getElem?_eq_getElem hi]
  simp
set_option maxRecDepth 100000 in
set_option maxHeartbeats 12800000 in
theorem symPuts_walk {ua aa : Option Addr} {uc ac : Nat} {xs : List Int} {a m p1 p2 : Int} {args : List (Int × Int)} (W : World) (hu : Nums .u64 W.heap.size W (.slice ua xs.length uc) xs) (hun : ua = none → uc = 0) (hx : Wide xs) (hxl : xs.length ≤ big5) (hT : Tz W) (hav : LabRow W.heap.size W (.slice aa args.length ac) args) (hwa : WideL args) (hal : args.length ≤ 17592186044416) (hm : 0 ≤ m ∧ m ≤ 18446744073709551615) (hpm : 0 ≤ p2 ∧ p2 ≤ 18446744073709551615) :
    Calls Tryd.prog 5 #[.agg #[.slice ua xs.length uc, .int .i64 a, .int .u64 m, .slice aa args.length ac, .int .i64 p1, .int .u64 p2]] W fun e V => e = .returned (.bool true) ∧ Below W.heap.size W V := by
  obtain ⟨i0, hi0, hz0, hz1, hz2⟩ := info_parts Tryd.infoU64
  obtain ⟨j0, hj0, hw0, hw1, hw2⟩ := info_parts infoLab
  have HU := Lib.hid hu
  have HNN := Lib.hid hun
  have HX := Lib.hid hx
  have HA := Lib.hid hav
  have HWA := Lib.hid hwa
  have HM := Lib.hid hm
  have HPM := Lib.hid hpm
  have HAW := Lib.hid (fun w (hb : Below W.heap.size W w) => awake19_any w (hT.on hb))
  have HJ := Lib.hid (fun w (hb : Below W.heap.size W w) {v lv : Value} (hv : Nums .u64 w.heap.size w v xs) (hl : LabRow w.heap.size w lv args) => sput_any (a := a) (m := m) (pc := (p1, p2)) w hv hx hxl (hT.on hb) hl hwa hm hpm hal)
  have b0 : (xs.length : Int) ≤ 17592186044416 := by have := hxl; unfold big5 at this; omega
  have b1 : (args.length : Int) ≤ 17592186044416 := by omega
  obtain ⟨z, ez⟩ : ∃ z, z = putB xs a m args (p1, p2) := ⟨_, rfl⟩
  obtain ⟨y1, ey1⟩ : ∃ y1 : Int, y1 = if z = true then ((putJ xs a m args (p1, p2)).1 : Int) else 0 := ⟨_, rfl⟩
  obtain ⟨y2, ey2⟩ : ∃ y2 : Int, y2 = if z = true then (putJ xs a m args (p1, p2)).2 else 0 := ⟨_, rfl⟩
  have HJR := Lib.hid (show jRet (putB xs a m args (p1, p2)) (putJ xs a m args (p1, p2)) = .tuple #[.agg #[.int .i64 y1, .int .u64 y2], .bool z] by unfold jRet; rw [ey1, ey2, ez])
  have HZ := Lib.hid ez
  have HY := Lib.hid (And.intro ey1 ey2)
  have HS0 := Lib.hid (callB_start W (.slice ua xs.length uc) (.slice aa args.length ac) a m p1 p2)
  obtain ⟨W0, eW0⟩ : ∃ W0, W0 = W.alloc (.cells #[.slice ua xs.length uc, .int .i64 a, .int .u64 m, .slice aa args.length ac, .int .i64 p1, .int .u64 p2] 46) := ⟨_, rfl⟩
  rw [← eW0] at HS0
  obtain ⟨hc0, hc1, hc2, hc3, hc4, hc5⟩ := HS0.out.cells
  clear hu hun hx hxl hT hav hwa hal hm hpm ez ey1 ey2
  by_cases h20 : (20 : Int) < xs.length
  · have j20 : decide ((xs.length : Int) > 20) = true := decide_eq_true h20
    have k20 : decide ((20 : Int) < xs.length) = true := decide_eq_true h20
    go_enter Tryd.func5, Tryd.ntmps5
    go_upto_region 1 with fail
    rw [← eW0]
    clear eW0
    go_wp2_with fail
    go_ret
    exact ⟨rfl, HS0.out.1⟩
  · have j20 : decide ((xs.length : Int) > 20) = false := decide_eq_false h20
    have k20 : decide ((20 : Int) < xs.length) = false := decide_eq_false h20
    by_cases h10 : (10 : Int) < args.length
    · have j10 : decide ((args.length : Int) > 10) = true := decide_eq_true h10
      have k10 : decide ((10 : Int) < args.length) = true := decide_eq_true h10
      go_enter Tryd.func5, Tryd.ntmps5
      go_upto_region 1 with fail
      rw [← eW0]
      clear eW0
      go_wp2_with fail
      go_ret
      exact ⟨rfl, HS0.out.1⟩
    · have j10 : decide ((args.length : Int) > 10) = false := decide_eq_false h10
      have k10 : decide ((10 : Int) < args.length) = false := decide_eq_false h10
      have i20 : (xs.length : Int) ≤ 20 := by omega
      have i10 : (args.length : Int) ≤ 10 := by omega
      go_enter Tryd.func5, Tryd.ntmps5
      go_upto_region 1 with fail
      rw [← eW0]
      clear eW0
      go_upto_region 3 with fail
      clear j20 k20 j10 k10 h20 h10
      go_cut [3, 4] from 17 (fun s3 s4 w9 => ∃ lb : Nat, s3 = .pointer (some ⟨lb, 0, none⟩) ∧ s4 = .bool z ∧ CallB W (.slice ua xs.length uc) (.slice aa args.length ac) a m p1 p2 w9 ∧ w9.heap[lb]? = some (.cells #[.int .i64 y1, .int .u64 y2] 38) ∧ W.heap.size + 1 ≤ lb)
      case first =>
        have HX0 := Lib.hid HS0.out.drew
        refine wp_region_held_drew (S := (fun V => V.cell? ⟨W.heap.size, 0, none⟩ = some (.slice ua xs.length uc) ∧ V.cell? ⟨W.heap.size, 1, none⟩ = some (.int .i64 a) ∧ V.cell? ⟨W.heap.size, 2, none⟩ = some (.int .u64 m) ∧ V.cell? ⟨W.heap.size, 3, none⟩ = some (.slice aa args.length ac) ∧ V.cell? ⟨W.heap.size, 4, none⟩ = some (.int .i64 p1) ∧ V.cell? ⟨W.heap.size, 5, none⟩ = some (.int .u64 p2))) (by kernel_rfl) ?_ (fun hHeld => ?_)
        · exact HX0.out.cells
        clear hc0 hc1 hc2 hc3 hc4 hc5
        generalize W0.drew = w0 at HX0 hHeld ⊢
        have HR0 := Lib.hid (Below.refl w0.heap.size w0)
        refine wpAnyH_take (i := 1) (v := .pointer (some ⟨W.heap.size, 0, none⟩)) rfl (by kernel_rfl) (by kernel_rfl) (by kernel_rfl) (fun _ _ _ h => h) (Or.inl ⟨by rfl, fun W hSW => ?_⟩) hHeld ?_
        · ((try dsimp only at hSW); go_split_ands; go_simp <;> with_reducible rfl)
        try simp only [List.getElem_toArray, List.getElem_cons_succ, List.getElem_cons_zero, Act.put, List.setIfInBounds_toArray, List.set_cons_zero, List.set_cons_succ]
        refine wpAnyH_take (i := 2) (v := .slice ua xs.length uc) rfl (by kernel_rfl) (by kernel_rfl) (by kernel_rfl) (fun _ _ _ h => h) (Or.inl ⟨by rfl, fun W hSW => ?_⟩) hHeld ?_
        · ((try dsimp only at hSW); go_split_ands; go_simp <;> with_reducible rfl)
        try simp only [List.getElem_toArray, List.getElem_cons_succ, List.getElem_cons_zero, Act.put, List.setIfInBounds_toArray, List.set_cons_zero, List.set_cons_succ]
        refine wpAnyH_take (i := 4) (v := .pointer (some ⟨W.heap.size, 1, none⟩)) rfl (by kernel_rfl) (by kernel_rfl) (by kernel_rfl) (fun _ _ _ h => h) (Or.inl ⟨by rfl, fun W hSW => ?_⟩) hHeld ?_
        · ((try dsimp only at hSW); go_split_ands; go_simp <;> with_reducible rfl)
        try simp only [List.getElem_toArray, List.getElem_cons_succ, List.getElem_cons_zero, Act.put, List.setIfInBounds_toArray, List.set_cons_zero, List.set_cons_succ]
        refine wpAnyH_take (i := 5) (v := .agg #[.int .i64 a, .int .u64 m]) rfl (by kernel_rfl) (by kernel_rfl) (by kernel_rfl) (fun _ _ _ h => h) (Or.inl ⟨by rfl, fun W hSW => ?_⟩) hHeld ?_
        · ((try dsimp only at hSW); go_split_ands; go_simp <;> with_reducible rfl)
        try simp only [List.getElem_toArray, List.getElem_cons_succ, List.getElem_cons_zero, Act.put, List.setIfInBounds_toArray, List.set_cons_zero, List.set_cons_succ]
        refine wpAnyH_take (i := 7) (v := .pointer (some ⟨W.heap.size, 3, none⟩)) rfl (by kernel_rfl) (by kernel_rfl) (by kernel_rfl) (fun _ _ _ h => h) (Or.inl ⟨by rfl, fun W hSW => ?_⟩) hHeld ?_
        · ((try dsimp only at hSW); go_split_ands; go_simp <;> with_reducible rfl)
        try simp only [List.getElem_toArray, List.getElem_cons_succ, List.getElem_cons_zero, Act.put, List.setIfInBounds_toArray, List.set_cons_zero, List.set_cons_succ]
        refine wpAnyH_take (i := 8) (v := .slice aa args.length ac) rfl (by kernel_rfl) (by kernel_rfl) (by kernel_rfl) (fun _ _ _ h => h) (Or.inl ⟨by rfl, fun W hSW => ?_⟩) hHeld ?_
        · ((try dsimp only at hSW); go_split_ands; go_simp <;> with_reducible rfl)
        try simp only [List.getElem_toArray, List.getElem_cons_succ, List.getElem_cons_zero, Act.put, List.setIfInBounds_toArray, List.set_cons_zero, List.set_cons_succ]
        refine wpAnyH_take (i := 10) (v := .pointer (some ⟨W.heap.size, 4, none⟩)) rfl (by kernel_rfl) (by kernel_rfl) (by kernel_rfl) (fun _ _ _ h => h) (Or.inl ⟨by rfl, fun W hSW => ?_⟩) hHeld ?_
        · ((try dsimp only at hSW); go_split_ands; go_simp <;> with_reducible rfl)
        try simp only [List.getElem_toArray, List.getElem_cons_succ, List.getElem_cons_zero, Act.put, List.setIfInBounds_toArray, List.set_cons_zero, List.set_cons_succ]
        refine wpAnyH_take (i := 11) (v := .agg #[.int .i64 p1, .int .u64 p2]) rfl (by kernel_rfl) (by kernel_rfl) (by kernel_rfl) (fun _ _ _ h => h) (Or.inl ⟨by rfl, fun W hSW => ?_⟩) hHeld ?_
        · ((try dsimp only at hSW); go_split_ands; go_simp <;> with_reducible rfl)
        try simp only [List.getElem_toArray, List.getElem_cons_succ, List.getElem_cons_zero, Act.put, List.setIfInBounds_toArray, List.set_cons_zero, List.set_cons_succ]
        refine wpAnyH_ready (rs := [0, 6, 16]) (by kernel_rfl) (by simp) ?_
        refine AllReadyH.cons rfl (fun K hK => ?_) ?_
        · try simp only [List.getElem_toArray, List.getElem_cons_succ, List.getElem_cons_zero]
          go_simp
          obtain ⟨wy1, ey⟩ : ∃ y, y = w0.alloc (.cells #[] 36) := ⟨_, rfl⟩
          rw [← ey]
          have hb : Below w0.heap.size w0 wy1 := by rw [ey]; exact (Below.refl _ _).alloc (Nat.le_refl _) _
          have F1_base := Lib.hid (HR0.out.trans (hb.mono HR0.out.size))
          have F1_lu := Lib.hid (show wy1.heap[w0.heap.size]? = some (.cells #[] 36) by rw [ey]; exact heap_alloc_new _ _)
          have G1_lu := Lib.hid (show w0.heap.size ≤ w0.heap.size from HR0.out.size)
          clear ey hb
          refine hK.out _ _ ?_ (fun hHeld => ?_)
          · exact (HX0.out.on F1_base.out).cells
          clear hK K
          try simp only [List.getElem_toArray, List.getElem_cons_succ, List.getElem_cons_zero, Act.put, List.setIfInBounds_toArray, List.set_cons_zero, List.set_cons_succ]
          refine wpAnyH_ready (rs := [3, 6, 16]) (by kernel_rfl) (by simp) ?_
          refine AllReadyH.cons rfl (fun K hK => ?_) ?_
          · refine step_append_anyS rfl (.tmp 18) (.tmp 20) 22 rfl w0.heap.size 36 i0 (.int .u64 0) 1 8 Tryd.underlying22 hi0 hz0 hz1 hz2 rfl (by decide) (.slice (some ⟨w0.heap.size, 0, none⟩) 0 0) 0 [] (by rfl) (lit_rowS F1_lu.out G1_lu.out) (.slice ua xs.length uc) xs.length (xs.map (Value.int .u64)) (by rfl) (by simp) (nums_src ((HU.out.below (HX0.out.on F1_base.out).1).mono (HX0.out.on F1_base.out).1.size) HNN.out) (by intro u hu; obtain ⟨x, _, rfl⟩ := List.mem_map.1 hu; rfl) (by unfold maxLen; omega) (by omega) F1_base.out.size ?_
            intro vup wy2 ho hg
            have F2_base := Lib.hid (F1_base.out.grown hg F1_base.out.size (fun k e => by cases e; exact G1_lu.out))
            have F2_up := Lib.hid (own0S ho)
            obtain ⟨aup, cup, rfl⟩ := SS.ownOf F2_up.out
            clear ho hg
            refine hK.out _ _ ?_ (fun hHeld => ?_)
            · exact (HX0.out.on F2_base.out).cells
            clear hK K
            try simp only [List.getElem_toArray, List.getElem_cons_succ, List.getElem_cons_zero, Act.put, List.setIfInBounds_toArray, List.set_cons_zero, List.set_cons_succ]
            refine wpAnyH_ready (rs := [6, 16]) (by kernel_rfl) (by simp) ?_
            refine AllReadyH.cons rfl (fun K hK => ?_) ?_
            · try simp only [List.getElem_toArray, List.getElem_cons_succ, List.getElem_cons_zero]
              go_simp
              obtain ⟨wy3, ey⟩ : ∃ y, y = wy2.alloc (.cells #[] 38) := ⟨_, rfl⟩
              rw [← ey]
              have hb : Below wy2.heap.size wy2 wy3 := by rw [ey]; exact (Below.refl _ _).alloc (Nat.le_refl _) _
              have F3_base := Lib.hid (F2_base.out.trans (hb.mono F2_base.out.size))
              have F3_up := Lib.hid (SS.own_of_block F2_up.out (fun k e => hb.block k (F2_up.out.lt k e).2))
              have F3_ll := Lib.hid (show wy3.heap[wy2.heap.size]? = some (.cells #[] 38) by rw [ey]; exact heap_alloc_new _ _)
              have G3_ll := Lib.hid (show w0.heap.size ≤ wy2.heap.size from F2_base.out.size)
              clear ey hb
              refine hK.out _ _ ?_ (fun hHeld => ?_)
              · exact (HX0.out.on F3_base.out).cells
              clear hK K
              try simp only [List.getElem_toArray, List.getElem_cons_succ, List.getElem_cons_zero, Act.put, List.setIfInBounds_toArray, List.set_cons_zero, List.set_cons_succ]
              refine wpAnyH_ready (rs := [9, 16]) (by kernel_rfl) (by simp) ?_
              refine AllReadyH.cons rfl (fun K hK => ?_) ?_
              · refine step_append_anyS rfl (.tmp 24) (.tmp 26) 23 rfl w0.heap.size 38 j0 (.agg #[.int .i64 0, .int .u64 0]) 2 16 Tryd.underlying23 hj0 hw0 hw1 hw2 rfl (by decide) (.slice (some ⟨wy2.heap.size, 0, none⟩) 0 0) 0 [] (by rfl) (lit_rowS F3_ll.out G3_ll.out) (.slice aa args.length ac) args.length (labV args) (by rfl) (labV_len args) ((HA.out.below (HX0.out.on F3_base.out).1).src) (labV_one args) (by unfold maxLen; omega) (by omega) F3_base.out.size ?_
                intro val wy4 ho hg
                have F4_base := Lib.hid (F3_base.out.grown hg F3_base.out.size (fun k e => by cases e; exact G3_ll.out))
                have F4_up := Lib.hid (F3_up.out.kept hg (GG.own_types F3_up.out (lit_rowS (size := 2) F3_ll.out G3_ll.out) (by decide)))
                have F4_al := Lib.hid (own0S ho)
                obtain ⟨aal, cal, rfl⟩ := SS.ownOf F4_al.out
                clear ho hg
                refine hK.out _ _ ?_ (fun hHeld => ?_)
                · exact (HX0.out.on F4_base.out).cells
                clear hK K
                try simp only [List.getElem_toArray, List.getElem_cons_succ, List.getElem_cons_zero, Act.put, List.setIfInBounds_toArray, List.set_cons_zero, List.set_cons_succ]
                refine wpAnyH_ready (rs := [12, 16]) (by kernel_rfl) (by simp) ?_
                refine AllReadyH.cons rfl (fun K hK => ?_) ?_
                · try simp only [List.getElem_toArray, List.getElem_cons_succ, List.getElem_cons_zero]
                  go_simp
                  (go_at_call 23; refine (HJ.out wy4 (HX0.out.on F4_base.out).1 (nums_of_row F4_up.out) (lab_ownV F4_al.out)).mono ?_; rintro e wy5 ⟨rfl, hb⟩; rw [HJR.out])
                  have F5_base := Lib.hid (F4_base.out.trans (hb.mono F4_base.out.size))
                  have F5_up := Lib.hid (SS.own_of_block F4_up.out (fun k e => hb.block k (F4_up.out.lt k e).2))
                  have F5_al := Lib.hid (SS.own_of_block F4_al.out (fun k e => hb.block k (F4_al.out.lt k e).2))
                  clear hb
                  try go_wp2_with fail
                  refine hK.out _ _ ?_ (fun hHeld => ?_)
                  · exact (HX0.out.on F5_base.out).cells
                  clear hK K
                  try simp only [List.getElem_toArray, List.getElem_cons_succ, List.getElem_cons_zero, Act.put, List.setIfInBounds_toArray, List.set_cons_zero, List.set_cons_succ]
                  refine wpAnyH_take (i := 13) (v := .tuple #[.agg #[.int .i64 y1, .int .u64 y2], .bool z]) rfl (by kernel_rfl) (by kernel_rfl) (by kernel_rfl) (fun _ _ _ h => h) (Or.inl ⟨by rfl, fun W hSW => ?_⟩) hHeld ?_
                  · ((try dsimp only at hSW); go_split_ands; go_simp <;> with_reducible rfl)
                  try simp only [List.getElem_toArray, List.getElem_cons_succ, List.getElem_cons_zero, Act.put, List.setIfInBounds_toArray, List.set_cons_zero, List.set_cons_succ]
                  refine wpAnyH_take (i := 14) (v := .agg #[.int .i64 y1, .int .u64 y2]) rfl (by kernel_rfl) (by kernel_rfl) (by kernel_rfl) (fun _ _ _ h => h) (Or.inl ⟨by rfl, fun W hSW => ?_⟩) hHeld ?_
                  · ((try dsimp only at hSW); go_split_ands; go_simp <;> with_reducible rfl)
                  try simp only [List.getElem_toArray, List.getElem_cons_succ, List.getElem_cons_zero, Act.put, List.setIfInBounds_toArray, List.set_cons_zero, List.set_cons_succ]
                  refine wpAnyH_take (i := 15) (v := .bool z) rfl (by kernel_rfl) (by kernel_rfl) (by kernel_rfl) (fun _ _ _ h => h) (Or.inl ⟨by rfl, fun W hSW => ?_⟩) hHeld ?_
                  · ((try dsimp only at hSW); go_split_ands; go_simp <;> with_reducible rfl)
                  try simp only [List.getElem_toArray, List.getElem_cons_succ, List.getElem_cons_zero, Act.put, List.setIfInBounds_toArray, List.set_cons_zero, List.set_cons_succ]
                  refine wpAnyH_ready (rs := [16]) (by kernel_rfl) (by simp) ?_
                  refine AllReadyH.cons rfl (fun K hK => ?_) ?_
                  · try simp only [List.getElem_toArray, List.getElem_cons_succ, List.getElem_cons_zero]
                    go_simp
                    obtain ⟨wy6, ey⟩ : ∃ y, y = wy5.alloc (.cells #[.int .i64 0, .int .u64 0] 38) := ⟨_, rfl⟩
                    rw [← ey]
                    have hb : Below wy5.heap.size wy5 wy6 := by rw [ey]; exact (Below.refl _ _).alloc (Nat.le_refl _) _
                    have F6_base := Lib.hid (F5_base.out.trans (hb.mono F5_base.out.size))
                    have F6_up := Lib.hid (SS.own_of_block F5_up.out (fun k e => hb.block k (F5_up.out.lt k e).2))
                    have F6_al := Lib.hid (SS.own_of_block F5_al.out (fun k e => hb.block k (F5_al.out.lt k e).2))
                    have F6_lab := Lib.hid (show wy6.heap[wy5.heap.size]? = some (.cells #[.int .i64 0, .int .u64 0] 38) by rw [ey]; exact heap_alloc_new _ _)
                    have G6_lab := Lib.hid (show w0.heap.size ≤ wy5.heap.size from F5_base.out.size)
                    clear ey hb
                    refine hK.out _ _ ?_ (fun hHeld => ?_)
                    · exact (HX0.out.on F6_base.out).cells
                    clear hK K
                    try simp only [List.getElem_toArray, List.getElem_cons_succ, List.getElem_cons_zero, Act.put, List.setIfInBounds_toArray, List.set_cons_zero, List.set_cons_succ]
                    refine wpAnyH_ready (rs := [17]) (by kernel_rfl) (by simp) ?_
                    refine AllReadyH.cons rfl (fun K hK => ?_) ?_
                    · obtain ⟨s0, s1, s2, s3⟩ := one_lab F6_lab.out
                      try simp only [List.getElem_toArray, List.getElem_cons_succ, List.getElem_cons_zero]
                      go_simp
                      have hs := (put_lab F6_lab.out (y1) (y2)).1
                      have hbs := (F6_base.out.setCell (p := ⟨wy5.heap.size, 0, none⟩) G6_lab.out (.int .i64 (y1))).setCell (p := ⟨wy5.heap.size, 1, none⟩) G6_lab.out (.int .u64 (y2))
                      generalize (wy6.setCell ⟨wy5.heap.size, 0, none⟩ (.int .i64 (y1))).setCell ⟨wy5.heap.size, 1, none⟩ (.int .u64 (y2)) = wy7 at hs hbs ⊢
                      have F7_base := Lib.hid hbs
                      have F7_lab := Lib.hid hs
                      clear hs hbs s0 s1 s2 s3
                      refine hK.out _ _ ?_ (fun hHeld => ?_)
                      · exact (HX0.out.on F7_base.out).cells
                      clear hK K
                      try simp only [List.getElem_toArray, List.getElem_cons_succ, List.getElem_cons_zero, Act.put, List.setIfInBounds_toArray, List.set_cons_zero, List.set_cons_succ]
                      refine wpAnyH_take (i := 18) (v := .bool z) rfl (by kernel_rfl) (by kernel_rfl) (by kernel_rfl) (fun _ _ _ h => h) (Or.inl ⟨by rfl, fun W hSW => ?_⟩) hHeld ?_
                      · ((try dsimp only at hSW); go_split_ands; go_simp <;> with_reducible rfl)
                      try simp only [List.getElem_toArray, List.getElem_cons_succ, List.getElem_cons_zero, Act.put, List.setIfInBounds_toArray, List.set_cons_zero, List.set_cons_succ]
                      refine wpAnyH_done (by kernel_rfl) ?_ _
                      clear hHeld
                      go_wp2_with fail
                      go_meet
                      case rel => exact ⟨_, rfl, rfl, (HX0.out.on F7_base.out), F7_lab.out, Nat.le_trans HX0.out.2.1 G6_lab.out⟩
                    exact AllReadyH.nil
                  exact AllReadyH.nil
                refine AllReadyH.cons rfl (fun K hK => ?_) ?_
                · try simp only [List.getElem_toArray, List.getElem_cons_succ, List.getElem_cons_zero]
                  go_simp
                  obtain ⟨wy5, ey⟩ : ∃ y, y = wy4.alloc (.cells #[.int .i64 0, .int .u64 0] 38) := ⟨_, rfl⟩
                  rw [← ey]
                  have hb : Below wy4.heap.size wy4 wy5 := by rw [ey]; exact (Below.refl _ _).alloc (Nat.le_refl _) _
                  have F5_base := Lib.hid (F4_base.out.trans (hb.mono F4_base.out.size))
                  have F5_up := Lib.hid (SS.own_of_block F4_up.out (fun k e => hb.block k (F4_up.out.lt k e).2))
                  have F5_al := Lib.hid (SS.own_of_block F4_al.out (fun k e => hb.block k (F4_al.out.lt k e).2))
                  have F5_lab := Lib.hid (show wy5.heap[wy4.heap.size]? = some (.cells #[.int .i64 0, .int .u64 0] 38) by rw [ey]; exact heap_alloc_new _ _)
                  have G5_lab := Lib.hid (show w0.heap.size ≤ wy4.heap.size from F4_base.out.size)
                  clear ey hb
                  refine hK.out _ _ ?_ (fun hHeld => ?_)
                  · exact (HX0.out.on F5_base.out).cells
                  clear hK K
                  try simp only [List.getElem_toArray, List.getElem_cons_succ, List.getElem_cons_zero, Act.put, List.setIfInBounds_toArray, List.set_cons_zero, List.set_cons_succ]
                  refine wpAnyH_ready (rs := [12]) (by kernel_rfl) (by simp) ?_
                  refine AllReadyH.cons rfl (fun K hK => ?_) ?_
                  · try simp only [List.getElem_toArray, List.getElem_cons_succ, List.getElem_cons_zero]
                    go_simp
                    (go_at_call 23; refine (HJ.out wy5 (HX0.out.on F5_base.out).1 (nums_of_row F5_up.out) (lab_ownV F5_al.out)).mono ?_; rintro e wy6 ⟨rfl, hb⟩; rw [HJR.out])
                    have F6_base := Lib.hid (F5_base.out.trans (hb.mono F5_base.out.size))
                    have F6_up := Lib.hid (SS.own_of_block F5_up.out (fun k e => hb.block k (F5_up.out.lt k e).2))
                    have F6_al := Lib.hid (SS.own_of_block F5_al.out (fun k e => hb.block k (F5_al.out.lt k e).2))
                    have F6_lab := Lib.hid ((hb.block _ (Array.getElem?_eq_some_iff.1 F5_lab.out).1).trans F5_lab.out)
                    have F6_ge_lab := Lib.hid (G5_lab.out)
                    clear hb
                    try go_wp2_with fail
                    refine hK.out _ _ ?_ (fun hHeld => ?_)
                    · exact (HX0.out.on F6_base.out).cells
                    clear hK K
                    try simp only [List.getElem_toArray, List.getElem_cons_succ, List.getElem_cons_zero, Act.put, List.setIfInBounds_toArray, List.set_cons_zero, List.set_cons_succ]
                    refine wpAnyH_take (i := 13) (v := .tuple #[.agg #[.int .i64 y1, .int .u64 y2], .bool z]) rfl (by kernel_rfl) (by kernel_rfl) (by kernel_rfl) (fun _ _ _ h => h) (Or.inl ⟨by rfl, fun W hSW => ?_⟩) hHeld ?_
                    · ((try dsimp only at hSW); go_split_ands; go_simp <;> with_reducible rfl)
                    try simp only [List.getElem_toArray, List.getElem_cons_succ, List.getElem_cons_zero, Act.put, List.setIfInBounds_toArray, List.set_cons_zero, List.set_cons_succ]
                    refine wpAnyH_take (i := 14) (v := .agg #[.int .i64 y1, .int .u64 y2]) rfl (by kernel_rfl) (by kernel_rfl) (by kernel_rfl) (fun _ _ _ h => h) (Or.inl ⟨by rfl, fun W hSW => ?_⟩) hHeld ?_
                    · ((try dsimp only at hSW); go_split_ands; go_simp <;> with_reducible rfl)
                    try simp only [List.getElem_toArray, List.getElem_cons_succ, List.getElem_cons_zero, Act.put, List.setIfInBounds_toArray, List.set_cons_zero, List.set_cons_succ]
                    refine wpAnyH_take (i := 15) (v := .bool z) rfl (by kernel_rfl) (by kernel_rfl) (by kernel_rfl) (fun _ _ _ h => h) (Or.inl ⟨by rfl, fun W hSW => ?_⟩) hHeld ?_
                    · ((try dsimp only at hSW); go_split_ands; go_simp <;> with_reducible rfl)
                    try simp only [List.getElem_toArray, List.getElem_cons_succ, List.getElem_cons_zero, Act.put, List.setIfInBounds_toArray, List.set_cons_zero, List.set_cons_succ]
                    refine wpAnyH_ready (rs := [17]) (by kernel_rfl) (by simp) ?_
                    refine AllReadyH.cons rfl (fun K hK => ?_) ?_
                    · obtain ⟨s0, s1, s2, s3⟩ := one_lab F6_lab.out
                      try simp only [List.getElem_toArray, List.getElem_cons_succ, List.getElem_cons_zero]
                      go_simp
                      have hs := (put_lab F6_lab.out (y1) (y2)).1
                      have hbs := (F6_base.out.setCell (p := ⟨wy4.heap.size, 0, none⟩) F6_ge_lab.out (.int .i64 (y1))).setCell (p := ⟨wy4.heap.size, 1, none⟩) F6_ge_lab.out (.int .u64 (y2))
                      generalize (wy6.setCell ⟨wy4.heap.size, 0, none⟩ (.int .i64 (y1))).setCell ⟨wy4.heap.size, 1, none⟩ (.int .u64 (y2)) = wy7 at hs hbs ⊢
                      have F7_base := Lib.hid hbs
                      have F7_lab := Lib.hid hs
                      clear hs hbs s0 s1 s2 s3
                      refine hK.out _ _ ?_ (fun hHeld => ?_)
                      · exact (HX0.out.on F7_base.out).cells
                      clear hK K
                      try simp only [List.getElem_toArray, List.getElem_cons_succ, List.getElem_cons_zero, Act.put, List.setIfInBounds_toArray, List.set_cons_zero, List.set_cons_succ]
                      refine wpAnyH_take (i := 18) (v := .bool z) rfl (by kernel_rfl) (by kernel_rfl) (by kernel_rfl) (fun _ _ _ h => h) (Or.inl ⟨by rfl, fun W hSW => ?_⟩) hHeld ?_
                      · ((try dsimp only at hSW); go_split_ands; go_simp <;> with_reducible rfl)
                      try simp only [List.getElem_toArray, List.getElem_cons_succ, List.getElem_cons_zero, Act.put, List.setIfInBounds_toArray, List.set_cons_zero, List.set_cons_succ]
                      refine wpAnyH_done (by kernel_rfl) ?_ _
                      clear hHeld
                      go_wp2_with fail
                      go_meet
                      case rel => exact ⟨_, rfl, rfl, (HX0.out.on F7_base.out), F7_lab.out, Nat.le_trans HX0.out.2.1 F6_ge_lab.out⟩
                    exact AllReadyH.nil
                  exact AllReadyH.nil
                exact AllReadyH.nil
              refine AllReadyH.cons rfl (fun K hK => ?_) ?_
              · try simp only [List.getElem_toArray, List.getElem_cons_succ, List.getElem_cons_zero]
                go_simp
                obtain ⟨wy4, ey⟩ : ∃ y, y = wy3.alloc (.cells #[.int .i64 0, .int .u64 0] 38) := ⟨_, rfl⟩
                rw [← ey]
                have hb : Below wy3.heap.size wy3 wy4 := by rw [ey]; exact (Below.refl _ _).alloc (Nat.le_refl _) _
                have F4_base := Lib.hid (F3_base.out.trans (hb.mono F3_base.out.size))
                have F4_up := Lib.hid (SS.own_of_block F3_up.out (fun k e => hb.block k (F3_up.out.lt k e).2))
                have F4_ll := Lib.hid ((hb.block _ (Array.getElem?_eq_some_iff.1 F3_ll.out).1).trans F3_ll.out)
                have F4_ge_ll := Lib.hid (G3_ll.out)
                have F4_lab := Lib.hid (show wy4.heap[wy3.heap.size]? = some (.cells #[.int .i64 0, .int .u64 0] 38) by rw [ey]; exact heap_alloc_new _ _)
                have G4_lab := Lib.hid (show w0.heap.size ≤ wy3.heap.size from F3_base.out.size)
                clear ey hb
                refine hK.out _ _ ?_ (fun hHeld => ?_)
                · exact (HX0.out.on F4_base.out).cells
                clear hK K
                try simp only [List.getElem_toArray, List.getElem_cons_succ, List.getElem_cons_zero, Act.put, List.setIfInBounds_toArray, List.set_cons_zero, List.set_cons_succ]
                refine wpAnyH_ready (rs := [9]) (by kernel_rfl) (by simp) ?_
                refine AllReadyH.cons rfl (fun K hK => ?_) ?_
                · refine step_append_anyS rfl (.tmp 24) (.tmp 26) 23 rfl w0.heap.size 38 j0 (.agg #[.int .i64 0, .int .u64 0]) 2 16 Tryd.underlying23 hj0 hw0 hw1 hw2 rfl (by decide) (.slice (some ⟨wy2.heap.size, 0, none⟩) 0 0) 0 [] (by rfl) (lit_rowS F4_ll.out F4_ge_ll.out) (.slice aa args.length ac) args.length (labV args) (by rfl) (labV_len args) ((HA.out.below (HX0.out.on F4_base.out).1).src) (labV_one args) (by unfold maxLen; omega) (by omega) F4_base.out.size ?_
                  intro val wy5 ho hg
                  have F5_base := Lib.hid (F4_base.out.grown hg F4_base.out.size (fun k e => by cases e; exact F4_ge_ll.out))
                  have F5_up := Lib.hid (F4_up.out.kept hg (GG.own_types F4_up.out (lit_rowS (size := 2) F4_ll.out F4_ge_ll.out) (by decide)))
                  have F5_lab := Lib.hid (lab_keep hg F4_ll.out F4_lab.out (by simp))
                  have F5_ge_lab := Lib.hid (G4_lab.out)
                  have F5_al := Lib.hid (own0S ho)
                  obtain ⟨aal, cal, rfl⟩ := SS.ownOf F5_al.out
                  clear ho hg
                  refine hK.out _ _ ?_ (fun hHeld => ?_)
                  · exact (HX0.out.on F5_base.out).cells
                  clear hK K
                  try simp only [List.getElem_toArray, List.getElem_cons_succ, List.getElem_cons_zero, Act.put, List.setIfInBounds_toArray, List.set_cons_zero, List.set_cons_succ]
                  refine wpAnyH_ready (rs := [12]) (by kernel_rfl) (by simp) ?_
                  refine AllReadyH.cons rfl (fun K hK => ?_) ?_
                  · try simp only [List.getElem_toArray, List.getElem_cons_succ, List.getElem_cons_zero]
                    go_simp
                    (go_at_call 23; refine (HJ.out wy5 (HX0.out.on F5_base.out).1 (nums_of_row F5_up.out) (lab_ownV F5_al.out)).mono ?_; rintro e wy6 ⟨rfl, hb⟩; rw [HJR.out])
                    have F6_base := Lib.hid (F5_base.out.trans (hb.mono F5_base.out.size))
                    have F6_up := Lib.hid (SS.own_of_block F5_up.out (fun k e => hb.block k (F5_up.out.lt k e).2))
                    have F6_lab := Lib.hid ((hb.block _ (Array.getElem?_eq_some_iff.1 F5_lab.out).1).trans F5_lab.out)
                    have F6_ge_lab := Lib.hid (F5_ge_lab.out)
                    have F6_al := Lib.hid (SS.own_of_block F5_al.out (fun k e => hb.block k (F5_al.out.lt k e).2))
                    clear hb
                    try go_wp2_with fail
                    refine hK.out _ _ ?_ (fun hHeld => ?_)
                    · exact (HX0.out.on F6_base.out).cells
                    clear hK K
                    try simp only [List.getElem_toArray, List.getElem_cons_succ, List.getElem_cons_zero, Act.put, List.setIfInBounds_toArray, List.set_cons_zero, List.set_cons_succ]
                    refine wpAnyH_take (i := 13) (v := .tuple #[.agg #[.int .i64 y1, .int .u64 y2], .bool z]) rfl (by kernel_rfl) (by kernel_rfl) (by kernel_rfl) (fun _ _ _ h => h) (Or.inl ⟨by rfl, fun W hSW => ?_⟩) hHeld ?_
                    · ((try dsimp only at hSW); go_split_ands; go_simp <;> with_reducible rfl)
                    try simp only [List.getElem_toArray, List.getElem_cons_succ, List.getElem_cons_zero, Act.put, List.setIfInBounds_toArray, List.set_cons_zero, List.set_cons_succ]
                    refine wpAnyH_take (i := 14) (v := .agg #[.int .i64 y1, .int .u64 y2]) rfl (by kernel_rfl) (by kernel_rfl) (by kernel_rfl) (fun _ _ _ h => h) (Or.inl ⟨by rfl, fun W hSW => ?_⟩) hHeld ?_
                    · ((try dsimp only at hSW); go_split_ands; go_simp <;> with_reducible rfl)
                    try simp only [List.getElem_toArray, List.getElem_cons_succ, List.getElem_cons_zero, Act.put, List.setIfInBounds_toArray, List.set_cons_zero, List.set_cons_succ]
                    refine wpAnyH_take (i := 15) (v := .bool z) rfl (by kernel_rfl) (by kernel_rfl) (by kernel_rfl) (fun _ _ _ h => h) (Or.inl ⟨by rfl, fun W hSW => ?_⟩) hHeld ?_
                    · ((try dsimp only at hSW); go_split_ands; go_simp <;> with_reducible rfl)
                    try simp only [List.getElem_toArray, List.getElem_cons_succ, List.getElem_cons_zero, Act.put, List.setIfInBounds_toArray, List.set_cons_zero, List.set_cons_succ]
                    refine wpAnyH_ready (rs := [17]) (by kernel_rfl) (by simp) ?_
                    refine AllReadyH.cons rfl (fun K hK => ?_) ?_
                    · obtain ⟨s0, s1, s2, s3⟩ := one_lab F6_lab.out
                      try simp only [List.getElem_toArray, List.getElem_cons_succ, List.getElem_cons_zero]
                      go_simp
                      have hs := (put_lab F6_lab.out (y1) (y2)).1
                      have hbs := (F6_base.out.setCell (p := ⟨wy3.heap.size, 0, none⟩) F6_ge_lab.out (.int .i64 (y1))).setCell (p := ⟨wy3.heap.size, 1, none⟩) F6_ge_lab.out (.int .u64 (y2))
                      generalize (wy6.setCell ⟨wy3.heap.size, 0, none⟩ (.int .i64 (y1))).setCell ⟨wy3.heap.size, 1, none⟩ (.int .u64 (y2)) = wy7 at hs hbs ⊢
                      have F7_base := Lib.hid hbs
                      have F7_lab := Lib.hid hs
                      clear hs hbs s0 s1 s2 s3
                      refine hK.out _ _ ?_ (fun hHeld => ?_)
                      · exact (HX0.out.on F7_base.out).cells
                      clear hK K
                      try simp only [List.getElem_toArray, List.getElem_cons_succ, List.getElem_cons_zero, Act.put, List.setIfInBounds_toArray, List.set_cons_zero, List.set_cons_succ]
                      refine wpAnyH_take (i := 18) (v := .bool z) rfl (by kernel_rfl) (by kernel_rfl) (by kernel_rfl) (fun _ _ _ h => h) (Or.inl ⟨by rfl, fun W hSW => ?_⟩) hHeld ?_
                      · ((try dsimp only at hSW); go_split_ands; go_simp <;> with_reducible rfl)
                      try simp only [List.getElem_toArray, List.getElem_cons_succ, List.getElem_cons_zero, Act.put, List.setIfInBounds_toArray, List.set_cons_zero, List.set_cons_succ]
                      refine wpAnyH_done (by kernel_rfl) ?_ _
                      clear hHeld
                      go_wp2_with fail
                      go_meet
                      case rel => exact ⟨_, rfl, rfl, (HX0.out.on F7_base.out), F7_lab.out, Nat.le_trans HX0.out.2.1 F6_ge_lab.out⟩
                    exact AllReadyH.nil
                  exact AllReadyH.nil
                exact AllReadyH.nil
              exact AllReadyH.nil
            refine AllReadyH.cons rfl (fun K hK => ?_) ?_
            · try simp only [List.getElem_toArray, List.getElem_cons_succ, List.getElem_cons_zero]
              go_simp
              obtain ⟨wy3, ey⟩ : ∃ y, y = wy2.alloc (.cells #[.int .i64 0, .int .u64 0] 38) := ⟨_, rfl⟩
              rw [← ey]
              have hb : Below wy2.heap.size wy2 wy3 := by rw [ey]; exact (Below.refl _ _).alloc (Nat.le_refl _) _
              have F3_base := Lib.hid (F2_base.out.trans (hb.mono F2_base.out.size))
              have F3_up := Lib.hid (SS.own_of_block F2_up.out (fun k e => hb.block k (F2_up.out.lt k e).2))
              have F3_lab := Lib.hid (show wy3.heap[wy2.heap.size]? = some (.cells #[.int .i64 0, .int .u64 0] 38) by rw [ey]; exact heap_alloc_new _ _)
              have G3_lab := Lib.hid (show w0.heap.size ≤ wy2.heap.size from F2_base.out.size)
              clear ey hb
              refine hK.out _ _ ?_ (fun hHeld => ?_)
              · exact (HX0.out.on F3_base.out).cells
              clear hK K
              try simp only [List.getElem_toArray, List.getElem_cons_succ, List.getElem_cons_zero, Act.put, List.setIfInBounds_toArray, List.set_cons_zero, List.set_cons_succ]
              refine wpAnyH_ready (rs := [6]) (by kernel_rfl) (by simp) ?_
              refine AllReadyH.cons rfl (fun K hK => ?_) ?_
              · try simp only [List.getElem_toArray, List.getElem_cons_succ, List.getElem_cons_zero]
                go_simp
                obtain ⟨wy4, ey⟩ : ∃ y, y = wy3.alloc (.cells #[] 38) := ⟨_, rfl⟩
                rw [← ey]
                have hb : Below wy3.heap.size wy3 wy4 := by rw [ey]; exact (Below.refl _ _).alloc (Nat.le_refl _) _
                have F4_base := Lib.hid (F3_base.out.trans (hb.mono F3_base.out.size))
                have F4_up := Lib.hid (SS.own_of_block F3_up.out (fun k e => hb.block k (F3_up.out.lt k e).2))
                have F4_lab := Lib.hid ((hb.block _ (Array.getElem?_eq_some_iff.1 F3_lab.out).1).trans F3_lab.out)
                have F4_ge_lab := Lib.hid (G3_lab.out)
                have F4_ll := Lib.hid (show wy4.heap[wy3.heap.size]? = some (.cells #[] 38) by rw [ey]; exact heap_alloc_new _ _)
                have G4_ll := Lib.hid (show w0.heap.size ≤ wy3.heap.size from F3_base.out.size)
                clear ey hb
                refine hK.out _ _ ?_ (fun hHeld => ?_)
                · exact (HX0.out.on F4_base.out).cells
                clear hK K
                try simp only [List.getElem_toArray, List.getElem_cons_succ, List.getElem_cons_zero, Act.put, List.setIfInBounds_toArray, List.set_cons_zero, List.set_cons_succ]
                refine wpAnyH_ready (rs := [9]) (by kernel_rfl) (by simp) ?_
                refine AllReadyH.cons rfl (fun K hK => ?_) ?_
                · refine step_append_anyS rfl (.tmp 24) (.tmp 26) 23 rfl w0.heap.size 38 j0 (.agg #[.int .i64 0, .int .u64 0]) 2 16 Tryd.underlying23 hj0 hw0 hw1 hw2 rfl (by decide) (.slice (some ⟨wy3.heap.size, 0, none⟩) 0 0) 0 [] (by rfl) (lit_rowS F4_ll.out G4_ll.out) (.slice aa args.length ac) args.length (labV args) (by rfl) (labV_len args) ((HA.out.below (HX0.out.on F4_base.out).1).src) (labV_one args) (by unfold maxLen; omega) (by omega) F4_base.out.size ?_
                  intro val wy5 ho hg
                  have F5_base := Lib.hid (F4_base.out.grown hg F4_base.out.size (fun k e => by cases e; exact G4_ll.out))
                  have F5_up := Lib.hid (F4_up.out.kept hg (GG.own_types F4_up.out (lit_rowS (size := 2) F4_ll.out G4_ll.out) (by decide)))
                  have F5_lab := Lib.hid (lab_keep hg F4_ll.out F4_lab.out (by simp))
                  have F5_ge_lab := Lib.hid (F4_ge_lab.out)
                  have F5_al := Lib.hid (own0S ho)
                  obtain ⟨aal, cal, rfl⟩ := SS.ownOf F5_al.out
                  clear ho hg
                  refine hK.out _ _ ?_ (fun hHeld => ?_)
                  · exact (HX0.out.on F5_base.out).cells
                  clear hK K
                  try simp only [List.getElem_toArray, List.getElem_cons_succ, List.getElem_cons_zero, Act.put, List.setIfInBounds_toArray, List.set_cons_zero, List.set_cons_succ]
                  refine wpAnyH_ready (rs := [12]) (by kernel_rfl) (by simp) ?_
                  refine AllReadyH.cons rfl (fun K hK => ?_) ?_
                  · try simp only [List.getElem_toArray, List.getElem_cons_succ, List.getElem_cons_zero]
                    go_simp
                    (go_at_call 23; refine (HJ.out wy5 (HX0.out.on F5_base.out).1 (nums_of_row F5_up.out) (lab_ownV F5_al.out)).mono ?_; rintro e wy6 ⟨rfl, hb⟩; rw [HJR.out])
                    have F6_base := Lib.hid (F5_base.out.trans (hb.mono F5_base.out.size))
                    have F6_up := Lib.hid (SS.own_of_block F5_up.out (fun k e => hb.block k (F5_up.out.lt k e).2))
                    have F6_lab := Lib.hid ((hb.block _ (Array.getElem?_eq_some_iff.1 F5_lab.out).1).trans F5_lab.out)
                    have F6_ge_lab := Lib.hid (F5_ge_lab.out)
                    have F6_al := Lib.hid (SS.own_of_block F5_al.out (fun k e => hb.block k (F5_al.out.lt k e).2))
                    clear hb
                    try go_wp2_with fail
                    refine hK.out _ _ ?_ (fun hHeld => ?_)
                    · exact (HX0.out.on F6_base.out).cells
                    clear hK K
                    try simp only [List.getElem_toArray, List.getElem_cons_succ, List.getElem_cons_zero, Act.put, List.setIfInBounds_toArray, List.set_cons_zero, List.set_cons_succ]
                    refine wpAnyH_take (i := 13) (v := .tuple #[.agg #[.int .i64 y1, .int .u64 y2], .bool z]) rfl (by kernel_rfl) (by kernel_rfl) (by kernel_rfl) (fun _ _ _ h => h) (Or.inl ⟨by rfl, fun W hSW => ?_⟩) hHeld ?_
                    · ((try dsimp only at hSW); go_split_ands; go_simp <;> with_reducible rfl)
                    try simp only [List.getElem_toArray, List.getElem_cons_succ, List.getElem_cons_zero, Act.put, List.setIfInBounds_toArray, List.set_cons_zero, List.set_cons_succ]
                    refine wpAnyH_take (i := 14) (v := .agg #[.int .i64 y1, .int .u64 y2]) rfl (by kernel_rfl) (by kernel_rfl) (by kernel_rfl) (fun _ _ _ h => h) (Or.inl ⟨by rfl, fun W hSW => ?_⟩) hHeld ?_
                    · ((try dsimp only at hSW); go_split_ands; go_simp <;> with_reducible rfl)
                    try simp only [List.getElem_toArray, List.getElem_cons_succ, List.getElem_cons_zero, Act.put, List.setIfInBounds_toArray, List.set_cons_zero, List.set_cons_succ]
                    refine wpAnyH_take (i := 15) (v := .bool z) rfl (by kernel_rfl) (by kernel_rfl) (by kernel_rfl) (fun _ _ _ h => h) (Or.inl ⟨by rfl, fun W hSW => ?_⟩) hHeld ?_
                    · ((try dsimp only at hSW); go_split_ands; go_simp <;> with_reducible rfl)
                    try simp only [List.getElem_toArray, List.getElem_cons_succ, List.getElem_cons_zero, Act.put, List.setIfInBounds_toArray, List.set_cons_zero, List.set_cons_succ]
                    refine wpAnyH_ready (rs := [17]) (by kernel_rfl) (by simp) ?_
                    refine AllReadyH.cons rfl (fun K hK => ?_) ?_
                    · obtain ⟨s0, s1, s2, s3⟩ := one_lab F6_lab.out
                      try simp only [List.getElem_toArray, List.getElem_cons_succ, List.getElem_cons_zero]
                      go_simp
                      have hs := (put_lab F6_lab.out (y1) (y2)).1
                      have hbs := (F6_base.out.setCell (p := ⟨wy2.heap.size, 0, none⟩) F6_ge_lab.out (.int .i64 (y1))).setCell (p := ⟨wy2.heap.size, 1, none⟩) F6_ge_lab.out (.int .u64 (y2))
                      generalize (wy6.setCell ⟨wy2.heap.size, 0, none⟩ (.int .i64 (y1))).setCell ⟨wy2.heap.size, 1, none⟩ (.int .u64 (y2)) = wy7 at hs hbs ⊢
                      have F7_base := Lib.hid hbs
                      have F7_lab := Lib.hid hs
                      clear hs hbs s0 s1 s2 s3
                      refine hK.out _ _ ?_ (fun hHeld => ?_)
                      · exact (HX0.out.on F7_base.out).cells
                      clear hK K
                      try simp only [List.getElem_toArray, List.getElem_cons_succ, List.getElem_cons_zero, Act.put, List.setIfInBounds_toArray, List.set_cons_zero, List.set_cons_succ]
                      refine wpAnyH_take (i := 18) (v := .bool z) rfl (by kernel_rfl) (by kernel_rfl) (by kernel_rfl) (fun _ _ _ h => h) (Or.inl ⟨by rfl, fun W hSW => ?_⟩) hHeld ?_
                      · ((try dsimp only at hSW); go_split_ands; go_simp <;> with_reducible rfl)
                      try simp only [List.getElem_toArray, List.getElem_cons_succ, List.getElem_cons_zero, Act.put, List.setIfInBounds_toArray, List.set_cons_zero, List.set_cons_succ]
                      refine wpAnyH_done (by kernel_rfl) ?_ _
                      clear hHeld
                      go_wp2_with fail
                      go_meet
                      case rel => exact ⟨_, rfl, rfl, (HX0.out.on F7_base.out), F7_lab.out, Nat.le_trans HX0.out.2.1 F6_ge_lab.out⟩
                    exact AllReadyH.nil
                  exact AllReadyH.nil
                exact AllReadyH.nil
              exact AllReadyH.nil
            exact AllReadyH.nil
          refine AllReadyH.cons rfl (fun K hK => ?_) ?_
          · try simp only [List.getElem_toArray, List.getElem_cons_succ, List.getElem_cons_zero]
            go_simp
            obtain ⟨wy2, ey⟩ : ∃ y, y = wy1.alloc (.cells #[] 38) := ⟨_, rfl⟩
            rw [← ey]
            have hb : Below wy1.heap.size wy1 wy2 := by rw [ey]; exact (Below.refl _ _).alloc (Nat.le_refl _) _
            have F2_base := Lib.hid (F1_base.out.trans (hb.mono F1_base.out.size))
            have F2_lu := Lib.hid ((hb.block _ (Array.getElem?_eq_some_iff.1 F1_lu.out).1).trans F1_lu.out)
            have F2_ge_lu := Lib.hid (G1_lu.out)
            have F2_ll := Lib.hid (show wy2.heap[wy1.heap.size]? = some (.cells #[] 38) by rw [ey]; exact heap_alloc_new _ _)
            have G2_ll := Lib.hid (show w0.heap.size ≤ wy1.heap.size from F1_base.out.size)
            clear ey hb
            refine hK.out _ _ ?_ (fun hHeld => ?_)
            · exact (HX0.out.on F2_base.out).cells
            clear hK K
            try simp only [List.getElem_toArray, List.getElem_cons_succ, List.getElem_cons_zero, Act.put, List.setIfInBounds_toArray, List.set_cons_zero, List.set_cons_succ]
            refine wpAnyH_ready (rs := [3, 16]) (by kernel_rfl) (by simp) ?_
            refine AllReadyH.cons rfl (fun K hK => ?_) ?_
            · refine step_append_anyS rfl (.tmp 18) (.tmp 20) 22 rfl w0.heap.size 36 i0 (.int .u64 0) 1 8 Tryd.underlying22 hi0 hz0 hz1 hz2 rfl (by decide) (.slice (some ⟨w0.heap.size, 0, none⟩) 0 0) 0 [] (by rfl) (lit_rowS F2_lu.out F2_ge_lu.out) (.slice ua xs.length uc) xs.length (xs.map (Value.int .u64)) (by rfl) (by simp) (nums_src ((HU.out.below (HX0.out.on F2_base.out).1).mono (HX0.out.on F2_base.out).1.size) HNN.out) (by intro u hu; obtain ⟨x, _, rfl⟩ := List.mem_map.1 hu; rfl) (by unfold maxLen; omega) (by omega) F2_base.out.size ?_
              intro vup wy3 ho hg
              have F3_base := Lib.hid (F2_base.out.grown hg F2_base.out.size (fun k e => by cases e; exact F2_ge_lu.out))
              have F3_ll := Lib.hid (lit_keep hg F2_lu.out F2_ll.out (by decide))
              have F3_ge_ll := Lib.hid (G2_ll.out)
              have F3_up := Lib.hid (own0S ho)
              obtain ⟨aup, cup, rfl⟩ := SS.ownOf F3_up.out
              clear ho hg
              refine hK.out _ _ ?_ (fun hHeld => ?_)
              · exact (HX0.out.on F3_base.out).cells
              clear hK K
              try simp only [List.getElem_toArray, List.getElem_cons_succ, List.getElem_cons_zero, Act.put, List.setIfInBounds_toArray, List.set_cons_zero, List.set_cons_succ]
              refine wpAnyH_ready (rs := [9, 16]) (by kernel_rfl) (by simp) ?_
              refine AllReadyH.cons rfl (fun K hK => ?_) ?_
              · refine step_append_anyS rfl (.tmp 24) (.tmp 26) 23 rfl w0.heap.size 38 j0 (.agg #[.int .i64 0, .int .u64 0]) 2 16 Tryd.underlying23 hj0 hw0 hw1 hw2 rfl (by decide) (.slice (some ⟨wy1.heap.size, 0, none⟩) 0 0) 0 [] (by rfl) (lit_rowS F3_ll.out F3_ge_ll.out) (.slice aa args.length ac) args.length (labV args) (by rfl) (labV_len args) ((HA.out.below (HX0.out.on F3_base.out).1).src) (labV_one args) (by unfold maxLen; omega) (by omega) F3_base.out.size ?_
                intro val wy4 ho hg
                have F4_base := Lib.hid (F3_base.out.grown hg F3_base.out.size (fun k e => by cases e; exact F3_ge_ll.out))
                have F4_up := Lib.hid (F3_up.out.kept hg (GG.own_types F3_up.out (lit_rowS (size := 2) F3_ll.out F3_ge_ll.out) (by decide)))
                have F4_al := Lib.hid (own0S ho)
                obtain ⟨aal, cal, rfl⟩ := SS.ownOf F4_al.out
                clear ho hg
                refine hK.out _ _ ?_ (fun hHeld => ?_)
                · exact (HX0.out.on F4_base.out).cells
                clear hK K
                try simp only [List.getElem_toArray, List.getElem_cons_succ, List.getElem_cons_zero, Act.put, List.setIfInBounds_toArray, List.set_cons_zero, List.set_cons_succ]
                refine wpAnyH_ready (rs := [12, 16]) (by kernel_rfl) (by simp) ?_
                refine AllReadyH.cons rfl (fun K hK => ?_) ?_
                · try simp only [List.getElem_toArray, List.getElem_cons_succ, List.getElem_cons_zero]
                  go_simp
                  (go_at_call 23; refine (HJ.out wy4 (HX0.out.on F4_base.out).1 (nums_of_row F4_up.out) (lab_ownV F4_al.out)).mono ?_; rintro e wy5 ⟨rfl, hb⟩; rw [HJR.out])
                  have F5_base := Lib.hid (F4_base.out.trans (hb.mono F4_base.out.size))
                  have F5_up := Lib.hid (SS.own_of_block F4_up.out (fun k e => hb.block k (F4_up.out.lt k e).2))
                  have F5_al := Lib.hid (SS.own_of_block F4_al.out (fun k e => hb.block k (F4_al.out.lt k e).2))
                  clear hb
                  try go_wp2_with fail
                  refine hK.out _ _ ?_ (fun hHeld => ?_)
                  · exact (HX0.out.on F5_base.out).cells
                  clear hK K
                  try simp only [List.getElem_toArray, List.getElem_cons_succ, List.getElem_cons_zero, Act.put, List.setIfInBounds_toArray, List.set_cons_zero, List.set_cons_succ]
                  refine wpAnyH_take (i := 13) (v := .tuple #[.agg #[.int .i64 y1, .int .u64 y2], .bool z]) rfl (by kernel_rfl) (by kernel_rfl) (by kernel_rfl) (fun _ _ _ h => h) (Or.inl ⟨by rfl, fun W hSW => ?_⟩) hHeld ?_
                  · ((try dsimp only at hSW); go_split_ands; go_simp <;> with_reducible rfl)
                  try simp only [List.getElem_toArray, List.getElem_cons_succ, List.getElem_cons_zero, Act.put, List.setIfInBounds_toArray, List.set_cons_zero, List.set_cons_succ]
                  refine wpAnyH_take (i := 14) (v := .agg #[.int .i64 y1, .int .u64 y2]) rfl (by kernel_rfl) (by kernel_rfl) (by kernel_rfl) (fun _ _ _ h => h) (Or.inl ⟨by rfl, fun W hSW => ?_⟩) hHeld ?_
                  · ((try dsimp only at hSW); go_split_ands; go_simp <;> with_reducible rfl)
                  try simp only [List.getElem_toArray, List.getElem_cons_succ, List.getElem_cons_zero, Act.put, List.setIfInBounds_toArray, List.set_cons_zero, List.set_cons_succ]
                  refine wpAnyH_take (i := 15) (v := .bool z) rfl (by kernel_rfl) (by kernel_rfl) (by kernel_rfl) (fun _ _ _ h => h) (Or.inl ⟨by rfl, fun W hSW => ?_⟩) hHeld ?_
                  · ((try dsimp only at hSW); go_split_ands; go_simp <;> with_reducible rfl)
                  try simp only [List.getElem_toArray, List.getElem_cons_succ, List.getElem_cons_zero, Act.put, List.setIfInBounds_toArray, List.set_cons_zero, List.set_cons_succ]
                  refine wpAnyH_ready (rs := [16]) (by kernel_rfl) (by simp) ?_
                  refine AllReadyH.cons rfl (fun K hK => ?_) ?_
                  · try simp only [List.getElem_toArray, List.getElem_cons_succ, List.getElem_cons_zero]
                    go_simp
                    obtain ⟨wy6, ey⟩ : ∃ y, y = wy5.alloc (.cells #[.int .i64 0, .int .u64 0] 38) := ⟨_, rfl⟩
                    rw [← ey]
                    have hb : Below wy5.heap.size wy5 wy6 := by rw [ey]; exact (Below.refl _ _).alloc (Nat.le_refl _) _
                    have F6_base := Lib.hid (F5_base.out.trans (hb.mono F5_base.out.size))
                    have F6_up := Lib.hid (SS.own_of_block F5_up.out (fun k e => hb.block k (F5_up.out.lt k e).2))
                    have F6_al := Lib.hid (SS.own_of_block F5_al.out (fun k e => hb.block k (F5_al.out.lt k e).2))
                    have F6_lab := Lib.hid (show wy6.heap[wy5.heap.size]? = some (.cells #[.int .i64 0, .int .u64 0] 38) by rw [ey]; exact heap_alloc_new _ _)
                    have G6_lab := Lib.hid (show w0.heap.size ≤ wy5.heap.size from F5_base.out.size)
                    clear ey hb
                    refine hK.out _ _ ?_ (fun hHeld => ?_)
                    · exact (HX0.out.on F6_base.out).cells
                    clear hK K
                    try simp only [List.getElem_toArray, List.getElem_cons_succ, List.getElem_cons_zero, Act.put, List.setIfInBounds_toArray, List.set_cons_zero, List.set_cons_succ]
                    refine wpAnyH_ready (rs := [17]) (by kernel_rfl) (by simp) ?_
                    refine AllReadyH.cons rfl (fun K hK => ?_) ?_
                    · obtain ⟨s0, s1, s2, s3⟩ := one_lab F6_lab.out
                      try simp only [List.getElem_toArray, List.getElem_cons_succ, List.getElem_cons_zero]
                      go_simp
                      have hs := (put_lab F6_lab.out (y1) (y2)).1
                      have hbs := (F6_base.out.setCell (p := ⟨wy5.heap.size, 0, none⟩) G6_lab.out (.int .i64 (y1))).setCell (p := ⟨wy5.heap.size, 1, none⟩) G6_lab.out (.int .u64 (y2))
                      generalize (wy6.setCell ⟨wy5.heap.size, 0, none⟩ (.int .i64 (y1))).setCell ⟨wy5.heap.size, 1, none⟩ (.int .u64 (y2)) = wy7 at hs hbs ⊢
                      have F7_base := Lib.hid hbs
                      have F7_lab := Lib.hid hs
                      clear hs hbs s0 s1 s2 s3
                      refine hK.out _ _ ?_ (fun hHeld => ?_)
                      · exact (HX0.out.on F7_base.out).cells
                      clear hK K
                      try simp only [List.getElem_toArray, List.getElem_cons_succ, List.getElem_cons_zero, Act.put, List.setIfInBounds_toArray, List.set_cons_zero, List.set_cons_succ]
                      refine wpAnyH_take (i := 18) (v := .bool z) rfl (by kernel_rfl) (by kernel_rfl) (by kernel_rfl) (fun _ _ _ h => h) (Or.inl ⟨by rfl, fun W hSW => ?_⟩) hHeld ?_
                      · ((try dsimp only at hSW); go_split_ands; go_simp <;> with_reducible rfl)
                      try simp only [List.getElem_toArray, List.getElem_cons_succ, List.getElem_cons_zero, Act.put, List.setIfInBounds_toArray, List.set_cons_zero, List.set_cons_succ]
                      refine wpAnyH_done (by kernel_rfl) ?_ _
                      clear hHeld
                      go_wp2_with fail
                      go_meet
                      case rel => exact ⟨_, rfl, rfl, (HX0.out.on F7_base.out), F7_lab.out, Nat.le_trans HX0.out.2.1 G6_lab.out⟩
                    exact AllReadyH.nil
                  exact AllReadyH.nil
                refine AllReadyH.cons rfl (fun K hK => ?_) ?_
                · try simp only [List.getElem_toArray, List.getElem_cons_succ, List.getElem_cons_zero]
                  go_simp
                  obtain ⟨wy5, ey⟩ : ∃ y, y = wy4.alloc (.cells #[.int .i64 0, .int .u64 0] 38) := ⟨_, rfl⟩
                  rw [← ey]
                  have hb : Below wy4.heap.size wy4 wy5 := by rw [ey]; exact (Below.refl _ _).alloc (Nat.le_refl _) _
                  have F5_base := Lib.hid (F4_base.out.trans (hb.mono F4_base.out.size))
                  have F5_up := Lib.hid (SS.own_of_block F4_up.out (fun k e => hb.block k (F4_up.out.lt k e).2))
                  have F5_al := Lib.hid (SS.own_of_block F4_al.out (fun k e => hb.block k (F4_al.out.lt k e).2))
                  have F5_lab := Lib.hid (show wy5.heap[wy4.heap.size]? = some (.cells #[.int .i64 0, .int .u64 0] 38) by rw [ey]; exact heap_alloc_new _ _)
                  have G5_lab := Lib.hid (show w0.heap.size ≤ wy4.heap.size from F4_base.out.size)
                  clear ey hb
                  refine hK.out _ _ ?_ (fun hHeld => ?_)
                  · exact (HX0.out.on F5_base.out).cells
                  clear hK K
                  try simp only [List.getElem_toArray, List.getElem_cons_succ, List.getElem_cons_zero, Act.put, List.setIfInBounds_toArray, List.set_cons_zero, List.set_cons_succ]
                  refine wpAnyH_ready (rs := [12]) (by kernel_rfl) (by simp) ?_
                  refine AllReadyH.cons rfl (fun K hK => ?_) ?_
                  · try simp only [List.getElem_toArray, List.getElem_cons_succ, List.getElem_cons_zero]
                    go_simp
                    (go_at_call 23; refine (HJ.out wy5 (HX0.out.on F5_base.out).1 (nums_of_row F5_up.out) (lab_ownV F5_al.out)).mono ?_; rintro e wy6 ⟨rfl, hb⟩; rw [HJR.out])
                    have F6_base := Lib.hid (F5_base.out.trans (hb.mono F5_base.out.size))
                    have F6_up := Lib.hid (SS.own_of_block F5_up.out (fun k e => hb.block k (F5_up.out.lt k e).2))
                    have F6_al := Lib.hid (SS.own_of_block F5_al.out (fun k e => hb.block k (F5_al.out.lt k e).2))
                    have F6_lab := Lib.hid ((hb.block _ (Array.getElem?_eq_some_iff.1 F5_lab.out).1).trans F5_lab.out)
                    have F6_ge_lab := Lib.hid (G5_lab.out)
                    clear hb
                    try go_wp2_with fail
                    refine hK.out _ _ ?_ (fun hHeld => ?_)
                    · exact (HX0.out.on F6_base.out).cells
                    clear hK K
                    try simp only [List.getElem_toArray, List.getElem_cons_succ, List.getElem_cons_zero, Act.put, List.setIfInBounds_toArray, List.set_cons_zero, List.set_cons_succ]
                    refine wpAnyH_take (i := 13) (v := .tuple #[.agg #[.int .i64 y1, .int .u64 y2], .bool z]) rfl (by kernel_rfl) (by kernel_rfl) (by kernel_rfl) (fun _ _ _ h => h) (Or.inl ⟨by rfl, fun W hSW => ?_⟩) hHeld ?_
                    · ((try dsimp only at hSW); go_split_ands; go_simp <;> with_reducible rfl)
                    try simp only [List.getElem_toArray, List.getElem_cons_succ, List.getElem_cons_zero, Act.put, List.setIfInBounds_toArray, List.set_cons_zero, List.set_cons_succ]
                    refine wpAnyH_take (i := 14) (v := .agg #[.int .i64 y1, .int .u64 y2]) rfl (by kernel_rfl) (by kernel_rfl) (by kernel_rfl) (fun _ _ _ h => h) (Or.inl ⟨by rfl, fun W hSW => ?_⟩) hHeld ?_
                    · ((try dsimp only at hSW); go_split_ands; go_simp <;> with_reducible rfl)
                    try simp only [List.getElem_toArray, List.getElem_cons_succ, List.getElem_cons_zero, Act.put, List.setIfInBounds_toArray, List.set_cons_zero, List.set_cons_succ]
                    refine wpAnyH_take (i := 15) (v := .bool z) rfl (by kernel_rfl) (by kernel_rfl) (by kernel_rfl) (fun _ _ _ h => h) (Or.inl ⟨by rfl, fun W hSW => ?_⟩) hHeld ?_
                    · ((try dsimp only at hSW); go_split_ands; go_simp <;> with_reducible rfl)
                    try simp only [List.getElem_toArray, List.getElem_cons_succ, List.getElem_cons_zero, Act.put, List.setIfInBounds_toArray, List.set_cons_zero, List.set_cons_succ]
                    refine wpAnyH_ready (rs := [17]) (by kernel_rfl) (by simp) ?_
                    refine AllReadyH.cons rfl (fun K hK => ?_) ?_
                    · obtain ⟨s0, s1, s2, s3⟩ := one_lab F6_lab.out
                      try simp only [List.getElem_toArray, List.getElem_cons_succ, List.getElem_cons_zero]
                      go_simp
                      have hs := (put_lab F6_lab.out (y1) (y2)).1
                      have hbs := (F6_base.out.setCell (p := ⟨wy4.heap.size, 0, none⟩) F6_ge_lab.out (.int .i64 (y1))).setCell (p := ⟨wy4.heap.size, 1, none⟩) F6_ge_lab.out (.int .u64 (y2))
                      generalize (wy6.setCell ⟨wy4.heap.size, 0, none⟩ (.int .i64 (y1))).setCell ⟨wy4.heap.size, 1, none⟩ (.int .u64 (y2)) = wy7 at hs hbs ⊢
                      have F7_base := Lib.hid hbs
                      have F7_lab := Lib.hid hs
                      clear hs hbs s0 s1 s2 s3
                      refine hK.out _ _ ?_ (fun hHeld => ?_)
                      · exact (HX0.out.on F7_base.out).cells
                      clear hK K
                      try simp only [List.getElem_toArray, List.getElem_cons_succ, List.getElem_cons_zero, Act.put, List.setIfInBounds_toArray, List.set_cons_zero, List.set_cons_succ]
                      refine wpAnyH_take (i := 18) (v := .bool z) rfl (by kernel_rfl) (by kernel_rfl) (by kernel_rfl) (fun _ _ _ h => h) (Or.inl ⟨by rfl, fun W hSW => ?_⟩) hHeld ?_
                      · ((try dsimp only at hSW); go_split_ands; go_simp <;> with_reducible rfl)
                      try simp only [List.getElem_toArray, List.getElem_cons_succ, List.getElem_cons_zero, Act.put, List.setIfInBounds_toArray, List.set_cons_zero, List.set_cons_succ]
                      refine wpAnyH_done (by kernel_rfl) ?_ _
                      clear hHeld
                      go_wp2_with fail
                      go_meet
                      case rel => exact ⟨_, rfl, rfl, (HX0.out.on F7_base.out), F7_lab.out, Nat.le_trans HX0.out.2.1 F6_ge_lab.out⟩
                    exact AllReadyH.nil
                  exact AllReadyH.nil
                exact AllReadyH.nil
              refine AllReadyH.cons rfl (fun K hK => ?_) ?_
              · try simp only [List.getElem_toArray, List.getElem_cons_succ, List.getElem_cons_zero]
                go_simp
                obtain ⟨wy4, ey⟩ : ∃ y, y = wy3.alloc (.cells #[.int .i64 0, .int .u64 0] 38) := ⟨_, rfl⟩
                rw [← ey]
                have hb : Below wy3.heap.size wy3 wy4 := by rw [ey]; exact (Below.refl _ _).alloc (Nat.le_refl _) _
                have F4_base := Lib.hid (F3_base.out.trans (hb.mono F3_base.out.size))
                have F4_ll := Lib.hid ((hb.block _ (Array.getElem?_eq_some_iff.1 F3_ll.out).1).trans F3_ll.out)
                have F4_ge_ll := Lib.hid (F3_ge_ll.out)
                have F4_up := Lib.hid (SS.own_of_block F3_up.out (fun k e => hb.block k (F3_up.out.lt k e).2))
                have F4_lab := Lib.hid (show wy4.heap[wy3.heap.size]? = some (.cells #[.int .i64 0, .int .u64 0] 38) by rw [ey]; exact heap_alloc_new _ _)
                have G4_lab := Lib.hid (show w0.heap.size ≤ wy3.heap.size from F3_base.out.size)
                clear ey hb
                refine hK.out _ _ ?_ (fun hHeld => ?_)
                · exact (HX0.out.on F4_base.out).cells
                clear hK K
                try simp only [List.getElem_toArray, List.getElem_cons_succ, List.getElem_cons_zero, Act.put, List.setIfInBounds_toArray, List.set_cons_zero, List.set_cons_succ]
                refine wpAnyH_ready (rs := [9]) (by kernel_rfl) (by simp) ?_
                refine AllReadyH.cons rfl (fun K hK => ?_) ?_
                · refine step_append_anyS rfl (.tmp 24) (.tmp 26) 23 rfl w0.heap.size 38 j0 (.agg #[.int .i64 0, .int .u64 0]) 2 16 Tryd.underlying23 hj0 hw0 hw1 hw2 rfl (by decide) (.slice (some ⟨wy1.heap.size, 0, none⟩) 0 0) 0 [] (by rfl) (lit_rowS F4_ll.out F4_ge_ll.out) (.slice aa args.length ac) args.length (labV args) (by rfl) (labV_len args) ((HA.out.below (HX0.out.on F4_base.out).1).src) (labV_one args) (by unfold maxLen; omega) (by omega) F4_base.out.size ?_
                  intro val wy5 ho hg
                  have F5_base := Lib.hid (F4_base.out.grown hg F4_base.out.size (fun k e => by cases e; exact F4_ge_ll.out))
                  have F5_up := Lib.hid (F4_up.out.kept hg (GG.own_types F4_up.out (lit_rowS (size := 2) F4_ll.out F4_ge_ll.out) (by decide)))
                  have F5_lab := Lib.hid (lab_keep hg F4_ll.out F4_lab.out (by simp))
                  have F5_ge_lab := Lib.hid (G4_lab.out)
                  have F5_al := Lib.hid (own0S ho)
                  obtain ⟨aal, cal, rfl⟩ := SS.ownOf F5_al.out
                  clear ho hg
                  refine hK.out _ _ ?_ (fun hHeld => ?_)
                  · exact (HX0.out.on F5_base.out).cells
                  clear hK K
                  try simp only [List.getElem_toArray, List.getElem_cons_succ, List.getElem_cons_zero, Act.put, List.setIfInBounds_toArray, List.set_cons_zero, List.set_cons_succ]
                  refine wpAnyH_ready (rs := [12]) (by kernel_rfl) (by simp) ?_
                  refine AllReadyH.cons rfl (fun K hK => ?_) ?_
                  · try simp only [List.getElem_toArray, List.getElem_cons_succ, List.getElem_cons_zero]
                    go_simp
                    (go_at_call 23; refine (HJ.out wy5 (HX0.out.on F5_base.out).1 (nums_of_row F5_up.out) (lab_ownV F5_al.out)).mono ?_; rintro e wy6 ⟨rfl, hb⟩; rw [HJR.out])
                    have F6_base := Lib.hid (F5_base.out.trans (hb.mono F5_base.out.size))
                    have F6_up := Lib.hid (SS.own_of_block F5_up.out (fun k e => hb.block k (F5_up.out.lt k e).2))
                    have F6_lab := Lib.hid ((hb.block _ (Array.getElem?_eq_some_iff.1 F5_lab.out).1).trans F5_lab.out)
                    have F6_ge_lab := Lib.hid (F5_ge_lab.out)
                    have F6_al := Lib.hid (SS.own_of_block F5_al.out (fun k e => hb.block k (F5_al.out.lt k e).2))
                    clear hb
                    try go_wp2_with fail
                    refine hK.out _ _ ?_ (fun hHeld => ?_)
                    · exact (HX0.out.on F6_base.out).cells
                    clear hK K
                    try simp only [List.getElem_toArray, List.getElem_cons_succ, List.getElem_cons_zero, Act.put, List.setIfInBounds_toArray, List.set_cons_zero, List.set_cons_succ]
                    refine wpAnyH_take (i := 13) (v := .tuple #[.agg #[.int .i64 y1, .int .u64 y2], .bool z]) rfl (by kernel_rfl) (by kernel_rfl) (by kernel_rfl) (fun _ _ _ h => h) (Or.inl ⟨by rfl, fun W hSW => ?_⟩) hHeld ?_
                    · ((try dsimp only at hSW); go_split_ands; go_simp <;> with_reducible rfl)
                    try simp only [List.getElem_toArray, List.getElem_cons_succ, List.getElem_cons_zero, Act.put, List.setIfInBounds_toArray, List.set_cons_zero, List.set_cons_succ]
                    refine wpAnyH_take (i := 14) (v := .agg #[.int .i64 y1, .int .u64 y2]) rfl (by kernel_rfl) (by kernel_rfl) (by kernel_rfl) (fun _ _ _ h => h) (Or.inl ⟨by rfl, fun W hSW => ?_⟩) hHeld ?_
                    · ((try dsimp only at hSW); go_split_ands; go_simp <;> with_reducible rfl)
                    try simp only [List.getElem_toArray, List.getElem_cons_succ, List.getElem_cons_zero, Act.put, List.setIfInBounds_toArray, List.set_cons_zero, List.set_cons_succ]
                    refine wpAnyH_take (i := 15) (v := .bool z) rfl (by kernel_rfl) (by kernel_rfl) (by kernel_rfl) (fun _ _ _ h => h) (Or.inl ⟨by rfl, fun W hSW => ?_⟩) hHeld ?_
                    · ((try dsimp only at hSW); go_split_ands; go_simp <;> with_reducible rfl)
                    try simp only [List.getElem_toArray, List.getElem_cons_succ, List.getElem_cons_zero, Act.put, List.setIfInBounds_toArray, List.set_cons_zero, List.set_cons_succ]
                    refine wpAnyH_ready (rs := [17]) (by kernel_rfl) (by simp) ?_
                    refine AllReadyH.cons rfl (fun K hK => ?_) ?_
                    · obtain ⟨s0, s1, s2, s3⟩ := one_lab F6_lab.out
                      try simp only [List.getElem_toArray, List.getElem_cons_succ, List.getElem_cons_zero]
                      go_simp
                      have hs := (put_lab F6_lab.out (y1) (y2)).1
                      have hbs := (F6_base.out.setCell (p := ⟨wy3.heap.size, 0, none⟩) F6_ge_lab.out (.int .i64 (y1))).setCell (p := ⟨wy3.heap.size, 1, none⟩) F6_ge_lab.out (.int .u64 (y2))
                      generalize (wy6.setCell ⟨wy3.heap.size, 0, none⟩ (.int .i64 (y1))).setCell ⟨wy3.heap.size, 1, none⟩ (.int .u64 (y2)) = wy7 at hs hbs ⊢
                      have F7_base := Lib.hid hbs
                      have F7_lab := Lib.hid hs
                      clear hs hbs s0 s1 s2 s3
                      refine hK.out _ _ ?_ (fun hHeld => ?_)
                      · exact (HX0.out.on F7_base.out).cells
                      clear hK K
                      try simp only [List.getElem_toArray, List.getElem_cons_succ, List.getElem_cons_zero, Act.put, List.setIfInBounds_toArray, List.set_cons_zero, List.set_cons_succ]
                      refine wpAnyH_take (i := 18) (v := .bool z) rfl (by kernel_rfl) (by kernel_rfl) (by kernel_rfl) (fun _ _ _ h => h) (Or.inl ⟨by rfl, fun W hSW => ?_⟩) hHeld ?_
                      · ((try dsimp only at hSW); go_split_ands; go_simp <;> with_reducible rfl)
                      try simp only [List.getElem_toArray, List.getElem_cons_succ, List.getElem_cons_zero, Act.put, List.setIfInBounds_toArray, List.set_cons_zero, List.set_cons_succ]
                      refine wpAnyH_done (by kernel_rfl) ?_ _
                      clear hHeld
                      go_wp2_with fail
                      go_meet
                      case rel => exact ⟨_, rfl, rfl, (HX0.out.on F7_base.out), F7_lab.out, Nat.le_trans HX0.out.2.1 F6_ge_lab.out⟩
                    exact AllReadyH.nil
                  exact AllReadyH.nil
                exact AllReadyH.nil
              exact AllReadyH.nil
            refine AllReadyH.cons rfl (fun K hK => ?_) ?_
            · try simp only [List.getElem_toArray, List.getElem_cons_succ, List.getElem_cons_zero]
              go_simp
              obtain ⟨wy3, ey⟩ : ∃ y, y = wy2.alloc (.cells #[.int .i64 0, .int .u64 0] 38) := ⟨_, rfl⟩
              rw [← ey]
              have hb : Below wy2.heap.size wy2 wy3 := by rw [ey]; exact (Below.refl _ _).alloc (Nat.le_refl _) _
              have F3_base := Lib.hid (F2_base.out.trans (hb.mono F2_base.out.size))
              have F3_lu := Lib.hid ((hb.block _ (Array.getElem?_eq_some_iff.1 F2_lu.out).1).trans F2_lu.out)
              have F3_ge_lu := Lib.hid (F2_ge_lu.out)
              have F3_ll := Lib.hid ((hb.block _ (Array.getElem?_eq_some_iff.1 F2_ll.out).1).trans F2_ll.out)
              have F3_ge_ll := Lib.hid (G2_ll.out)
              have F3_lab := Lib.hid (show wy3.heap[wy2.heap.size]? = some (.cells #[.int .i64 0, .int .u64 0] 38) by rw [ey]; exact heap_alloc_new _ _)
              have G3_lab := Lib.hid (show w0.heap.size ≤ wy2.heap.size from F2_base.out.size)
              clear ey hb
              refine hK.out _ _ ?_ (fun hHeld => ?_)
              · exact (HX0.out.on F3_base.out).cells
              clear hK K
              try simp only [List.getElem_toArray, List.getElem_cons_succ, List.getElem_cons_zero, Act.put, List.setIfInBounds_toArray, List.set_cons_zero, List.set_cons_succ]
              refine wpAnyH_ready (rs := [3]) (by kernel_rfl) (by simp) ?_
              refine AllReadyH.cons rfl (fun K hK => ?_) ?_
              · refine step_append_anyS rfl (.tmp 18) (.tmp 20) 22 rfl w0.heap.size 36 i0 (.int .u64 0) 1 8 Tryd.underlying22 hi0 hz0 hz1 hz2 rfl (by decide) (.slice (some ⟨w0.heap.size, 0, none⟩) 0 0) 0 [] (by rfl) (lit_rowS F3_lu.out F3_ge_lu.out) (.slice ua xs.length uc) xs.length (xs.map (Value.int .u64)) (by rfl) (by simp) (nums_src ((HU.out.below (HX0.out.on F3_base.out).1).mono (HX0.out.on F3_base.out).1.size) HNN.out) (by intro u hu; obtain ⟨x, _, rfl⟩ := List.mem_map.1 hu; rfl) (by unfold maxLen; omega) (by omega) F3_base.out.size ?_
                intro vup wy4 ho hg
                have F4_base := Lib.hid (F3_base.out.grown hg F3_base.out.size (fun k e => by cases e; exact F3_ge_lu.out))
                have F4_ll := Lib.hid (lit_keep hg F3_lu.out F3_ll.out (by decide))
                have F4_ge_ll := Lib.hid (F3_ge_ll.out)
                have F4_lab := Lib.hid (lab_keep hg F3_lu.out F3_lab.out (by simp))
                have F4_ge_lab := Lib.hid (G3_lab.out)
                have F4_up := Lib.hid (own0S ho)
                obtain ⟨aup, cup, rfl⟩ := SS.ownOf F4_up.out
                clear ho hg
                refine hK.out _ _ ?_ (fun hHeld => ?_)
                · exact (HX0.out.on F4_base.out).cells
                clear hK K
                try simp only [List.getElem_toArray, List.getElem_cons_succ, List.getElem_cons_zero, Act.put, List.setIfInBounds_toArray, List.set_cons_zero, List.set_cons_succ]
                refine wpAnyH_ready (rs := [9]) (by kernel_rfl) (by simp) ?_
                refine AllReadyH.cons rfl (fun K hK => ?_) ?_
                · refine step_append_anyS rfl (.tmp 24) (.tmp 26) 23 rfl w0.heap.size 38 j0 (.agg #[.int .i64 0, .int .u64 0]) 2 16 Tryd.underlying23 hj0 hw0 hw1 hw2 rfl (by decide) (.slice (some ⟨wy1.heap.size, 0, none⟩) 0 0) 0 [] (by rfl) (lit_rowS F4_ll.out F4_ge_ll.out) (.slice aa args.length ac) args.length (labV args) (by rfl) (labV_len args) ((HA.out.below (HX0.out.on F4_base.out).1).src) (labV_one args) (by unfold maxLen; omega) (by omega) F4_base.out.size ?_
                  intro val wy5 ho hg
                  have F5_base := Lib.hid (F4_base.out.grown hg F4_base.out.size (fun k e => by cases e; exact F4_ge_ll.out))
                  have F5_lab := Lib.hid (lab_keep hg F4_ll.out F4_lab.out (by simp))
                  have F5_ge_lab := Lib.hid (F4_ge_lab.out)
                  have F5_up := Lib.hid (F4_up.out.kept hg (GG.own_types F4_up.out (lit_rowS (size := 2) F4_ll.out F4_ge_ll.out) (by decide)))
                  have F5_al := Lib.hid (own0S ho)
                  obtain ⟨aal, cal, rfl⟩ := SS.ownOf F5_al.out
                  clear ho hg
                  refine hK.out _ _ ?_ (fun hHeld => ?_)
                  · exact (HX0.out.on F5_base.out).cells
                  clear hK K
                  try simp only [List.getElem_toArray, List.getElem_cons_succ, List.getElem_cons_zero, Act.put, List.setIfInBounds_toArray, List.set_cons_zero, List.set_cons_succ]
                  refine wpAnyH_ready (rs := [12]) (by kernel_rfl) (by simp) ?_
                  refine AllReadyH.cons rfl (fun K hK => ?_) ?_
                  · try simp only [List.getElem_toArray, List.getElem_cons_succ, List.getElem_cons_zero]
                    go_simp
                    (go_at_call 23; refine (HJ.out wy5 (HX0.out.on F5_base.out).1 (nums_of_row F5_up.out) (lab_ownV F5_al.out)).mono ?_; rintro e wy6 ⟨rfl, hb⟩; rw [HJR.out])
                    have F6_base := Lib.hid (F5_base.out.trans (hb.mono F5_base.out.size))
                    have F6_lab := Lib.hid ((hb.block _ (Array.getElem?_eq_some_iff.1 F5_lab.out).1).trans F5_lab.out)
                    have F6_ge_lab := Lib.hid (F5_ge_lab.out)
                    have F6_up := Lib.hid (SS.own_of_block F5_up.out (fun k e => hb.block k (F5_up.out.lt k e).2))
                    have F6_al := Lib.hid (SS.own_of_block F5_al.out (fun k e => hb.block k (F5_al.out.lt k e).2))
                    clear hb
                    try go_wp2_with fail
                    refine hK.out _ _ ?_ (fun hHeld => ?_)
                    · exact (HX0.out.on F6_base.out).cells
                    clear hK K
                    try simp only [List.getElem_toArray, List.getElem_cons_succ, List.getElem_cons_zero, Act.put, List.setIfInBounds_toArray, List.set_cons_zero, List.set_cons_succ]
                    refine wpAnyH_take (i := 13) (v := .tuple #[.agg #[.int .i64 y1, .int .u64 y2], .bool z]) rfl (by kernel_rfl) (by kernel_rfl) (by kernel_rfl) (fun _ _ _ h => h) (Or.inl ⟨by rfl, fun W hSW => ?_⟩) hHeld ?_
                    · ((try dsimp only at hSW); go_split_ands; go_simp <;> with_reducible rfl)
                    try simp only [List.getElem_toArray, List.getElem_cons_succ, List.getElem_cons_zero, Act.put, List.setIfInBounds_toArray, List.set_cons_zero, List.set_cons_succ]
                    refine wpAnyH_take (i := 14) (v := .agg #[.int .i64 y1, .int .u64 y2]) rfl (by kernel_rfl) (by kernel_rfl) (by kernel_rfl) (fun _ _ _ h => h) (Or.inl ⟨by rfl, fun W hSW => ?_⟩) hHeld ?_
                    · ((try dsimp only at hSW); go_split_ands; go_simp <;> with_reducible rfl)
                    try simp only [List.getElem_toArray, List.getElem_cons_succ, List.getElem_cons_zero, Act.put, List.setIfInBounds_toArray, List.set_cons_zero, List.set_cons_succ]
                    refine wpAnyH_take (i := 15) (v := .bool z) rfl (by kernel_rfl) (by kernel_rfl) (by kernel_rfl) (fun _ _ _ h => h) (Or.inl ⟨by rfl, fun W hSW => ?_⟩) hHeld ?_
                    · ((try dsimp only at hSW); go_split_ands; go_simp <;> with_reducible rfl)
                    try simp only [List.getElem_toArray, List.getElem_cons_succ, List.getElem_cons_zero, Act.put, List.setIfInBounds_toArray, List.set_cons_zero, List.set_cons_succ]
                    refine wpAnyH_ready (rs := [17]) (by kernel_rfl) (by simp) ?_
                    refine AllReadyH.cons rfl (fun K hK => ?_) ?_
                    · obtain ⟨s0, s1, s2, s3⟩ := one_lab F6_lab.out
                      try simp only [List.getElem_toArray, List.getElem_cons_succ, List.getElem_cons_zero]
                      go_simp
                      have hs := (put_lab F6_lab.out (y1) (y2)).1
                      have hbs := (F6_base.out.setCell (p := ⟨wy2.heap.size, 0, none⟩) F6_ge_lab.out (.int .i64 (y1))).setCell (p := ⟨wy2.heap.size, 1, none⟩) F6_ge_lab.out (.int .u64 (y2))
                      generalize (wy6.setCell ⟨wy2.heap.size, 0, none⟩ (.int .i64 (y1))).setCell ⟨wy2.heap.size, 1, none⟩ (.int .u64 (y2)) = wy7 at hs hbs ⊢
                      have F7_base := Lib.hid hbs
                      have F7_lab := Lib.hid hs
                      clear hs hbs s0 s1 s2 s3
                      refine hK.out _ _ ?_ (fun hHeld => ?_)
                      · exact (HX0.out.on F7_base.out).cells
                      clear hK K
                      try simp only [List.getElem_toArray, List.getElem_cons_succ, List.getElem_cons_zero, Act.put, List.setIfInBounds_toArray, List.set_cons_zero, List.set_cons_succ]
                      refine wpAnyH_take (i := 18) (v := .bool z) rfl (by kernel_rfl) (by kernel_rfl) (by kernel_rfl) (fun _ _ _ h => h) (Or.inl ⟨by rfl, fun W hSW => ?_⟩) hHeld ?_
                      · ((try dsimp only at hSW); go_split_ands; go_simp <;> with_reducible rfl)
                      try simp only [List.getElem_toArray, List.getElem_cons_succ, List.getElem_cons_zero, Act.put, List.setIfInBounds_toArray, List.set_cons_zero, List.set_cons_succ]
                      refine wpAnyH_done (by kernel_rfl) ?_ _
                      clear hHeld
                      go_wp2_with fail
                      go_meet
                      case rel => exact ⟨_, rfl, rfl, (HX0.out.on F7_base.out), F7_lab.out, Nat.le_trans HX0.out.2.1 F6_ge_lab.out⟩
                    exact AllReadyH.nil
                  exact AllReadyH.nil
                exact AllReadyH.nil
              exact AllReadyH.nil
            exact AllReadyH.nil
          refine AllReadyH.cons rfl (fun K hK => ?_) ?_
          · try simp only [List.getElem_toArray, List.getElem_cons_succ, List.getElem_cons_zero]
            go_simp
            obtain ⟨wy2, ey⟩ : ∃ y, y = wy1.alloc (.cells #[.int .i64 0, .int .u64 0] 38) := ⟨_, rfl⟩
            rw [← ey]
            have hb : Below wy1.heap.size wy1 wy2 := by rw [ey]; exact (Below.refl _ _).alloc (Nat.le_refl _) _
            have F2_base := Lib.hid (F1_base.out.trans (hb.mono F1_base.out.size))
            have F2_lu := Lib.hid ((hb.block _ (Array.getElem?_eq_some_iff.1 F1_lu.out).1).trans F1_lu.out)
            have F2_ge_lu := Lib.hid (G1_lu.out)
            have F2_lab := Lib.hid (show wy2.heap[wy1.heap.size]? = some (.cells #[.int .i64 0, .int .u64 0] 38) by rw [ey]; exact heap_alloc_new _ _)
            have G2_lab := Lib.hid (show w0.heap.size ≤ wy1.heap.size from F1_base.out.size)
            clear ey hb
            refine hK.out _ _ ?_ (fun hHeld => ?_)
            · exact (HX0.out.on F2_base.out).cells
            clear hK K
            try simp only [List.getElem_toArray, List.getElem_cons_succ, List.getElem_cons_zero, Act.put, List.setIfInBounds_toArray, List.set_cons_zero, List.set_cons_succ]
            refine wpAnyH_ready (rs := [3, 6]) (by kernel_rfl) (by simp) ?_
            refine AllReadyH.cons rfl (fun K hK => ?_) ?_
            · refine step_append_anyS rfl (.tmp 18) (.tmp 20) 22 rfl w0.heap.size 36 i0 (.int .u64 0) 1 8 Tryd.underlying22 hi0 hz0 hz1 hz2 rfl (by decide) (.slice (some ⟨w0.heap.size, 0, none⟩) 0 0) 0 [] (by rfl) (lit_rowS F2_lu.out F2_ge_lu.out) (.slice ua xs.length uc) xs.length (xs.map (Value.int .u64)) (by rfl) (by simp) (nums_src ((HU.out.below (HX0.out.on F2_base.out).1).mono (HX0.out.on F2_base.out).1.size) HNN.out) (by intro u hu; obtain ⟨x, _, rfl⟩ := List.mem_map.1 hu; rfl) (by unfold maxLen; omega) (by omega) F2_base.out.size ?_
              intro vup wy3 ho hg
              have F3_base := Lib.hid (F2_base.out.grown hg F2_base.out.size (fun k e => by cases e; exact F2_ge_lu.out))
              have F3_lab := Lib.hid (lab_keep hg F2_lu.out F2_lab.out (by simp))
              have F3_ge_lab := Lib.hid (G2_lab.out)
              have F3_up := Lib.hid (own0S ho)
              obtain ⟨aup, cup, rfl⟩ := SS.ownOf F3_up.out
              clear ho hg
              refine hK.out _ _ ?_ (fun hHeld => ?_)
              · exact (HX0.out.on F3_base.out).cells
              clear hK K
              try simp only [List.getElem_toArray, List.getElem_cons_succ, List.getElem_cons_zero, Act.put, List.setIfInBounds_toArray, List.set_cons_zero, List.set_cons_succ]
              refine wpAnyH_ready (rs := [6]) (by kernel_rfl) (by simp) ?_
              refine AllReadyH.cons rfl (fun K hK => ?_) ?_
              · try simp only [List.getElem_toArray, List.getElem_cons_succ, List.getElem_cons_zero]
                go_simp
                obtain ⟨wy4, ey⟩ : ∃ y, y = wy3.alloc (.cells #[] 38) := ⟨_, rfl⟩
                rw [← ey]
                have hb : Below wy3.heap.size wy3 wy4 := by rw [ey]; exact (Below.refl _ _).alloc (Nat.le_refl _) _
                have F4_base := Lib.hid (F3_base.out.trans (hb.mono F3_base.out.size))
                have F4_lab := Lib.hid ((hb.block _ (Array.getElem?_eq_some_iff.1 F3_lab.out).1).trans F3_lab.out)
                have F4_ge_lab := Lib.hid (F3_ge_lab.out)
                have F4_up := Lib.hid (SS.own_of_block F3_up.out (fun k e => hb.block k (F3_up.out.lt k e).2))
                have F4_ll := Lib.hid (show wy4.heap[wy3.heap.size]? = some (.cells #[] 38) by rw [ey]; exact heap_alloc_new _ _)
                have G4_ll := Lib.hid (show w0.heap.size ≤ wy3.heap.size from F3_base.out.size)
                clear ey hb
                refine hK.out _ _ ?_ (fun hHeld => ?_)
                · exact (HX0.out.on F4_base.out).cells
                clear hK K
                try simp only [List.getElem_toArray, List.getElem_cons_succ, List.getElem_cons_zero, Act.put, List.setIfInBounds_toArray, List.set_cons_zero, List.set_cons_succ]
                refine wpAnyH_ready (rs := [9]) (by kernel_rfl) (by simp) ?_
                refine AllReadyH.cons rfl (fun K hK => ?_) ?_
                · refine step_append_anyS rfl (.tmp 24) (.tmp 26) 23 rfl w0.heap.size 38 j0 (.agg #[.int .i64 0, .int .u64 0]) 2 16 Tryd.underlying23 hj0 hw0 hw1 hw2 rfl (by decide) (.slice (some ⟨wy3.heap.size, 0, none⟩) 0 0) 0 [] (by rfl) (lit_rowS F4_ll.out G4_ll.out) (.slice aa args.length ac) args.length (labV args) (by rfl) (labV_len args) ((HA.out.below (HX0.out.on F4_base.out).1).src) (labV_one args) (by unfold maxLen; omega) (by omega) F4_base.out.size ?_
                  intro val wy5 ho hg
                  have F5_base := Lib.hid (F4_base.out.grown hg F4_base.out.size (fun k e => by cases e; exact G4_ll.out))
                  have F5_lab := Lib.hid (lab_keep hg F4_ll.out F4_lab.out (by simp))
                  have F5_ge_lab := Lib.hid (F4_ge_lab.out)
                  have F5_up := Lib.hid (F4_up.out.kept hg (GG.own_types F4_up.out (lit_rowS (size := 2) F4_ll.out G4_ll.out) (by decide)))
                  have F5_al := Lib.hid (own0S ho)
                  obtain ⟨aal, cal, rfl⟩ := SS.ownOf F5_al.out
                  clear ho hg
                  refine hK.out _ _ ?_ (fun hHeld => ?_)
                  · exact (HX0.out.on F5_base.out).cells
                  clear hK K
                  try simp only [List.getElem_toArray, List.getElem_cons_succ, List.getElem_cons_zero, Act.put, List.setIfInBounds_toArray, List.set_cons_zero, List.set_cons_succ]
                  refine wpAnyH_ready (rs := [12]) (by kernel_rfl) (by simp) ?_
                  refine AllReadyH.cons rfl (fun K hK => ?_) ?_
                  · try simp only [List.getElem_toArray, List.getElem_cons_succ, List.getElem_cons_zero]
                    go_simp
                    (go_at_call 23; refine (HJ.out wy5 (HX0.out.on F5_base.out).1 (nums_of_row F5_up.out) (lab_ownV F5_al.out)).mono ?_; rintro e wy6 ⟨rfl, hb⟩; rw [HJR.out])
                    have F6_base := Lib.hid (F5_base.out.trans (hb.mono F5_base.out.size))
                    have F6_lab := Lib.hid ((hb.block _ (Array.getElem?_eq_some_iff.1 F5_lab.out).1).trans F5_lab.out)
                    have F6_ge_lab := Lib.hid (F5_ge_lab.out)
                    have F6_up := Lib.hid (SS.own_of_block F5_up.out (fun k e => hb.block k (F5_up.out.lt k e).2))
                    have F6_al := Lib.hid (SS.own_of_block F5_al.out (fun k e => hb.block k (F5_al.out.lt k e).2))
                    clear hb
                    try go_wp2_with fail
                    refine hK.out _ _ ?_ (fun hHeld => ?_)
                    · exact (HX0.out.on F6_base.out).cells
                    clear hK K
                    try simp only [List.getElem_toArray, List.getElem_cons_succ, List.getElem_cons_zero, Act.put, List.setIfInBounds_toArray, List.set_cons_zero, List.set_cons_succ]
                    refine wpAnyH_take (i := 13) (v := .tuple #[.agg #[.int .i64 y1, .int .u64 y2], .bool z]) rfl (by kernel_rfl) (by kernel_rfl) (by kernel_rfl) (fun _ _ _ h => h) (Or.inl ⟨by rfl, fun W hSW => ?_⟩) hHeld ?_
                    · ((try dsimp only at hSW); go_split_ands; go_simp <;> with_reducible rfl)
                    try simp only [List.getElem_toArray, List.getElem_cons_succ, List.getElem_cons_zero, Act.put, List.setIfInBounds_toArray, List.set_cons_zero, List.set_cons_succ]
                    refine wpAnyH_take (i := 14) (v := .agg #[.int .i64 y1, .int .u64 y2]) rfl (by kernel_rfl) (by kernel_rfl) (by kernel_rfl) (fun _ _ _ h => h) (Or.inl ⟨by rfl, fun W hSW => ?_⟩) hHeld ?_
                    · ((try dsimp only at hSW); go_split_ands; go_simp <;> with_reducible rfl)
                    try simp only [List.getElem_toArray, List.getElem_cons_succ, List.getElem_cons_zero, Act.put, List.setIfInBounds_toArray, List.set_cons_zero, List.set_cons_succ]
                    refine wpAnyH_take (i := 15) (v := .bool z) rfl (by kernel_rfl) (by kernel_rfl) (by kernel_rfl) (fun _ _ _ h => h) (Or.inl ⟨by rfl, fun W hSW => ?_⟩) hHeld ?_
                    · ((try dsimp only at hSW); go_split_ands; go_simp <;> with_reducible rfl)
                    try simp only [List.getElem_toArray, List.getElem_cons_succ, List.getElem_cons_zero, Act.put, List.setIfInBounds_toArray, List.set_cons_zero, List.set_cons_succ]
                    refine wpAnyH_ready (rs := [17]) (by kernel_rfl) (by simp) ?_
                    refine AllReadyH.cons rfl (fun K hK => ?_) ?_
                    · obtain ⟨s0, s1, s2, s3⟩ := one_lab F6_lab.out
                      try simp only [List.getElem_toArray, List.getElem_cons_succ, List.getElem_cons_zero]
                      go_simp
                      have hs := (put_lab F6_lab.out (y1) (y2)).1
                      have hbs := (F6_base.out.setCell (p := ⟨wy1.heap.size, 0, none⟩) F6_ge_lab.out (.int .i64 (y1))).setCell (p := ⟨wy1.heap.size, 1, none⟩) F6_ge_lab.out (.int .u64 (y2))
                      generalize (wy6.setCell ⟨wy1.heap.size, 0, none⟩ (.int .i64 (y1))).setCell ⟨wy1.heap.size, 1, none⟩ (.int .u64 (y2)) = wy7 at hs hbs ⊢
                      have F7_base := Lib.hid hbs
                      have F7_lab := Lib.hid hs
                      clear hs hbs s0 s1 s2 s3
                      refine hK.out _ _ ?_ (fun hHeld => ?_)
                      · exact (HX0.out.on F7_base.out).cells
                      clear hK K
                      try simp only [List.getElem_toArray, List.getElem_cons_succ, List.getElem_cons_zero, Act.put, List.setIfInBounds_toArray, List.set_cons_zero, List.set_cons_succ]
                      refine wpAnyH_take (i := 18) (v := .bool z) rfl (by kernel_rfl) (by kernel_rfl) (by kernel_rfl) (fun _ _ _ h => h) (Or.inl ⟨by rfl, fun W hSW => ?_⟩) hHeld ?_
                      · ((try dsimp only at hSW); go_split_ands; go_simp <;> with_reducible rfl)
                      try simp only [List.getElem_toArray, List.getElem_cons_succ, List.getElem_cons_zero, Act.put, List.setIfInBounds_toArray, List.set_cons_zero, List.set_cons_succ]
                      refine wpAnyH_done (by kernel_rfl) ?_ _
                      clear hHeld
                      go_wp2_with fail
                      go_meet
                      case rel => exact ⟨_, rfl, rfl, (HX0.out.on F7_base.out), F7_lab.out, Nat.le_trans HX0.out.2.1 F6_ge_lab.out⟩
                    exact AllReadyH.nil
                  exact AllReadyH.nil
                exact AllReadyH.nil
              exact AllReadyH.nil
            refine AllReadyH.cons rfl (fun K hK => ?_) ?_
            · try simp only [List.getElem_toArray, List.getElem_cons_succ, List.getElem_cons_zero]
              go_simp
              obtain ⟨wy3, ey⟩ : ∃ y, y = wy2.alloc (.cells #[] 38) := ⟨_, rfl⟩
              rw [← ey]
              have hb : Below wy2.heap.size wy2 wy3 := by rw [ey]; exact (Below.refl _ _).alloc (Nat.le_refl _) _
              have F3_base := Lib.hid (F2_base.out.trans (hb.mono F2_base.out.size))
              have F3_lu := Lib.hid ((hb.block _ (Array.getElem?_eq_some_iff.1 F2_lu.out).1).trans F2_lu.out)
              have F3_ge_lu := Lib.hid (F2_ge_lu.out)
              have F3_lab := Lib.hid ((hb.block _ (Array.getElem?_eq_some_iff.1 F2_lab.out).1).trans F2_lab.out)
              have F3_ge_lab := Lib.hid (G2_lab.out)
              have F3_ll := Lib.hid (show wy3.heap[wy2.heap.size]? = some (.cells #[] 38) by rw [ey]; exact heap_alloc_new _ _)
              have G3_ll := Lib.hid (show w0.heap.size ≤ wy2.heap.size from F2_base.out.size)
              clear ey hb
              refine hK.out _ _ ?_ (fun hHeld => ?_)
              · exact (HX0.out.on F3_base.out).cells
              clear hK K
              try simp only [List.getElem_toArray, List.getElem_cons_succ, List.getElem_cons_zero, Act.put, List.setIfInBounds_toArray, List.set_cons_zero, List.set_cons_succ]
              refine wpAnyH_ready (rs := [3]) (by kernel_rfl) (by simp) ?_
              refine AllReadyH.cons rfl (fun K hK => ?_) ?_
              · refine step_append_anyS rfl (.tmp 18) (.tmp 20) 22 rfl w0.heap.size 36 i0 (.int .u64 0) 1 8 Tryd.underlying22 hi0 hz0 hz1 hz2 rfl (by decide) (.slice (some ⟨w0.heap.size, 0, none⟩) 0 0) 0 [] (by rfl) (lit_rowS F3_lu.out F3_ge_lu.out) (.slice ua xs.length uc) xs.length (xs.map (Value.int .u64)) (by rfl) (by simp) (nums_src ((HU.out.below (HX0.out.on F3_base.out).1).mono (HX0.out.on F3_base.out).1.size) HNN.out) (by intro u hu; obtain ⟨x, _, rfl⟩ := List.mem_map.1 hu; rfl) (by unfold maxLen; omega) (by omega) F3_base.out.size ?_
                intro vup wy4 ho hg
                have F4_base := Lib.hid (F3_base.out.grown hg F3_base.out.size (fun k e => by cases e; exact F3_ge_lu.out))
                have F4_lab := Lib.hid (lab_keep hg F3_lu.out F3_lab.out (by simp))
                have F4_ge_lab := Lib.hid (F3_ge_lab.out)
                have F4_ll := Lib.hid (lit_keep hg F3_lu.out F3_ll.out (by decide))
                have F4_ge_ll := Lib.hid (G3_ll.out)
                have F4_up := Lib.hid (own0S ho)
                obtain ⟨aup, cup, rfl⟩ := SS.ownOf F4_up.out
                clear ho hg
                refine hK.out _ _ ?_ (fun hHeld => ?_)
                · exact (HX0.out.on F4_base.out).cells
                clear hK K
                try simp only [List.getElem_toArray, List.getElem_cons_succ, List.getElem_cons_zero, Act.put, List.setIfInBounds_toArray, List.set_cons_zero, List.set_cons_succ]
                refine wpAnyH_ready (rs := [9]) (by kernel_rfl) (by simp) ?_
                refine AllReadyH.cons rfl (fun K hK => ?_) ?_
                · refine step_append_anyS rfl (.tmp 24) (.tmp 26) 23 rfl w0.heap.size 38 j0 (.agg #[.int .i64 0, .int .u64 0]) 2 16 Tryd.underlying23 hj0 hw0 hw1 hw2 rfl (by decide) (.slice (some ⟨wy2.heap.size, 0, none⟩) 0 0) 0 [] (by rfl) (lit_rowS F4_ll.out F4_ge_ll.out) (.slice aa args.length ac) args.length (labV args) (by rfl) (labV_len args) ((HA.out.below (HX0.out.on F4_base.out).1).src) (labV_one args) (by unfold maxLen; omega) (by omega) F4_base.out.size ?_
                  intro val wy5 ho hg
                  have F5_base := Lib.hid (F4_base.out.grown hg F4_base.out.size (fun k e => by cases e; exact F4_ge_ll.out))
                  have F5_lab := Lib.hid (lab_keep hg F4_ll.out F4_lab.out (by simp))
                  have F5_ge_lab := Lib.hid (F4_ge_lab.out)
                  have F5_up := Lib.hid (F4_up.out.kept hg (GG.own_types F4_up.out (lit_rowS (size := 2) F4_ll.out F4_ge_ll.out) (by decide)))
                  have F5_al := Lib.hid (own0S ho)
                  obtain ⟨aal, cal, rfl⟩ := SS.ownOf F5_al.out
                  clear ho hg
                  refine hK.out _ _ ?_ (fun hHeld => ?_)
                  · exact (HX0.out.on F5_base.out).cells
                  clear hK K
                  try simp only [List.getElem_toArray, List.getElem_cons_succ, List.getElem_cons_zero, Act.put, List.setIfInBounds_toArray, List.set_cons_zero, List.set_cons_succ]
                  refine wpAnyH_ready (rs := [12]) (by kernel_rfl) (by simp) ?_
                  refine AllReadyH.cons rfl (fun K hK => ?_) ?_
                  · try simp only [List.getElem_toArray, List.getElem_cons_succ, List.getElem_cons_zero]
                    go_simp
                    (go_at_call 23; refine (HJ.out wy5 (HX0.out.on F5_base.out).1 (nums_of_row F5_up.out) (lab_ownV F5_al.out)).mono ?_; rintro e wy6 ⟨rfl, hb⟩; rw [HJR.out])
                    have F6_base := Lib.hid (F5_base.out.trans (hb.mono F5_base.out.size))
                    have F6_lab := Lib.hid ((hb.block _ (Array.getElem?_eq_some_iff.1 F5_lab.out).1).trans F5_lab.out)
                    have F6_ge_lab := Lib.hid (F5_ge_lab.out)
                    have F6_up := Lib.hid (SS.own_of_block F5_up.out (fun k e => hb.block k (F5_up.out.lt k e).2))
                    have F6_al := Lib.hid (SS.own_of_block F5_al.out (fun k e => hb.block k (F5_al.out.lt k e).2))
                    clear hb
                    try go_wp2_with fail
                    refine hK.out _ _ ?_ (fun hHeld => ?_)
                    · exact (HX0.out.on F6_base.out).cells
                    clear hK K
                    try simp only [List.getElem_toArray, List.getElem_cons_succ, List.getElem_cons_zero, Act.put, List.setIfInBounds_toArray, List.set_cons_zero, List.set_cons_succ]
                    refine wpAnyH_take (i := 13) (v := .tuple #[.agg #[.int .i64 y1, .int .u64 y2], .bool z]) rfl (by kernel_rfl) (by kernel_rfl) (by kernel_rfl) (fun _ _ _ h => h) (Or.inl ⟨by rfl, fun W hSW => ?_⟩) hHeld ?_
                    · ((try dsimp only at hSW); go_split_ands; go_simp <;> with_reducible rfl)
                    try simp only [List.getElem_toArray, List.getElem_cons_succ, List.getElem_cons_zero, Act.put, List.setIfInBounds_toArray, List.set_cons_zero, List.set_cons_succ]
                    refine wpAnyH_take (i := 14) (v := .agg #[.int .i64 y1, .int .u64 y2]) rfl (by kernel_rfl) (by kernel_rfl) (by kernel_rfl) (fun _ _ _ h => h) (Or.inl ⟨by rfl, fun W hSW => ?_⟩) hHeld ?_
                    · ((try dsimp only at hSW); go_split_ands; go_simp <;> with_reducible rfl)
                    try simp only [List.getElem_toArray, List.getElem_cons_succ, List.getElem_cons_zero, Act.put, List.setIfInBounds_toArray, List.set_cons_zero, List.set_cons_succ]
                    refine wpAnyH_take (i := 15) (v := .bool z) rfl (by kernel_rfl) (by kernel_rfl) (by kernel_rfl) (fun _ _ _ h => h) (Or.inl ⟨by rfl, fun W hSW => ?_⟩) hHeld ?_
                    · ((try dsimp only at hSW); go_split_ands; go_simp <;> with_reducible rfl)
                    try simp only [List.getElem_toArray, List.getElem_cons_succ, List.getElem_cons_zero, Act.put, List.setIfInBounds_toArray, List.set_cons_zero, List.set_cons_succ]
                    refine wpAnyH_ready (rs := [17]) (by kernel_rfl) (by simp) ?_
                    refine AllReadyH.cons rfl (fun K hK => ?_) ?_
                    · obtain ⟨s0, s1, s2, s3⟩ := one_lab F6_lab.out
                      try simp only [List.getElem_toArray, List.getElem_cons_succ, List.getElem_cons_zero]
                      go_simp
                      have hs := (put_lab F6_lab.out (y1) (y2)).1
                      have hbs := (F6_base.out.setCell (p := ⟨wy1.heap.size, 0, none⟩) F6_ge_lab.out (.int .i64 (y1))).setCell (p := ⟨wy1.heap.size, 1, none⟩) F6_ge_lab.out (.int .u64 (y2))
                      generalize (wy6.setCell ⟨wy1.heap.size, 0, none⟩ (.int .i64 (y1))).setCell ⟨wy1.heap.size, 1, none⟩ (.int .u64 (y2)) = wy7 at hs hbs ⊢
                      have F7_base := Lib.hid hbs
                      have F7_lab := Lib.hid hs
                      clear hs hbs s0 s1 s2 s3
                      refine hK.out _ _ ?_ (fun hHeld => ?_)
                      · exact (HX0.out.on F7_base.out).cells
                      clear hK K
                      try simp only [List.getElem_toArray, List.getElem_cons_succ, List.getElem_cons_zero, Act.put, List.setIfInBounds_toArray, List.set_cons_zero, List.set_cons_succ]
                      refine wpAnyH_take (i := 18) (v := .bool z) rfl (by kernel_rfl) (by kernel_rfl) (by kernel_rfl) (fun _ _ _ h => h) (Or.inl ⟨by rfl, fun W hSW => ?_⟩) hHeld ?_
                      · ((try dsimp only at hSW); go_split_ands; go_simp <;> with_reducible rfl)
                      try simp only [List.getElem_toArray, List.getElem_cons_succ, List.getElem_cons_zero, Act.put, List.setIfInBounds_toArray, List.set_cons_zero, List.set_cons_succ]
                      refine wpAnyH_done (by kernel_rfl) ?_ _
                      clear hHeld
                      go_wp2_with fail
                      go_meet
                      case rel => exact ⟨_, rfl, rfl, (HX0.out.on F7_base.out), F7_lab.out, Nat.le_trans HX0.out.2.1 F6_ge_lab.out⟩
                    exact AllReadyH.nil
                  exact AllReadyH.nil
                exact AllReadyH.nil
              exact AllReadyH.nil
            exact AllReadyH.nil
          exact AllReadyH.nil
        refine AllReadyH.cons rfl (fun K hK => ?_) ?_
        · try simp only [List.getElem_toArray, List.getElem_cons_succ, List.getElem_cons_zero]
          go_simp
          obtain ⟨wy1, ey⟩ : ∃ y, y = w0.alloc (.cells #[] 38) := ⟨_, rfl⟩
          rw [← ey]
          have hb : Below w0.heap.size w0 wy1 := by rw [ey]; exact (Below.refl _ _).alloc (Nat.le_refl _) _
          have F1_base := Lib.hid (HR0.out.trans (hb.mono HR0.out.size))
          have F1_ll := Lib.hid (show wy1.heap[w0.heap.size]? = some (.cells #[] 38) by rw [ey]; exact heap_alloc_new _ _)
          have G1_ll := Lib.hid (show w0.heap.size ≤ w0.heap.size from HR0.out.size)
          clear ey hb
          refine hK.out _ _ ?_ (fun hHeld => ?_)
          · exact (HX0.out.on F1_base.out).cells
          clear hK K
          try simp only [List.getElem_toArray, List.getElem_cons_succ, List.getElem_cons_zero, Act.put, List.setIfInBounds_toArray, List.set_cons_zero, List.set_cons_succ]
          refine wpAnyH_ready (rs := [0, 16]) (by kernel_rfl) (by simp) ?_
          refine AllReadyH.cons rfl (fun K hK => ?_) ?_
          · try simp only [List.getElem_toArray, List.getElem_cons_succ, List.getElem_cons_zero]
            go_simp
            obtain ⟨wy2, ey⟩ : ∃ y, y = wy1.alloc (.cells #[] 36) := ⟨_, rfl⟩
            rw [← ey]
            have hb : Below wy1.heap.size wy1 wy2 := by rw [ey]; exact (Below.refl _ _).alloc (Nat.le_refl _) _
            have F2_base := Lib.hid (F1_base.out.trans (hb.mono F1_base.out.size))
            have F2_ll := Lib.hid ((hb.block _ (Array.getElem?_eq_some_iff.1 F1_ll.out).1).trans F1_ll.out)
            have F2_ge_ll := Lib.hid (G1_ll.out)
            have F2_lu := Lib.hid (show wy2.heap[wy1.heap.size]? = some (.cells #[] 36) by rw [ey]; exact heap_alloc_new _ _)
            have G2_lu := Lib.hid (show w0.heap.size ≤ wy1.heap.size from F1_base.out.size)
            clear ey hb
            refine hK.out _ _ ?_ (fun hHeld => ?_)
            · exact (HX0.out.on F2_base.out).cells
            clear hK K
            try simp only [List.getElem_toArray, List.getElem_cons_succ, List.getElem_cons_zero, Act.put, List.setIfInBounds_toArray, List.set_cons_zero, List.set_cons_succ]
            refine wpAnyH_ready (rs := [3, 16]) (by kernel_rfl) (by simp) ?_
            refine AllReadyH.cons rfl (fun K hK => ?_) ?_
            · refine step_append_anyS rfl (.tmp 18) (.tmp 20) 22 rfl w0.heap.size 36 i0 (.int .u64 0) 1 8 Tryd.underlying22 hi0 hz0 hz1 hz2 rfl (by decide) (.slice (some ⟨wy1.heap.size, 0, none⟩) 0 0) 0 [] (by rfl) (lit_rowS F2_lu.out G2_lu.out) (.slice ua xs.length uc) xs.length (xs.map (Value.int .u64)) (by rfl) (by simp) (nums_src ((HU.out.below (HX0.out.on F2_base.out).1).mono (HX0.out.on F2_base.out).1.size) HNN.out) (by intro u hu; obtain ⟨x, _, rfl⟩ := List.mem_map.1 hu; rfl) (by unfold maxLen; omega) (by omega) F2_base.out.size ?_
              intro vup wy3 ho hg
              have F3_base := Lib.hid (F2_base.out.grown hg F2_base.out.size (fun k e => by cases e; exact G2_lu.out))
              have F3_ll := Lib.hid (lit_keep hg F2_lu.out F2_ll.out (by decide))
              have F3_ge_ll := Lib.hid (F2_ge_ll.out)
              have F3_up := Lib.hid (own0S ho)
              obtain ⟨aup, cup, rfl⟩ := SS.ownOf F3_up.out
              clear ho hg
              refine hK.out _ _ ?_ (fun hHeld => ?_)
              · exact (HX0.out.on F3_base.out).cells
              clear hK K
              try simp only [List.getElem_toArray, List.getElem_cons_succ, List.getElem_cons_zero, Act.put, List.setIfInBounds_toArray, List.set_cons_zero, List.set_cons_succ]
              refine wpAnyH_ready (rs := [9, 16]) (by kernel_rfl) (by simp) ?_
              refine AllReadyH.cons rfl (fun K hK => ?_) ?_
              · refine step_append_anyS rfl (.tmp 24) (.tmp 26) 23 rfl w0.heap.size 38 j0 (.agg #[.int .i64 0, .int .u64 0]) 2 16 Tryd.underlying23 hj0 hw0 hw1 hw2 rfl (by decide) (.slice (some ⟨w0.heap.size, 0, none⟩) 0 0) 0 [] (by rfl) (lit_rowS F3_ll.out F3_ge_ll.out) (.slice aa args.length ac) args.length (labV args) (by rfl) (labV_len args) ((HA.out.below (HX0.out.on F3_base.out).1).src) (labV_one args) (by unfold maxLen; omega) (by omega) F3_base.out.size ?_
                intro val wy4 ho hg
                have F4_base := Lib.hid (F3_base.out.grown hg F3_base.out.size (fun k e => by cases e; exact F3_ge_ll.out))
                have F4_up := Lib.hid (F3_up.out.kept hg (GG.own_types F3_up.out (lit_rowS (size := 2) F3_ll.out F3_ge_ll.out) (by decide)))
                have F4_al := Lib.hid (own0S ho)
                obtain ⟨aal, cal, rfl⟩ := SS.ownOf F4_al.out
                clear ho hg
                refine hK.out _ _ ?_ (fun hHeld => ?_)
                · exact (HX0.out.on F4_base.out).cells
                clear hK K
                try simp only [List.getElem_toArray, List.getElem_cons_succ, List.getElem_cons_zero, Act.put, List.setIfInBounds_toArray, List.set_cons_zero, List.set_cons_succ]
                refine wpAnyH_ready (rs := [12, 16]) (by kernel_rfl) (by simp) ?_
                refine AllReadyH.cons rfl (fun K hK => ?_) ?_
                · try simp only [List.getElem_toArray, List.getElem_cons_succ, List.getElem_cons_zero]
                  go_simp
                  (go_at_call 23; refine (HJ.out wy4 (HX0.out.on F4_base.out).1 (nums_of_row F4_up.out) (lab_ownV F4_al.out)).mono ?_; rintro e wy5 ⟨rfl, hb⟩; rw [HJR.out])
                  have F5_base := Lib.hid (F4_base.out.trans (hb.mono F4_base.out.size))
                  have F5_up := Lib.hid (SS.own_of_block F4_up.out (fun k e => hb.block k (F4_up.out.lt k e).2))
                  have F5_al := Lib.hid (SS.own_of_block F4_al.out (fun k e => hb.block k (F4_al.out.lt k e).2))
                  clear hb
                  try go_wp2_with fail
                  refine hK.out _ _ ?_ (fun hHeld => ?_)
                  · exact (HX0.out.on F5_base.out).cells
                  clear hK K
                  try simp only [List.getElem_toArray, List.getElem_cons_succ, List.getElem_cons_zero, Act.put, List.setIfInBounds_toArray, List.set_cons_zero, List.set_cons_succ]
                  refine wpAnyH_take (i := 13) (v := .tuple #[.agg #[.int .i64 y1, .int .u64 y2], .bool z]) rfl (by kernel_rfl) (by kernel_rfl) (by kernel_rfl) (fun _ _ _ h => h) (Or.inl ⟨by rfl, fun W hSW => ?_⟩) hHeld ?_
                  · ((try dsimp only at hSW); go_split_ands; go_simp <;> with_reducible rfl)
                  try simp only [List.getElem_toArray, List.getElem_cons_succ, List.getElem_cons_zero, Act.put, List.setIfInBounds_toArray, List.set_cons_zero, List.set_cons_succ]
                  refine wpAnyH_take (i := 14) (v := .agg #[.int .i64 y1, .int .u64 y2]) rfl (by kernel_rfl) (by kernel_rfl) (by kernel_rfl) (fun _ _ _ h => h) (Or.inl ⟨by rfl, fun W hSW => ?_⟩) hHeld ?_
                  · ((try dsimp only at hSW); go_split_ands; go_simp <;> with_reducible rfl)
                  try simp only [List.getElem_toArray, List.getElem_cons_succ, List.getElem_cons_zero, Act.put, List.setIfInBounds_toArray, List.set_cons_zero, List.set_cons_succ]
                  refine wpAnyH_take (i := 15) (v := .bool z) rfl (by kernel_rfl) (by kernel_rfl) (by kernel_rfl) (fun _ _ _ h => h) (Or.inl ⟨by rfl, fun W hSW => ?_⟩) hHeld ?_
                  · ((try dsimp only at hSW); go_split_ands; go_simp <;> with_reducible rfl)
                  try simp only [List.getElem_toArray, List.getElem_cons_succ, List.getElem_cons_zero, Act.put, List.setIfInBounds_toArray, List.set_cons_zero, List.set_cons_succ]
                  refine wpAnyH_ready (rs := [16]) (by kernel_rfl) (by simp) ?_
                  refine AllReadyH.cons rfl (fun K hK => ?_) ?_
                  · try simp only [List.getElem_toArray, List.getElem_cons_succ, List.getElem_cons_zero]
                    go_simp
                    obtain ⟨wy6, ey⟩ : ∃ y, y = wy5.alloc (.cells #[.int .i64 0, .int .u64 0] 38) := ⟨_, rfl⟩
                    rw [← ey]
                    have hb : Below wy5.heap.size wy5 wy6 := by rw [ey]; exact (Below.refl _ _).alloc (Nat.le_refl _) _
                    have F6_base := Lib.hid (F5_base.out.trans (hb.mono F5_base.out.size))
                    have F6_up := Lib.hid (SS.own_of_block F5_up.out (fun k e => hb.block k (F5_up.out.lt k e).2))
                    have F6_al := Lib.hid (SS.own_of_block F5_al.out (fun k e => hb.block k (F5_al.out.lt k e).2))
                    have F6_lab := Lib.hid (show wy6.heap[wy5.heap.size]? = some (.cells #[.int .i64 0, .int .u64 0] 38) by rw [ey]; exact heap_alloc_new _ _)
                    have G6_lab := Lib.hid (show w0.heap.size ≤ wy5.heap.size from F5_base.out.size)
                    clear ey hb
                    refine hK.out _ _ ?_ (fun hHeld => ?_)
                    · exact (HX0.out.on F6_base.out).cells
                    clear hK K
                    try simp only [List.getElem_toArray, List.getElem_cons_succ, List.getElem_cons_zero, Act.put, List.setIfInBounds_toArray, List.set_cons_zero, List.set_cons_succ]
                    refine wpAnyH_ready (rs := [17]) (by kernel_rfl) (by simp) ?_
                    refine AllReadyH.cons rfl (fun K hK => ?_) ?_
                    · obtain ⟨s0, s1, s2, s3⟩ := one_lab F6_lab.out
                      try simp only [List.getElem_toArray, List.getElem_cons_succ, List.getElem_cons_zero]
                      go_simp
                      have hs := (put_lab F6_lab.out (y1) (y2)).1
                      have hbs := (F6_base.out.setCell (p := ⟨wy5.heap.size, 0, none⟩) G6_lab.out (.int .i64 (y1))).setCell (p := ⟨wy5.heap.size, 1, none⟩) G6_lab.out (.int .u64 (y2))
                      generalize (wy6.setCell ⟨wy5.heap.size, 0, none⟩ (.int .i64 (y1))).setCell ⟨wy5.heap.size, 1, none⟩ (.int .u64 (y2)) = wy7 at hs hbs ⊢
                      have F7_base := Lib.hid hbs
                      have F7_lab := Lib.hid hs
                      clear hs hbs s0 s1 s2 s3
                      refine hK.out _ _ ?_ (fun hHeld => ?_)
                      · exact (HX0.out.on F7_base.out).cells
                      clear hK K
                      try simp only [List.getElem_toArray, List.getElem_cons_succ, List.getElem_cons_zero, Act.put, List.setIfInBounds_toArray, List.set_cons_zero, List.set_cons_succ]
                      refine wpAnyH_take (i := 18) (v := .bool z) rfl (by kernel_rfl) (by kernel_rfl) (by kernel_rfl) (fun _ _ _ h => h) (Or.inl ⟨by rfl, fun W hSW => ?_⟩) hHeld ?_
                      · ((try dsimp only at hSW); go_split_ands; go_simp <;> with_reducible rfl)
                      try simp only [List.getElem_toArray, List.getElem_cons_succ, List.getElem_cons_zero, Act.put, List.setIfInBounds_toArray, List.set_cons_zero, List.set_cons_succ]
                      refine wpAnyH_done (by kernel_rfl) ?_ _
                      clear hHeld
                      go_wp2_with fail
                      go_meet
                      case rel => exact ⟨_, rfl, rfl, (HX0.out.on F7_base.out), F7_lab.out, Nat.le_trans HX0.out.2.1 G6_lab.out⟩
                    exact AllReadyH.nil
                  exact AllReadyH.nil
                refine AllReadyH.cons rfl (fun K hK => ?_) ?_
                · try simp only [List.getElem_toArray, List.getElem_cons_succ, List.getElem_cons_zero]
                  go_simp
                  obtain ⟨wy5, ey⟩ : ∃ y, y = wy4.alloc (.cells #[.int .i64 0, .int .u64 0] 38) := ⟨_, rfl⟩
                  rw [← ey]
                  have hb : Below wy4.heap.size wy4 wy5 := by rw [ey]; exact (Below.refl _ _).alloc (Nat.le_refl _) _
                  have F5_base := Lib.hid (F4_base.out.trans (hb.mono F4_base.out.size))
                  have F5_up := Lib.hid (SS.own_of_block F4_up.out (fun k e => hb.block k (F4_up.out.lt k e).2))
                  have F5_al := Lib.hid (SS.own_of_block F4_al.out (fun k e => hb.block k (F4_al.out.lt k e).2))
                  have F5_lab := Lib.hid (show wy5.heap[wy4.heap.size]? = some (.cells #[.int .i64 0, .int .u64 0] 38) by rw [ey]; exact heap_alloc_new _ _)
                  have G5_lab := Lib.hid (show w0.heap.size ≤ wy4.heap.size from F4_base.out.size)
                  clear ey hb
                  refine hK.out _ _ ?_ (fun hHeld => ?_)
                  · exact (HX0.out.on F5_base.out).cells
                  clear hK K
                  try simp only [List.getElem_toArray, List.getElem_cons_succ, List.getElem_cons_zero, Act.put, List.setIfInBounds_toArray, List.set_cons_zero, List.set_cons_succ]
                  refine wpAnyH_ready (rs := [12]) (by kernel_rfl) (by simp) ?_
                  refine AllReadyH.cons rfl (fun K hK => ?_) ?_
                  · try simp only [List.getElem_toArray, List.getElem_cons_succ, List.getElem_cons_zero]
                    go_simp
                    (go_at_call 23; refine (HJ.out wy5 (HX0.out.on F5_base.out).1 (nums_of_row F5_up.out) (lab_ownV F5_al.out)).mono ?_; rintro e wy6 ⟨rfl, hb⟩; rw [HJR.out])
                    have F6_base := Lib.hid (F5_base.out.trans (hb.mono F5_base.out.size))
                    have F6_up := Lib.hid (SS.own_of_block F5_up.out (fun k e => hb.block k (F5_up.out.lt k e).2))
                    have F6_al := Lib.hid (SS.own_of_block F5_al.out (fun k e => hb.block k (F5_al.out.lt k e).2))
                    have F6_lab := Lib.hid ((hb.block _ (Array.getElem?_eq_some_iff.1 F5_lab.out).1).trans F5_lab.out)
                    have F6_ge_lab := Lib.hid (G5_lab.out)
                    clear hb
                    try go_wp2_with fail
                    refine hK.out _ _ ?_ (fun hHeld => ?_)
                    · exact (HX0.out.on F6_base.out).cells
                    clear hK K
                    try simp only [List.getElem_toArray, List.getElem_cons_succ, List.getElem_cons_zero, Act.put, List.setIfInBounds_toArray, List.set_cons_zero, List.set_cons_succ]
                    refine wpAnyH_take (i := 13) (v := .tuple #[.agg #[.int .i64 y1, .int .u64 y2], .bool z]) rfl (by kernel_rfl) (by kernel_rfl) (by kernel_rfl) (fun _ _ _ h => h) (Or.inl ⟨by rfl, fun W hSW => ?_⟩) hHeld ?_
                    · ((try dsimp only at hSW); go_split_ands; go_simp <;> with_reducible rfl)
                    try simp only [List.getElem_toArray, List.getElem_cons_succ, List.getElem_cons_zero, Act.put, List.setIfInBounds_toArray, List.set_cons_zero, List.set_cons_succ]
                    refine wpAnyH_take (i := 14) (v := .agg #[.int .i64 y1, .int .u64 y2]) rfl (by kernel_rfl) (by kernel_rfl) (by kernel_rfl) (fun _ _ _ h => h) (Or.inl ⟨by rfl, fun W hSW => ?_⟩) hHeld ?_
                    · ((try dsimp only at hSW); go_split_ands; go_simp <;> with_reducible rfl)
                    try simp only [List.getElem_toArray, List.getElem_cons_succ, List.getElem_cons_zero, Act.put, List.setIfInBounds_toArray, List.set_cons_zero, List.set_cons_succ]
                    refine wpAnyH_take (i := 15) (v := .bool z) rfl (by kernel_rfl) (by kernel_rfl) (by kernel_rfl) (fun _ _ _ h => h) (Or.inl ⟨by rfl, fun W hSW => ?_⟩) hHeld ?_
                    · ((try dsimp only at hSW); go_split_ands; go_simp <;> with_reducible rfl)
                    try simp only [List.getElem_toArray, List.getElem_cons_succ, List.getElem_cons_zero, Act.put, List.setIfInBounds_toArray, List.set_cons_zero, List.set_cons_succ]
                    refine wpAnyH_ready (rs := [17]) (by kernel_rfl) (by simp) ?_
                    refine AllReadyH.cons rfl (fun K hK => ?_) ?_
                    · obtain ⟨s0, s1, s2, s3⟩ := one_lab F6_lab.out
                      try simp only [List.getElem_toArray, List.getElem_cons_succ, List.getElem_cons_zero]
                      go_simp
                      have hs := (put_lab F6_lab.out (y1) (y2)).1
                      have hbs := (F6_base.out.setCell (p := ⟨wy4.heap.size, 0, none⟩) F6_ge_lab.out (.int .i64 (y1))).setCell (p := ⟨wy4.heap.size, 1, none⟩) F6_ge_lab.out (.int .u64 (y2))
                      generalize (wy6.setCell ⟨wy4.heap.size, 0, none⟩ (.int .i64 (y1))).setCell ⟨wy4.heap.size, 1, none⟩ (.int .u64 (y2)) = wy7 at hs hbs ⊢
                      have F7_base := Lib.hid hbs
                      have F7_lab := Lib.hid hs
                      clear hs hbs s0 s1 s2 s3
                      refine hK.out _ _ ?_ (fun hHeld => ?_)
                      · exact (HX0.out.on F7_base.out).cells
                      clear hK K
                      try simp only [List.getElem_toArray, List.getElem_cons_succ, List.getElem_cons_zero, Act.put, List.setIfInBounds_toArray, List.set_cons_zero, List.set_cons_succ]
                      refine wpAnyH_take (i := 18) (v := .bool z) rfl (by kernel_rfl) (by kernel_rfl) (by kernel_rfl) (fun _ _ _ h => h) (Or.inl ⟨by rfl, fun W hSW => ?_⟩) hHeld ?_
                      · ((try dsimp only at hSW); go_split_ands; go_simp <;> with_reducible rfl)
                      try simp only [List.getElem_toArray, List.getElem_cons_succ, List.getElem_cons_zero, Act.put, List.setIfInBounds_toArray, List.set_cons_zero, List.set_cons_succ]
                      refine wpAnyH_done (by kernel_rfl) ?_ _
                      clear hHeld
                      go_wp2_with fail
                      go_meet
                      case rel => exact ⟨_, rfl, rfl, (HX0.out.on F7_base.out), F7_lab.out, Nat.le_trans HX0.out.2.1 F6_ge_lab.out⟩
                    exact AllReadyH.nil
                  exact AllReadyH.nil
                exact AllReadyH.nil
              refine AllReadyH.cons rfl (fun K hK => ?_) ?_
              · try simp only [List.getElem_toArray, List.getElem_cons_succ, List.getElem_cons_zero]
                go_simp
                obtain ⟨wy4, ey⟩ : ∃ y, y = wy3.alloc (.cells #[.int .i64 0, .int .u64 0] 38) := ⟨_, rfl⟩
                rw [← ey]
                have hb : Below wy3.heap.size wy3 wy4 := by rw [ey]; exact (Below.refl _ _).alloc (Nat.le_refl _) _
                have F4_base := Lib.hid (F3_base.out.trans (hb.mono F3_base.out.size))
                have F4_ll := Lib.hid ((hb.block _ (Array.getElem?_eq_some_iff.1 F3_ll.out).1).trans F3_ll.out)
                have F4_ge_ll := Lib.hid (F3_ge_ll.out)
                have F4_up := Lib.hid (SS.own_of_block F3_up.out (fun k e => hb.block k (F3_up.out.lt k e).2))
                have F4_lab := Lib.hid (show wy4.heap[wy3.heap.size]? = some (.cells #[.int .i64 0, .int .u64 0] 38) by rw [ey]; exact heap_alloc_new _ _)
                have G4_lab := Lib.hid (show w0.heap.size ≤ wy3.heap.size from F3_base.out.size)
                clear ey hb
                refine hK.out _ _ ?_ (fun hHeld => ?_)
                · exact (HX0.out.on F4_base.out).cells
                clear hK K
                try simp only [List.getElem_toArray, List.getElem_cons_succ, List.getElem_cons_zero, Act.put, List.setIfInBounds_toArray, List.set_cons_zero, List.set_cons_succ]
                refine wpAnyH_ready (rs := [9]) (by kernel_rfl) (by simp) ?_
                refine AllReadyH.cons rfl (fun K hK => ?_) ?_
                · refine step_append_anyS rfl (.tmp 24) (.tmp 26) 23 rfl w0.heap.size 38 j0 (.agg #[.int .i64 0, .int .u64 0]) 2 16 Tryd.underlying23 hj0 hw0 hw1 hw2 rfl (by decide) (.slice (some ⟨w0.heap.size, 0, none⟩) 0 0) 0 [] (by rfl) (lit_rowS F4_ll.out F4_ge_ll.out) (.slice aa args.length ac) args.length (labV args) (by rfl) (labV_len args) ((HA.out.below (HX0.out.on F4_base.out).1).src) (labV_one args) (by unfold maxLen; omega) (by omega) F4_base.out.size ?_
                  intro val wy5 ho hg
                  have F5_base := Lib.hid (F4_base.out.grown hg F4_base.out.size (fun k e => by cases e; exact F4_ge_ll.out))
                  have F5_up := Lib.hid (F4_up.out.kept hg (GG.own_types F4_up.out (lit_rowS (size := 2) F4_ll.out F4_ge_ll.out) (by decide)))
                  have F5_lab := Lib.hid (lab_keep hg F4_ll.out F4_lab.out (by simp))
                  have F5_ge_lab := Lib.hid (G4_lab.out)
                  have F5_al := Lib.hid (own0S ho)
                  obtain ⟨aal, cal, rfl⟩ := SS.ownOf F5_al.out
                  clear ho hg
                  refine hK.out _ _ ?_ (fun hHeld => ?_)
                  · exact (HX0.out.on F5_base.out).cells
                  clear hK K
                  try simp only [List.getElem_toArray, List.getElem_cons_succ, List.getElem_cons_zero, Act.put, List.setIfInBounds_toArray, List.set_cons_zero, List.set_cons_succ]
                  refine wpAnyH_ready (rs := [12]) (by kernel_rfl) (by simp) ?_
                  refine AllReadyH.cons rfl (fun K hK => ?_) ?_
                  · try simp only [List.getElem_toArray, List.getElem_cons_succ, List.getElem_cons_zero]
                    go_simp
                    (go_at_call 23; refine (HJ.out wy5 (HX0.out.on F5_base.out).1 (nums_of_row F5_up.out) (lab_ownV F5_al.out)).mono ?_; rintro e wy6 ⟨rfl, hb⟩; rw [HJR.out])
                    have F6_base := Lib.hid (F5_base.out.trans (hb.mono F5_base.out.size))
                    have F6_up := Lib.hid (SS.own_of_block F5_up.out (fun k e => hb.block k (F5_up.out.lt k e).2))
                    have F6_lab := Lib.hid ((hb.block _ (Array.getElem?_eq_some_iff.1 F5_lab.out).1).trans F5_lab.out)
                    have F6_ge_lab := Lib.hid (F5_ge_lab.out)
                    have F6_al := Lib.hid (SS.own_of_block F5_al.out (fun k e => hb.block k (F5_al.out.lt k e).2))
                    clear hb
                    try go_wp2_with fail
                    refine hK.out _ _ ?_ (fun hHeld => ?_)
                    · exact (HX0.out.on F6_base.out).cells
                    clear hK K
                    try simp only [List.getElem_toArray, List.getElem_cons_succ, List.getElem_cons_zero, Act.put, List.setIfInBounds_toArray, List.set_cons_zero, List.set_cons_succ]
                    refine wpAnyH_take (i := 13) (v := .tuple #[.agg #[.int .i64 y1, .int .u64 y2], .bool z]) rfl (by kernel_rfl) (by kernel_rfl) (by kernel_rfl) (fun _ _ _ h => h) (Or.inl ⟨by rfl, fun W hSW => ?_⟩) hHeld ?_
                    · ((try dsimp only at hSW); go_split_ands; go_simp <;> with_reducible rfl)
                    try simp only [List.getElem_toArray, List.getElem_cons_succ, List.getElem_cons_zero, Act.put, List.setIfInBounds_toArray, List.set_cons_zero, List.set_cons_succ]
                    refine wpAnyH_take (i := 14) (v := .agg #[.int .i64 y1, .int .u64 y2]) rfl (by kernel_rfl) (by kernel_rfl) (by kernel_rfl) (fun _ _ _ h => h) (Or.inl ⟨by rfl, fun W hSW => ?_⟩) hHeld ?_
                    · ((try dsimp only at hSW); go_split_ands; go_simp <;> with_reducible rfl)
                    try simp only [List.getElem_toArray, List.getElem_cons_succ, List.getElem_cons_zero, Act.put, List.setIfInBounds_toArray, List.set_cons_zero, List.set_cons_succ]
                    refine wpAnyH_take (i := 15) (v := .bool z) rfl (by kernel_rfl) (by kernel_rfl) (by kernel_rfl) (fun _ _ _ h => h) (Or.inl ⟨by rfl, fun W hSW => ?_⟩) hHeld ?_
                    · ((try dsimp only at hSW); go_split_ands; go_simp <;> with_reducible rfl)
                    try simp only [List.getElem_toArray, List.getElem_cons_succ, List.getElem_cons_zero, Act.put, List.setIfInBounds_toArray, List.set_cons_zero, List.set_cons_succ]
                    refine wpAnyH_ready (rs := [17]) (by kernel_rfl) (by simp) ?_
                    refine AllReadyH.cons rfl (fun K hK => ?_) ?_
                    · obtain ⟨s0, s1, s2, s3⟩ := one_lab F6_lab.out
                      try simp only [List.getElem_toArray, List.getElem_cons_succ, List.getElem_cons_zero]
                      go_simp
                      have hs := (put_lab F6_lab.out (y1) (y2)).1
                      have hbs := (F6_base.out.setCell (p := ⟨wy3.heap.size, 0, none⟩) F6_ge_lab.out (.int .i64 (y1))).setCell (p := ⟨wy3.heap.size, 1, none⟩) F6_ge_lab.out (.int .u64 (y2))
                      generalize (wy6.setCell ⟨wy3.heap.size, 0, none⟩ (.int .i64 (y1))).setCell ⟨wy3.heap.size, 1, none⟩ (.int .u64 (y2)) = wy7 at hs hbs ⊢
                      have F7_base := Lib.hid hbs
                      have F7_lab := Lib.hid hs
                      clear hs hbs s0 s1 s2 s3
                      refine hK.out _ _ ?_ (fun hHeld => ?_)
                      · exact (HX0.out.on F7_base.out).cells
                      clear hK K
                      try simp only [List.getElem_toArray, List.getElem_cons_succ, List.getElem_cons_zero, Act.put, List.setIfInBounds_toArray, List.set_cons_zero, List.set_cons_succ]
                      refine wpAnyH_take (i := 18) (v := .bool z) rfl (by kernel_rfl) (by kernel_rfl) (by kernel_rfl) (fun _ _ _ h => h) (Or.inl ⟨by rfl, fun W hSW => ?_⟩) hHeld ?_
                      · ((try dsimp only at hSW); go_split_ands; go_simp <;> with_reducible rfl)
                      try simp only [List.getElem_toArray, List.getElem_cons_succ, List.getElem_cons_zero, Act.put, List.setIfInBounds_toArray, List.set_cons_zero, List.set_cons_succ]
                      refine wpAnyH_done (by kernel_rfl) ?_ _
                      clear hHeld
                      go_wp2_with fail
                      go_meet
                      case rel => exact ⟨_, rfl, rfl, (HX0.out.on F7_base.out), F7_lab.out, Nat.le_trans HX0.out.2.1 F6_ge_lab.out⟩
                    exact AllReadyH.nil
                  exact AllReadyH.nil
                exact AllReadyH.nil
              exact AllReadyH.nil
            refine AllReadyH.cons rfl (fun K hK => ?_) ?_
            · try simp only [List.getElem_toArray, List.getElem_cons_succ, List.getElem_cons_zero]
              go_simp
              obtain ⟨wy3, ey⟩ : ∃ y, y = wy2.alloc (.cells #[.int .i64 0, .int .u64 0] 38) := ⟨_, rfl⟩
              rw [← ey]
              have hb : Below wy2.heap.size wy2 wy3 := by rw [ey]; exact (Below.refl _ _).alloc (Nat.le_refl _) _
              have F3_base := Lib.hid (F2_base.out.trans (hb.mono F2_base.out.size))
              have F3_ll := Lib.hid ((hb.block _ (Array.getElem?_eq_some_iff.1 F2_ll.out).1).trans F2_ll.out)
              have F3_ge_ll := Lib.hid (F2_ge_ll.out)
              have F3_lu := Lib.hid ((hb.block _ (Array.getElem?_eq_some_iff.1 F2_lu.out).1).trans F2_lu.out)
              have F3_ge_lu := Lib.hid (G2_lu.out)
              have F3_lab := Lib.hid (show wy3.heap[wy2.heap.size]? = some (.cells #[.int .i64 0, .int .u64 0] 38) by rw [ey]; exact heap_alloc_new _ _)
              have G3_lab := Lib.hid (show w0.heap.size ≤ wy2.heap.size from F2_base.out.size)
              clear ey hb
              refine hK.out _ _ ?_ (fun hHeld => ?_)
              · exact (HX0.out.on F3_base.out).cells
              clear hK K
              try simp only [List.getElem_toArray, List.getElem_cons_succ, List.getElem_cons_zero, Act.put, List.setIfInBounds_toArray, List.set_cons_zero, List.set_cons_succ]
              refine wpAnyH_ready (rs := [3]) (by kernel_rfl) (by simp) ?_
              refine AllReadyH.cons rfl (fun K hK => ?_) ?_
              · refine step_append_anyS rfl (.tmp 18) (.tmp 20) 22 rfl w0.heap.size 36 i0 (.int .u64 0) 1 8 Tryd.underlying22 hi0 hz0 hz1 hz2 rfl (by decide) (.slice (some ⟨wy1.heap.size, 0, none⟩) 0 0) 0 [] (by rfl) (lit_rowS F3_lu.out F3_ge_lu.out) (.slice ua xs.length uc) xs.length (xs.map (Value.int .u64)) (by rfl) (by simp) (nums_src ((HU.out.below (HX0.out.on F3_base.out).1).mono (HX0.out.on F3_base.out).1.size) HNN.out) (by intro u hu; obtain ⟨x, _, rfl⟩ := List.mem_map.1 hu; rfl) (by unfold maxLen; omega) (by omega) F3_base.out.size ?_
                intro vup wy4 ho hg
                have F4_base := Lib.hid (F3_base.out.grown hg F3_base.out.size (fun k e => by cases e; exact F3_ge_lu.out))
                have F4_ll := Lib.hid (lit_keep hg F3_lu.out F3_ll.out (by decide))
                have F4_ge_ll := Lib.hid (F3_ge_ll.out)
                have F4_lab := Lib.hid (lab_keep hg F3_lu.out F3_lab.out (by simp))
                have F4_ge_lab := Lib.hid (G3_lab.out)
                have F4_up := Lib.hid (own0S ho)
                obtain ⟨aup, cup, rfl⟩ := SS.ownOf F4_up.out
                clear ho hg
                refine hK.out _ _ ?_ (fun hHeld => ?_)
                · exact (HX0.out.on F4_base.out).cells
                clear hK K
                try simp only [List.getElem_toArray, List.getElem_cons_succ, List.getElem_cons_zero, Act.put, List.setIfInBounds_toArray, List.set_cons_zero, List.set_cons_succ]
                refine wpAnyH_ready (rs := [9]) (by kernel_rfl) (by simp) ?_
                refine AllReadyH.cons rfl (fun K hK => ?_) ?_
                · refine step_append_anyS rfl (.tmp 24) (.tmp 26) 23 rfl w0.heap.size 38 j0 (.agg #[.int .i64 0, .int .u64 0]) 2 16 Tryd.underlying23 hj0 hw0 hw1 hw2 rfl (by decide) (.slice (some ⟨w0.heap.size, 0, none⟩) 0 0) 0 [] (by rfl) (lit_rowS F4_ll.out F4_ge_ll.out) (.slice aa args.length ac) args.length (labV args) (by rfl) (labV_len args) ((HA.out.below (HX0.out.on F4_base.out).1).src) (labV_one args) (by unfold maxLen; omega) (by omega) F4_base.out.size ?_
                  intro val wy5 ho hg
                  have F5_base := Lib.hid (F4_base.out.grown hg F4_base.out.size (fun k e => by cases e; exact F4_ge_ll.out))
                  have F5_lab := Lib.hid (lab_keep hg F4_ll.out F4_lab.out (by simp))
                  have F5_ge_lab := Lib.hid (F4_ge_lab.out)
                  have F5_up := Lib.hid (F4_up.out.kept hg (GG.own_types F4_up.out (lit_rowS (size := 2) F4_ll.out F4_ge_ll.out) (by decide)))
                  have F5_al := Lib.hid (own0S ho)
                  obtain ⟨aal, cal, rfl⟩ := SS.ownOf F5_al.out
                  clear ho hg
                  refine hK.out _ _ ?_ (fun hHeld => ?_)
                  · exact (HX0.out.on F5_base.out).cells
                  clear hK K
                  try simp only [List.getElem_toArray, List.getElem_cons_succ, List.getElem_cons_zero, Act.put, List.setIfInBounds_toArray, List.set_cons_zero, List.set_cons_succ]
                  refine wpAnyH_ready (rs := [12]) (by kernel_rfl) (by simp) ?_
                  refine AllReadyH.cons rfl (fun K hK => ?_) ?_
                  · try simp only [List.getElem_toArray, List.getElem_cons_succ, List.getElem_cons_zero]
                    go_simp
                    (go_at_call 23; refine (HJ.out wy5 (HX0.out.on F5_base.out).1 (nums_of_row F5_up.out) (lab_ownV F5_al.out)).mono ?_; rintro e wy6 ⟨rfl, hb⟩; rw [HJR.out])
                    have F6_base := Lib.hid (F5_base.out.trans (hb.mono F5_base.out.size))
                    have F6_lab := Lib.hid ((hb.block _ (Array.getElem?_eq_some_iff.1 F5_lab.out).1).trans F5_lab.out)
                    have F6_ge_lab := Lib.hid (F5_ge_lab.out)
                    have F6_up := Lib.hid (SS.own_of_block F5_up.out (fun k e => hb.block k (F5_up.out.lt k e).2))
                    have F6_al := Lib.hid (SS.own_of_block F5_al.out (fun k e => hb.block k (F5_al.out.lt k e).2))
                    clear hb
                    try go_wp2_with fail
                    refine hK.out _ _ ?_ (fun hHeld => ?_)
                    · exact (HX0.out.on F6_base.out).cells
                    clear hK K
                    try simp only [List.getElem_toArray, List.getElem_cons_succ, List.getElem_cons_zero, Act.put, List.setIfInBounds_toArray, List.set_cons_zero, List.set_cons_succ]
                    refine wpAnyH_take (i := 13) (v := .tuple #[.agg #[.int .i64 y1, .int .u64 y2], .bool z]) rfl (by kernel_rfl) (by kernel_rfl) (by kernel_rfl) (fun _ _ _ h => h) (Or.inl ⟨by rfl, fun W hSW => ?_⟩) hHeld ?_
                    · ((try dsimp only at hSW); go_split_ands; go_simp <;> with_reducible rfl)
                    try simp only [List.getElem_toArray, List.getElem_cons_succ, List.getElem_cons_zero, Act.put, List.setIfInBounds_toArray, List.set_cons_zero, List.set_cons_succ]
                    refine wpAnyH_take (i := 14) (v := .agg #[.int .i64 y1, .int .u64 y2]) rfl (by kernel_rfl) (by kernel_rfl) (by kernel_rfl) (fun _ _ _ h => h) (Or.inl ⟨by rfl, fun W hSW => ?_⟩) hHeld ?_
                    · ((try dsimp only at hSW); go_split_ands; go_simp <;> with_reducible rfl)
                    try simp only [List.getElem_toArray, List.getElem_cons_succ, List.getElem_cons_zero, Act.put, List.setIfInBounds_toArray, List.set_cons_zero, List.set_cons_succ]
                    refine wpAnyH_take (i := 15) (v := .bool z) rfl (by kernel_rfl) (by kernel_rfl) (by kernel_rfl) (fun _ _ _ h => h) (Or.inl ⟨by rfl, fun W hSW => ?_⟩) hHeld ?_
                    · ((try dsimp only at hSW); go_split_ands; go_simp <;> with_reducible rfl)
                    try simp only [List.getElem_toArray, List.getElem_cons_succ, List.getElem_cons_zero, Act.put, List.setIfInBounds_toArray, List.set_cons_zero, List.set_cons_succ]
                    refine wpAnyH_ready (rs := [17]) (by kernel_rfl) (by simp) ?_
                    refine AllReadyH.cons rfl (fun K hK => ?_) ?_
                    · obtain ⟨s0, s1, s2, s3⟩ := one_lab F6_lab.out
                      try simp only [List.getElem_toArray, List.getElem_cons_succ, List.getElem_cons_zero]
                      go_simp
                      have hs := (put_lab F6_lab.out (y1) (y2)).1
                      have hbs := (F6_base.out.setCell (p := ⟨wy2.heap.size, 0, none⟩) F6_ge_lab.out (.int .i64 (y1))).setCell (p := ⟨wy2.heap.size, 1, none⟩) F6_ge_lab.out (.int .u64 (y2))
                      generalize (wy6.setCell ⟨wy2.heap.size, 0, none⟩ (.int .i64 (y1))).setCell ⟨wy2.heap.size, 1, none⟩ (.int .u64 (y2)) = wy7 at hs hbs ⊢
                      have F7_base := Lib.hid hbs
                      have F7_lab := Lib.hid hs
                      clear hs hbs s0 s1 s2 s3
                      refine hK.out _ _ ?_ (fun hHeld => ?_)
                      · exact (HX0.out.on F7_base.out).cells
                      clear hK K
                      try simp only [List.getElem_toArray, List.getElem_cons_succ, List.getElem_cons_zero, Act.put, List.setIfInBounds_toArray, List.set_cons_zero, List.set_cons_succ]
                      refine wpAnyH_take (i := 18) (v := .bool z) rfl (by kernel_rfl) (by kernel_rfl) (by kernel_rfl) (fun _ _ _ h => h) (Or.inl ⟨by rfl, fun W hSW => ?_⟩) hHeld ?_
                      · ((try dsimp only at hSW); go_split_ands; go_simp <;> with_reducible rfl)
                      try simp only [List.getElem_toArray, List.getElem_cons_succ, List.getElem_cons_zero, Act.put, List.setIfInBounds_toArray, List.set_cons_zero, List.set_cons_succ]
                      refine wpAnyH_done (by kernel_rfl) ?_ _
                      clear hHeld
                      go_wp2_with fail
                      go_meet
                      case rel => exact ⟨_, rfl, rfl, (HX0.out.on F7_base.out), F7_lab.out, Nat.le_trans HX0.out.2.1 F6_ge_lab.out⟩
                    exact AllReadyH.nil
                  exact AllReadyH.nil
                exact AllReadyH.nil
              exact AllReadyH.nil
            exact AllReadyH.nil
          refine AllReadyH.cons rfl (fun K hK => ?_) ?_
          · try simp only [List.getElem_toArray, List.getElem_cons_succ, List.getElem_cons_zero]
            go_simp
            obtain ⟨wy2, ey⟩ : ∃ y, y = wy1.alloc (.cells #[.int .i64 0, .int .u64 0] 38) := ⟨_, rfl⟩
            rw [← ey]
            have hb : Below wy1.heap.size wy1 wy2 := by rw [ey]; exact (Below.refl _ _).alloc (Nat.le_refl _) _
            have F2_base := Lib.hid (F1_base.out.trans (hb.mono F1_base.out.size))
            have F2_ll := Lib.hid ((hb.block _ (Array.getElem?_eq_some_iff.1 F1_ll.out).1).trans F1_ll.out)
            have F2_ge_ll := Lib.hid (G1_ll.out)
            have F2_lab := Lib.hid (show wy2.heap[wy1.heap.size]? = some (.cells #[.int .i64 0, .int .u64 0] 38) by rw [ey]; exact heap_alloc_new _ _)
            have G2_lab := Lib.hid (show w0.heap.size ≤ wy1.heap.size from F1_base.out.size)
            clear ey hb
            refine hK.out _ _ ?_ (fun hHeld => ?_)
            · exact (HX0.out.on F2_base.out).cells
            clear hK K
            try simp only [List.getElem_toArray, List.getElem_cons_succ, List.getElem_cons_zero, Act.put, List.setIfInBounds_toArray, List.set_cons_zero, List.set_cons_succ]
            refine wpAnyH_ready (rs := [0]) (by kernel_rfl) (by simp) ?_
            refine AllReadyH.cons rfl (fun K hK => ?_) ?_
            · try simp only [List.getElem_toArray, List.getElem_cons_succ, List.getElem_cons_zero]
              go_simp
              obtain ⟨wy3, ey⟩ : ∃ y, y = wy2.alloc (.cells #[] 36) := ⟨_, rfl⟩
              rw [← ey]
              have hb : Below wy2.heap.size wy2 wy3 := by rw [ey]; exact (Below.refl _ _).alloc (Nat.le_refl _) _
              have F3_base := Lib.hid (F2_base.out.trans (hb.mono F2_base.out.size))
              have F3_ll := Lib.hid ((hb.block _ (Array.getElem?_eq_some_iff.1 F2_ll.out).1).trans F2_ll.out)
              have F3_ge_ll := Lib.hid (F2_ge_ll.out)
              have F3_lab := Lib.hid ((hb.block _ (Array.getElem?_eq_some_iff.1 F2_lab.out).1).trans F2_lab.out)
              have F3_ge_lab := Lib.hid (G2_lab.out)
              have F3_lu := Lib.hid (show wy3.heap[wy2.heap.size]? = some (.cells #[] 36) by rw [ey]; exact heap_alloc_new _ _)
              have G3_lu := Lib.hid (show w0.heap.size ≤ wy2.heap.size from F2_base.out.size)
              clear ey hb
              refine hK.out _ _ ?_ (fun hHeld => ?_)
              · exact (HX0.out.on F3_base.out).cells
              clear hK K
              try simp only [List.getElem_toArray, List.getElem_cons_succ, List.getElem_cons_zero, Act.put, List.setIfInBounds_toArray, List.set_cons_zero, List.set_cons_succ]
              refine wpAnyH_ready (rs := [3]) (by kernel_rfl) (by simp) ?_
              refine AllReadyH.cons rfl (fun K hK => ?_) ?_
              · refine step_append_anyS rfl (.tmp 18) (.tmp 20) 22 rfl w0.heap.size 36 i0 (.int .u64 0) 1 8 Tryd.underlying22 hi0 hz0 hz1 hz2 rfl (by decide) (.slice (some ⟨wy2.heap.size, 0, none⟩) 0 0) 0 [] (by rfl) (lit_rowS F3_lu.out G3_lu.out) (.slice ua xs.length uc) xs.length (xs.map (Value.int .u64)) (by rfl) (by simp) (nums_src ((HU.out.below (HX0.out.on F3_base.out).1).mono (HX0.out.on F3_base.out).1.size) HNN.out) (by intro u hu; obtain ⟨x, _, rfl⟩ := List.mem_map.1 hu; rfl) (by unfold maxLen; omega) (by omega) F3_base.out.size ?_
                intro vup wy4 ho hg
                have F4_base := Lib.hid (F3_base.out.grown hg F3_base.out.size (fun k e => by cases e; exact G3_lu.out))
                have F4_ll := Lib.hid (lit_keep hg F3_lu.out F3_ll.out (by decide))
                have F4_ge_ll := Lib.hid (F3_ge_ll.out)
                have F4_lab := Lib.hid (lab_keep hg F3_lu.out F3_lab.out (by simp))
                have F4_ge_lab := Lib.hid (F3_ge_lab.out)
                have F4_up := Lib.hid (own0S ho)
                obtain ⟨aup, cup, rfl⟩ := SS.ownOf F4_up.out
                clear ho hg
                refine hK.out _ _ ?_ (fun hHeld => ?_)
                · exact (HX0.out.on F4_base.out).cells
                clear hK K
                try simp only [List.getElem_toArray, List.getElem_cons_succ, List.getElem_cons_zero, Act.put, List.setIfInBounds_toArray, List.set_cons_zero, List.set_cons_succ]
                refine wpAnyH_ready (rs := [9]) (by kernel_rfl) (by simp) ?_
                refine AllReadyH.cons rfl (fun K hK => ?_) ?_
                · refine step_append_anyS rfl (.tmp 24) (.tmp 26) 23 rfl w0.heap.size 38 j0 (.agg #[.int .i64 0, .int .u64 0]) 2 16 Tryd.underlying23 hj0 hw0 hw1 hw2 rfl (by decide) (.slice (some ⟨w0.heap.size, 0, none⟩) 0 0) 0 [] (by rfl) (lit_rowS F4_ll.out F4_ge_ll.out) (.slice aa args.length ac) args.length (labV args) (by rfl) (labV_len args) ((HA.out.below (HX0.out.on F4_base.out).1).src) (labV_one args) (by unfold maxLen; omega) (by omega) F4_base.out.size ?_
                  intro val wy5 ho hg
                  have F5_base := Lib.hid (F4_base.out.grown hg F4_base.out.size (fun k e => by cases e; exact F4_ge_ll.out))
                  have F5_lab := Lib.hid (lab_keep hg F4_ll.out F4_lab.out (by simp))
                  have F5_ge_lab := Lib.hid (F4_ge_lab.out)
                  have F5_up := Lib.hid (F4_up.out.kept hg (GG.own_types F4_up.out (lit_rowS (size := 2) F4_ll.out F4_ge_ll.out) (by decide)))
                  have F5_al := Lib.hid (own0S ho)
                  obtain ⟨aal, cal, rfl⟩ := SS.ownOf F5_al.out
                  clear ho hg
                  refine hK.out _ _ ?_ (fun hHeld => ?_)
                  · exact (HX0.out.on F5_base.out).cells
                  clear hK K
                  try simp only [List.getElem_toArray, List.getElem_cons_succ, List.getElem_cons_zero, Act.put, List.setIfInBounds_toArray, List.set_cons_zero, List.set_cons_succ]
                  refine wpAnyH_ready (rs := [12]) (by kernel_rfl) (by simp) ?_
                  refine AllReadyH.cons rfl (fun K hK => ?_) ?_
                  · try simp only [List.getElem_toArray, List.getElem_cons_succ, List.getElem_cons_zero]
                    go_simp
                    (go_at_call 23; refine (HJ.out wy5 (HX0.out.on F5_base.out).1 (nums_of_row F5_up.out) (lab_ownV F5_al.out)).mono ?_; rintro e wy6 ⟨rfl, hb⟩; rw [HJR.out])
                    have F6_base := Lib.hid (F5_base.out.trans (hb.mono F5_base.out.size))
                    have F6_lab := Lib.hid ((hb.block _ (Array.getElem?_eq_some_iff.1 F5_lab.out).1).trans F5_lab.out)
                    have F6_ge_lab := Lib.hid (F5_ge_lab.out)
                    have F6_up := Lib.hid (SS.own_of_block F5_up.out (fun k e => hb.block k (F5_up.out.lt k e).2))
                    have F6_al := Lib.hid (SS.own_of_block F5_al.out (fun k e => hb.block k (F5_al.out.lt k e).2))
                    clear hb
                    try go_wp2_with fail
                    refine hK.out _ _ ?_ (fun hHeld => ?_)
                    · exact (HX0.out.on F6_base.out).cells
                    clear hK K
                    try simp only [List.getElem_toArray, List.getElem_cons_succ, List.getElem_cons_zero, Act.put, List.setIfInBounds_toArray, List.set_cons_zero, List.set_cons_succ]
                    refine wpAnyH_take (i := 13) (v := .tuple #[.agg #[.int .i64 y1, .int .u64 y2], .bool z]) rfl (by kernel_rfl) (by kernel_rfl) (by kernel_rfl) (fun _ _ _ h => h) (Or.inl ⟨by rfl, fun W hSW => ?_⟩) hHeld ?_
                    · ((try dsimp only at hSW); go_split_ands; go_simp <;> with_reducible rfl)
                    try simp only [List.getElem_toArray, List.getElem_cons_succ, List.getElem_cons_zero, Act.put, List.setIfInBounds_toArray, List.set_cons_zero, List.set_cons_succ]
                    refine wpAnyH_take (i := 14) (v := .agg #[.int .i64 y1, .int .u64 y2]) rfl (by kernel_rfl) (by kernel_rfl) (by kernel_rfl) (fun _ _ _ h => h) (Or.inl ⟨by rfl, fun W hSW => ?_⟩) hHeld ?_
                    · ((try dsimp only at hSW); go_split_ands; go_simp <;> with_reducible rfl)
                    try simp only [List.getElem_toArray, List.getElem_cons_succ, List.getElem_cons_zero, Act.put, List.setIfInBounds_toArray, List.set_cons_zero, List.set_cons_succ]
                    refine wpAnyH_take (i := 15) (v := .bool z) rfl (by kernel_rfl) (by kernel_rfl) (by kernel_rfl) (fun _ _ _ h => h) (Or.inl ⟨by rfl, fun W hSW => ?_⟩) hHeld ?_
                    · ((try dsimp only at hSW); go_split_ands; go_simp <;> with_reducible rfl)
                    try simp only [List.getElem_toArray, List.getElem_cons_succ, List.getElem_cons_zero, Act.put, List.setIfInBounds_toArray, List.set_cons_zero, List.set_cons_succ]
                    refine wpAnyH_ready (rs := [17]) (by kernel_rfl) (by simp) ?_
                    refine AllReadyH.cons rfl (fun K hK => ?_) ?_
                    · obtain ⟨s0, s1, s2, s3⟩ := one_lab F6_lab.out
                      try simp only [List.getElem_toArray, List.getElem_cons_succ, List.getElem_cons_zero]
                      go_simp
                      have hs := (put_lab F6_lab.out (y1) (y2)).1
                      have hbs := (F6_base.out.setCell (p := ⟨wy1.heap.size, 0, none⟩) F6_ge_lab.out (.int .i64 (y1))).setCell (p := ⟨wy1.heap.size, 1, none⟩) F6_ge_lab.out (.int .u64 (y2))
                      generalize (wy6.setCell ⟨wy1.heap.size, 0, none⟩ (.int .i64 (y1))).setCell ⟨wy1.heap.size, 1, none⟩ (.int .u64 (y2)) = wy7 at hs hbs ⊢
                      have F7_base := Lib.hid hbs
                      have F7_lab := Lib.hid hs
                      clear hs hbs s0 s1 s2 s3
                      refine hK.out _ _ ?_ (fun hHeld => ?_)
                      · exact (HX0.out.on F7_base.out).cells
                      clear hK K
                      try simp only [List.getElem_toArray, List.getElem_cons_succ, List.getElem_cons_zero, Act.put, List.setIfInBounds_toArray, List.set_cons_zero, List.set_cons_succ]
                      refine wpAnyH_take (i := 18) (v := .bool z) rfl (by kernel_rfl) (by kernel_rfl) (by kernel_rfl) (fun _ _ _ h => h) (Or.inl ⟨by rfl, fun W hSW => ?_⟩) hHeld ?_
                      · ((try dsimp only at hSW); go_split_ands; go_simp <;> with_reducible rfl)
                      try simp only [List.getElem_toArray, List.getElem_cons_succ, List.getElem_cons_zero, Act.put, List.setIfInBounds_toArray, List.set_cons_zero, List.set_cons_succ]
                      refine wpAnyH_done (by kernel_rfl) ?_ _
                      clear hHeld
                      go_wp2_with fail
                      go_meet
                      case rel => exact ⟨_, rfl, rfl, (HX0.out.on F7_base.out), F7_lab.out, Nat.le_trans HX0.out.2.1 F6_ge_lab.out⟩
                    exact AllReadyH.nil
                  exact AllReadyH.nil
                exact AllReadyH.nil
              exact AllReadyH.nil
            exact AllReadyH.nil
          exact AllReadyH.nil
        refine AllReadyH.cons rfl (fun K hK => ?_) ?_
        · try simp only [List.getElem_toArray, List.getElem_cons_succ, List.getElem_cons_zero]
          go_simp
          obtain ⟨wy1, ey⟩ : ∃ y, y = w0.alloc (.cells #[.int .i64 0, .int .u64 0] 38) := ⟨_, rfl⟩
          rw [← ey]
          have hb : Below w0.heap.size w0 wy1 := by rw [ey]; exact (Below.refl _ _).alloc (Nat.le_refl _) _
          have F1_base := Lib.hid (HR0.out.trans (hb.mono HR0.out.size))
          have F1_lab := Lib.hid (show wy1.heap[w0.heap.size]? = some (.cells #[.int .i64 0, .int .u64 0] 38) by rw [ey]; exact heap_alloc_new _ _)
          have G1_lab := Lib.hid (show w0.heap.size ≤ w0.heap.size from HR0.out.size)
          clear ey hb
          refine hK.out _ _ ?_ (fun hHeld => ?_)
          · exact (HX0.out.on F1_base.out).cells
          clear hK K
          try simp only [List.getElem_toArray, List.getElem_cons_succ, List.getElem_cons_zero, Act.put, List.setIfInBounds_toArray, List.set_cons_zero, List.set_cons_succ]
          refine wpAnyH_ready (rs := [0, 6]) (by kernel_rfl) (by simp) ?_
          refine AllReadyH.cons rfl (fun K hK => ?_) ?_
          · try simp only [List.getElem_toArray, List.getElem_cons_succ, List.getElem_cons_zero]
            go_simp
            obtain ⟨wy2, ey⟩ : ∃ y, y = wy1.alloc (.cells #[] 36) := ⟨_, rfl⟩
            rw [← ey]
            have hb : Below wy1.heap.size wy1 wy2 := by rw [ey]; exact (Below.refl _ _).alloc (Nat.le_refl _) _
            have F2_base := Lib.hid (F1_base.out.trans (hb.mono F1_base.out.size))
            have F2_lab := Lib.hid ((hb.block _ (Array.getElem?_eq_some_iff.1 F1_lab.out).1).trans F1_lab.out)
            have F2_ge_lab := Lib.hid (G1_lab.out)
            have F2_lu := Lib.hid (show wy2.heap[wy1.heap.size]? = some (.cells #[] 36) by rw [ey]; exact heap_alloc_new _ _)
            have G2_lu := Lib.hid (show w0.heap.size ≤ wy1.heap.size from F1_base.out.size)
            clear ey hb
            refine hK.out _ _ ?_ (fun hHeld => ?_)
            · exact (HX0.out.on F2_base.out).cells
            clear hK K
            try simp only [List.getElem_toArray, List.getElem_cons_succ, List.getElem_cons_zero, Act.put, List.setIfInBounds_toArray, List.set_cons_zero, List.set_cons_succ]
            refine wpAnyH_ready (rs := [3, 6]) (by kernel_rfl) (by simp) ?_
            refine AllReadyH.cons rfl (fun K hK => ?_) ?_
            · refine step_append_anyS rfl (.tmp 18) (.tmp 20) 22 rfl w0.heap.size 36 i0 (.int .u64 0) 1 8 Tryd.underlying22 hi0 hz0 hz1 hz2 rfl (by decide) (.slice (some ⟨wy1.heap.size, 0, none⟩) 0 0) 0 [] (by rfl) (lit_rowS F2_lu.out G2_lu.out) (.slice ua xs.length uc) xs.length (xs.map (Value.int .u64)) (by rfl) (by simp) (nums_src ((HU.out.below (HX0.out.on F2_base.out).1).mono (HX0.out.on F2_base.out).1.size) HNN.out) (by intro u hu; obtain ⟨x, _, rfl⟩ := List.mem_map.1 hu; rfl) (by unfold maxLen; omega) (by omega) F2_base.out.size ?_
              intro vup wy3 ho hg
              have F3_base := Lib.hid (F2_base.out.grown hg F2_base.out.size (fun k e => by cases e; exact G2_lu.out))
              have F3_lab := Lib.hid (lab_keep hg F2_lu.out F2_lab.out (by simp))
              have F3_ge_lab := Lib.hid (F2_ge_lab.out)
              have F3_up := Lib.hid (own0S ho)
              obtain ⟨aup, cup, rfl⟩ := SS.ownOf F3_up.out
              clear ho hg
              refine hK.out _ _ ?_ (fun hHeld => ?_)
              · exact (HX0.out.on F3_base.out).cells
              clear hK K
              try simp only [List.getElem_toArray, List.getElem_cons_succ, List.getElem_cons_zero, Act.put, List.setIfInBounds_toArray, List.set_cons_zero, List.set_cons_succ]
              refine wpAnyH_ready (rs := [6]) (by kernel_rfl) (by simp) ?_
              refine AllReadyH.cons rfl (fun K hK => ?_) ?_
              · try simp only [List.getElem_toArray, List.getElem_cons_succ, List.getElem_cons_zero]
                go_simp
                obtain ⟨wy4, ey⟩ : ∃ y, y = wy3.alloc (.cells #[] 38) := ⟨_, rfl⟩
                rw [← ey]
                have hb : Below wy3.heap.size wy3 wy4 := by rw [ey]; exact (Below.refl _ _).alloc (Nat.le_refl _) _
                have F4_base := Lib.hid (F3_base.out.trans (hb.mono F3_base.out.size))
                have F4_lab := Lib.hid ((hb.block _ (Array.getElem?_eq_some_iff.1 F3_lab.out).1).trans F3_lab.out)
                have F4_ge_lab := Lib.hid (F3_ge_lab.out)
                have F4_up := Lib.hid (SS.own_of_block F3_up.out (fun k e => hb.block k (F3_up.out.lt k e).2))
                have F4_ll := Lib.hid (show wy4.heap[wy3.heap.size]? = some (.cells #[] 38) by rw [ey]; exact heap_alloc_new _ _)
                have G4_ll := Lib.hid (show w0.heap.size ≤ wy3.heap.size from F3_base.out.size)
                clear ey hb
                refine hK.out _ _ ?_ (fun hHeld => ?_)
                · exact (HX0.out.on F4_base.out).cells
                clear hK K
                try simp only [List.getElem_toArray, List.getElem_cons_succ, List.getElem_cons_zero, Act.put, List.setIfInBounds_toArray, List.set_cons_zero, List.set_cons_succ]
                refine wpAnyH_ready (rs := [9]) (by kernel_rfl) (by simp) ?_
                refine AllReadyH.cons rfl (fun K hK => ?_) ?_
                · refine step_append_anyS rfl (.tmp 24) (.tmp 26) 23 rfl w0.heap.size 38 j0 (.agg #[.int .i64 0, .int .u64 0]) 2 16 Tryd.underlying23 hj0 hw0 hw1 hw2 rfl (by decide) (.slice (some ⟨wy3.heap.size, 0, none⟩) 0 0) 0 [] (by rfl) (lit_rowS F4_ll.out G4_ll.out) (.slice aa args.length ac) args.length (labV args) (by rfl) (labV_len args) ((HA.out.below (HX0.out.on F4_base.out).1).src) (labV_one args) (by unfold maxLen; omega) (by omega) F4_base.out.size ?_
                  intro val wy5 ho hg
                  have F5_base := Lib.hid (F4_base.out.grown hg F4_base.out.size (fun k e => by cases e; exact G4_ll.out))
                  have F5_lab := Lib.hid (lab_keep hg F4_ll.out F4_lab.out (by simp))
                  have F5_ge_lab := Lib.hid (F4_ge_lab.out)
                  have F5_up := Lib.hid (F4_up.out.kept hg (GG.own_types F4_up.out (lit_rowS (size := 2) F4_ll.out G4_ll.out) (by decide)))
                  have F5_al := Lib.hid (own0S ho)
                  obtain ⟨aal, cal, rfl⟩ := SS.ownOf F5_al.out
                  clear ho hg
                  refine hK.out _ _ ?_ (fun hHeld => ?_)
                  · exact (HX0.out.on F5_base.out).cells
                  clear hK K
                  try simp only [List.getElem_toArray, List.getElem_cons_succ, List.getElem_cons_zero, Act.put, List.setIfInBounds_toArray, List.set_cons_zero, List.set_cons_succ]
                  refine wpAnyH_ready (rs := [12]) (by kernel_rfl) (by simp) ?_
                  refine AllReadyH.cons rfl (fun K hK => ?_) ?_
                  · try simp only [List.getElem_toArray, List.getElem_cons_succ, List.getElem_cons_zero]
                    go_simp
                    (go_at_call 23; refine (HJ.out wy5 (HX0.out.on F5_base.out).1 (nums_of_row F5_up.out) (lab_ownV F5_al.out)).mono ?_; rintro e wy6 ⟨rfl, hb⟩; rw [HJR.out])
                    have F6_base := Lib.hid (F5_base.out.trans (hb.mono F5_base.out.size))
                    have F6_lab := Lib.hid ((hb.block _ (Array.getElem?_eq_some_iff.1 F5_lab.out).1).trans F5_lab.out)
                    have F6_ge_lab := Lib.hid (F5_ge_lab.out)
                    have F6_up := Lib.hid (SS.own_of_block F5_up.out (fun k e => hb.block k (F5_up.out.lt k e).2))
                    have F6_al := Lib.hid (SS.own_of_block F5_al.out (fun k e => hb.block k (F5_al.out.lt k e).2))
                    clear hb
                    try go_wp2_with fail
                    refine hK.out _ _ ?_ (fun hHeld => ?_)
                    · exact (HX0.out.on F6_base.out).cells
                    clear hK K
                    try simp only [List.getElem_toArray, List.getElem_cons_succ, List.getElem_cons_zero, Act.put, List.setIfInBounds_toArray, List.set_cons_zero, List.set_cons_succ]
                    refine wpAnyH_take (i := 13) (v := .tuple #[.agg #[.int .i64 y1, .int .u64 y2], .bool z]) rfl (by kernel_rfl) (by kernel_rfl) (by kernel_rfl) (fun _ _ _ h => h) (Or.inl ⟨by rfl, fun W hSW => ?_⟩) hHeld ?_
                    · ((try dsimp only at hSW); go_split_ands; go_simp <;> with_reducible rfl)
                    try simp only [List.getElem_toArray, List.getElem_cons_succ, List.getElem_cons_zero, Act.put, List.setIfInBounds_toArray, List.set_cons_zero, List.set_cons_succ]
                    refine wpAnyH_take (i := 14) (v := .agg #[.int .i64 y1, .int .u64 y2]) rfl (by kernel_rfl) (by kernel_rfl) (by kernel_rfl) (fun _ _ _ h => h) (Or.inl ⟨by rfl, fun W hSW => ?_⟩) hHeld ?_
                    · ((try dsimp only at hSW); go_split_ands; go_simp <;> with_reducible rfl)
                    try simp only [List.getElem_toArray, List.getElem_cons_succ, List.getElem_cons_zero, Act.put, List.setIfInBounds_toArray, List.set_cons_zero, List.set_cons_succ]
                    refine wpAnyH_take (i := 15) (v := .bool z) rfl (by kernel_rfl) (by kernel_rfl) (by kernel_rfl) (fun _ _ _ h => h) (Or.inl ⟨by rfl, fun W hSW => ?_⟩) hHeld ?_
                    · ((try dsimp only at hSW); go_split_ands; go_simp <;> with_reducible rfl)
                    try simp only [List.getElem_toArray, List.getElem_cons_succ, List.getElem_cons_zero, Act.put, List.setIfInBounds_toArray, List.set_cons_zero, List.set_cons_succ]
                    refine wpAnyH_ready (rs := [17]) (by kernel_rfl) (by simp) ?_
                    refine AllReadyH.cons rfl (fun K hK => ?_) ?_
                    · obtain ⟨s0, s1, s2, s3⟩ := one_lab F6_lab.out
                      try simp only [List.getElem_toArray, List.getElem_cons_succ, List.getElem_cons_zero]
                      go_simp
                      have hs := (put_lab F6_lab.out (y1) (y2)).1
                      have hbs := (F6_base.out.setCell (p := ⟨w0.heap.size, 0, none⟩) F6_ge_lab.out (.int .i64 (y1))).setCell (p := ⟨w0.heap.size, 1, none⟩) F6_ge_lab.out (.int .u64 (y2))
                      generalize (wy6.setCell ⟨w0.heap.size, 0, none⟩ (.int .i64 (y1))).setCell ⟨w0.heap.size, 1, none⟩ (.int .u64 (y2)) = wy7 at hs hbs ⊢
                      have F7_base := Lib.hid hbs
                      have F7_lab := Lib.hid hs
                      clear hs hbs s0 s1 s2 s3
                      refine hK.out _ _ ?_ (fun hHeld => ?_)
                      · exact (HX0.out.on F7_base.out).cells
                      clear hK K
                      try simp only [List.getElem_toArray, List.getElem_cons_succ, List.getElem_cons_zero, Act.put, List.setIfInBounds_toArray, List.set_cons_zero, List.set_cons_succ]
                      refine wpAnyH_take (i := 18) (v := .bool z) rfl (by kernel_rfl) (by kernel_rfl) (by kernel_rfl) (fun _ _ _ h => h) (Or.inl ⟨by rfl, fun W hSW => ?_⟩) hHeld ?_
                      · ((try dsimp only at hSW); go_split_ands; go_simp <;> with_reducible rfl)
                      try simp only [List.getElem_toArray, List.getElem_cons_succ, List.getElem_cons_zero, Act.put, List.setIfInBounds_toArray, List.set_cons_zero, List.set_cons_succ]
                      refine wpAnyH_done (by kernel_rfl) ?_ _
                      clear hHeld
                      go_wp2_with fail
                      go_meet
                      case rel => exact ⟨_, rfl, rfl, (HX0.out.on F7_base.out), F7_lab.out, Nat.le_trans HX0.out.2.1 F6_ge_lab.out⟩
                    exact AllReadyH.nil
                  exact AllReadyH.nil
                exact AllReadyH.nil
              exact AllReadyH.nil
            refine AllReadyH.cons rfl (fun K hK => ?_) ?_
            · try simp only [List.getElem_toArray, List.getElem_cons_succ, List.getElem_cons_zero]
              go_simp
              obtain ⟨wy3, ey⟩ : ∃ y, y = wy2.alloc (.cells #[] 38) := ⟨_, rfl⟩
              rw [← ey]
              have hb : Below wy2.heap.size wy2 wy3 := by rw [ey]; exact (Below.refl _ _).alloc (Nat.le_refl _) _
              have F3_base := Lib.hid (F2_base.out.trans (hb.mono F2_base.out.size))
              have F3_lab := Lib.hid ((hb.block _ (Array.getElem?_eq_some_iff.1 F2_lab.out).1).trans F2_lab.out)
              have F3_ge_lab := Lib.hid (F2_ge_lab.out)
              have F3_lu := Lib.hid ((hb.block _ (Array.getElem?_eq_some_iff.1 F2_lu.out).1).trans F2_lu.out)
              have F3_ge_lu := Lib.hid (G2_lu.out)
              have F3_ll := Lib.hid (show wy3.heap[wy2.heap.size]? = some (.cells #[] 38) by rw [ey]; exact heap_alloc_new _ _)
              have G3_ll := Lib.hid (show w0.heap.size ≤ wy2.heap.size from F2_base.out.size)
              clear ey hb
              refine hK.out _ _ ?_ (fun hHeld => ?_)
              · exact (HX0.out.on F3_base.out).cells
              clear hK K
              try simp only [List.getElem_toArray, List.getElem_cons_succ, List.getElem_cons_zero, Act.put, List.setIfInBounds_toArray, List.set_cons_zero, List.set_cons_succ]
              refine wpAnyH_ready (rs := [3]) (by kernel_rfl) (by simp) ?_
              refine AllReadyH.cons rfl (fun K hK => ?_) ?_
              · refine step_append_anyS rfl (.tmp 18) (.tmp 20) 22 rfl w0.heap.size 36 i0 (.int .u64 0) 1 8 Tryd.underlying22 hi0 hz0 hz1 hz2 rfl (by decide) (.slice (some ⟨wy1.heap.size, 0, none⟩) 0 0) 0 [] (by rfl) (lit_rowS F3_lu.out F3_ge_lu.out) (.slice ua xs.length uc) xs.length (xs.map (Value.int .u64)) (by rfl) (by simp) (nums_src ((HU.out.below (HX0.out.on F3_base.out).1).mono (HX0.out.on F3_base.out).1.size) HNN.out) (by intro u hu; obtain ⟨x, _, rfl⟩ := List.mem_map.1 hu; rfl) (by unfold maxLen; omega) (by omega) F3_base.out.size ?_
                intro vup wy4 ho hg
                have F4_base := Lib.hid (F3_base.out.grown hg F3_base.out.size (fun k e => by cases e; exact F3_ge_lu.out))
                have F4_lab := Lib.hid (lab_keep hg F3_lu.out F3_lab.out (by simp))
                have F4_ge_lab := Lib.hid (F3_ge_lab.out)
                have F4_ll := Lib.hid (lit_keep hg F3_lu.out F3_ll.out (by decide))
                have F4_ge_ll := Lib.hid (G3_ll.out)
                have F4_up := Lib.hid (own0S ho)
                obtain ⟨aup, cup, rfl⟩ := SS.ownOf F4_up.out
                clear ho hg
                refine hK.out _ _ ?_ (fun hHeld => ?_)
                · exact (HX0.out.on F4_base.out).cells
                clear hK K
                try simp only [List.getElem_toArray, List.getElem_cons_succ, List.getElem_cons_zero, Act.put, List.setIfInBounds_toArray, List.set_cons_zero, List.set_cons_succ]
                refine wpAnyH_ready (rs := [9]) (by kernel_rfl) (by simp) ?_
                refine AllReadyH.cons rfl (fun K hK => ?_) ?_
                · refine step_append_anyS rfl (.tmp 24) (.tmp 26) 23 rfl w0.heap.size 38 j0 (.agg #[.int .i64 0, .int .u64 0]) 2 16 Tryd.underlying23 hj0 hw0 hw1 hw2 rfl (by decide) (.slice (some ⟨wy2.heap.size, 0, none⟩) 0 0) 0 [] (by rfl) (lit_rowS F4_ll.out F4_ge_ll.out) (.slice aa args.length ac) args.length (labV args) (by rfl) (labV_len args) ((HA.out.below (HX0.out.on F4_base.out).1).src) (labV_one args) (by unfold maxLen; omega) (by omega) F4_base.out.size ?_
                  intro val wy5 ho hg
                  have F5_base := Lib.hid (F4_base.out.grown hg F4_base.out.size (fun k e => by cases e; exact F4_ge_ll.out))
                  have F5_lab := Lib.hid (lab_keep hg F4_ll.out F4_lab.out (by simp))
                  have F5_ge_lab := Lib.hid (F4_ge_lab.out)
                  have F5_up := Lib.hid (F4_up.out.kept hg (GG.own_types F4_up.out (lit_rowS (size := 2) F4_ll.out F4_ge_ll.out) (by decide)))
                  have F5_al := Lib.hid (own0S ho)
                  obtain ⟨aal, cal, rfl⟩ := SS.ownOf F5_al.out
                  clear ho hg
                  refine hK.out _ _ ?_ (fun hHeld => ?_)
                  · exact (HX0.out.on F5_base.out).cells
                  clear hK K
                  try simp only [List.getElem_toArray, List.getElem_cons_succ, List.getElem_cons_zero, Act.put, List.setIfInBounds_toArray, List.set_cons_zero, List.set_cons_succ]
                  refine wpAnyH_ready (rs := [12]) (by kernel_rfl) (by simp) ?_
                  refine AllReadyH.cons rfl (fun K hK => ?_) ?_
                  · try simp only [List.getElem_toArray, List.getElem_cons_succ, List.getElem_cons_zero]
                    go_simp
                    (go_at_call 23; refine (HJ.out wy5 (HX0.out.on F5_base.out).1 (nums_of_row F5_up.out) (lab_ownV F5_al.out)).mono ?_; rintro e wy6 ⟨rfl, hb⟩; rw [HJR.out])
                    have F6_base := Lib.hid (F5_base.out.trans (hb.mono F5_base.out.size))
                    have F6_lab := Lib.hid ((hb.block _ (Array.getElem?_eq_some_iff.1 F5_lab.out).1).trans F5_lab.out)
                    have F6_ge_lab := Lib.hid (F5_ge_lab.out)
                    have F6_up := Lib.hid (SS.own_of_block F5_up.out (fun k e => hb.block k (F5_up.out.lt k e).2))
                    have F6_al := Lib.hid (SS.own_of_block F5_al.out (fun k e => hb.block k (F5_al.out.lt k e).2))
                    clear hb
                    try go_wp2_with fail
                    refine hK.out _ _ ?_ (fun hHeld => ?_)
                    · exact (HX0.out.on F6_base.out).cells
                    clear hK K
                    try simp only [List.getElem_toArray, List.getElem_cons_succ, List.getElem_cons_zero, Act.put, List.setIfInBounds_toArray, List.set_cons_zero, List.set_cons_succ]
                    refine wpAnyH_take (i := 13) (v := .tuple #[.agg #[.int .i64 y1, .int .u64 y2], .bool z]) rfl (by kernel_rfl) (by kernel_rfl) (by kernel_rfl) (fun _ _ _ h => h) (Or.inl ⟨by rfl, fun W hSW => ?_⟩) hHeld ?_
                    · ((try dsimp only at hSW); go_split_ands; go_simp <;> with_reducible rfl)
                    try simp only [List.getElem_toArray, List.getElem_cons_succ, List.getElem_cons_zero, Act.put, List.setIfInBounds_toArray, List.set_cons_zero, List.set_cons_succ]
                    refine wpAnyH_take (i := 14) (v := .agg #[.int .i64 y1, .int .u64 y2]) rfl (by kernel_rfl) (by kernel_rfl) (by kernel_rfl) (fun _ _ _ h => h) (Or.inl ⟨by rfl, fun W hSW => ?_⟩) hHeld ?_
                    · ((try dsimp only at hSW); go_split_ands; go_simp <;> with_reducible rfl)
                    try simp only [List.getElem_toArray, List.getElem_cons_succ, List.getElem_cons_zero, Act.put, List.setIfInBounds_toArray, List.set_cons_zero, List.set_cons_succ]
                    refine wpAnyH_take (i := 15) (v := .bool z) rfl (by kernel_rfl) (by kernel_rfl) (by kernel_rfl) (fun _ _ _ h => h) (Or.inl ⟨by rfl, fun W hSW => ?_⟩) hHeld ?_
                    · ((try dsimp only at hSW); go_split_ands; go_simp <;> with_reducible rfl)
                    try simp only [List.getElem_toArray, List.getElem_cons_succ, List.getElem_cons_zero, Act.put, List.setIfInBounds_toArray, List.set_cons_zero, List.set_cons_succ]
                    refine wpAnyH_ready (rs := [17]) (by kernel_rfl) (by simp) ?_
                    refine AllReadyH.cons rfl (fun K hK => ?_) ?_
                    · obtain ⟨s0, s1, s2, s3⟩ := one_lab F6_lab.out
                      try simp only [List.getElem_toArray, List.getElem_cons_succ, List.getElem_cons_zero]
                      go_simp
                      have hs := (put_lab F6_lab.out (y1) (y2)).1
                      have hbs := (F6_base.out.setCell (p := ⟨w0.heap.size, 0, none⟩) F6_ge_lab.out (.int .i64 (y1))).setCell (p := ⟨w0.heap.size, 1, none⟩) F6_ge_lab.out (.int .u64 (y2))
                      generalize (wy6.setCell ⟨w0.heap.size, 0, none⟩ (.int .i64 (y1))).setCell ⟨w0.heap.size, 1, none⟩ (.int .u64 (y2)) = wy7 at hs hbs ⊢
                      have F7_base := Lib.hid hbs
                      have F7_lab := Lib.hid hs
                      clear hs hbs s0 s1 s2 s3
                      refine hK.out _ _ ?_ (fun hHeld => ?_)
                      · exact (HX0.out.on F7_base.out).cells
                      clear hK K
                      try simp only [List.getElem_toArray, List.getElem_cons_succ, List.getElem_cons_zero, Act.put, List.setIfInBounds_toArray, List.set_cons_zero, List.set_cons_succ]
                      refine wpAnyH_take (i := 18) (v := .bool z) rfl (by kernel_rfl) (by kernel_rfl) (by kernel_rfl) (fun _ _ _ h => h) (Or.inl ⟨by rfl, fun W hSW => ?_⟩) hHeld ?_
                      · ((try dsimp only at hSW); go_split_ands; go_simp <;> with_reducible rfl)
                      try simp only [List.getElem_toArray, List.getElem_cons_succ, List.getElem_cons_zero, Act.put, List.setIfInBounds_toArray, List.set_cons_zero, List.set_cons_succ]
                      refine wpAnyH_done (by kernel_rfl) ?_ _
                      clear hHeld
                      go_wp2_with fail
                      go_meet
                      case rel => exact ⟨_, rfl, rfl, (HX0.out.on F7_base.out), F7_lab.out, Nat.le_trans HX0.out.2.1 F6_ge_lab.out⟩
                    exact AllReadyH.nil
                  exact AllReadyH.nil
                exact AllReadyH.nil
              exact AllReadyH.nil
            exact AllReadyH.nil
          refine AllReadyH.cons rfl (fun K hK => ?_) ?_
          · try simp only [List.getElem_toArray, List.getElem_cons_succ, List.getElem_cons_zero]
            go_simp
            obtain ⟨wy2, ey⟩ : ∃ y, y = wy1.alloc (.cells #[] 38) := ⟨_, rfl⟩
            rw [← ey]
            have hb : Below wy1.heap.size wy1 wy2 := by rw [ey]; exact (Below.refl _ _).alloc (Nat.le_refl _) _
            have F2_base := Lib.hid (F1_base.out.trans (hb.mono F1_base.out.size))
            have F2_lab := Lib.hid ((hb.block _ (Array.getElem?_eq_some_iff.1 F1_lab.out).1).trans F1_lab.out)
            have F2_ge_lab := Lib.hid (G1_lab.out)
            have F2_ll := Lib.hid (show wy2.heap[wy1.heap.size]? = some (.cells #[] 38) by rw [ey]; exact heap_alloc_new _ _)
            have G2_ll := Lib.hid (show w0.heap.size ≤ wy1.heap.size from F1_base.out.size)
            clear ey hb
            refine hK.out _ _ ?_ (fun hHeld => ?_)
            · exact (HX0.out.on F2_base.out).cells
            clear hK K
            try simp only [List.getElem_toArray, List.getElem_cons_succ, List.getElem_cons_zero, Act.put, List.setIfInBounds_toArray, List.set_cons_zero, List.set_cons_succ]
            refine wpAnyH_ready (rs := [0]) (by kernel_rfl) (by simp) ?_
            refine AllReadyH.cons rfl (fun K hK => ?_) ?_
            · try simp only [List.getElem_toArray, List.getElem_cons_succ, List.getElem_cons_zero]
              go_simp
              obtain ⟨wy3, ey⟩ : ∃ y, y = wy2.alloc (.cells #[] 36) := ⟨_, rfl⟩
              rw [← ey]
              have hb : Below wy2.heap.size wy2 wy3 := by rw [ey]; exact (Below.refl _ _).alloc (Nat.le_refl _) _
              have F3_base := Lib.hid (F2_base.out.trans (hb.mono F2_base.out.size))
              have F3_lab := Lib.hid ((hb.block _ (Array.getElem?_eq_some_iff.1 F2_lab.out).1).trans F2_lab.out)
              have F3_ge_lab := Lib.hid (F2_ge_lab.out)
              have F3_ll := Lib.hid ((hb.block _ (Array.getElem?_eq_some_iff.1 F2_ll.out).1).trans F2_ll.out)
              have F3_ge_ll := Lib.hid (G2_ll.out)
              have F3_lu := Lib.hid (show wy3.heap[wy2.heap.size]? = some (.cells #[] 36) by rw [ey]; exact heap_alloc_new _ _)
              have G3_lu := Lib.hid (show w0.heap.size ≤ wy2.heap.size from F2_base.out.size)
              clear ey hb
              refine hK.out _ _ ?_ (fun hHeld => ?_)
              · exact (HX0.out.on F3_base.out).cells
              clear hK K
              try simp only [List.getElem_toArray, List.getElem_cons_succ, List.getElem_cons_zero, Act.put, List.setIfInBounds_toArray, List.set_cons_zero, List.set_cons_succ]
              refine wpAnyH_ready (rs := [3]) (by kernel_rfl) (by simp) ?_
              refine AllReadyH.cons rfl (fun K hK => ?_) ?_
              · refine step_append_anyS rfl (.tmp 18) (.tmp 20) 22 rfl w0.heap.size 36 i0 (.int .u64 0) 1 8 Tryd.underlying22 hi0 hz0 hz1 hz2 rfl (by decide) (.slice (some ⟨wy2.heap.size, 0, none⟩) 0 0) 0 [] (by rfl) (lit_rowS F3_lu.out G3_lu.out) (.slice ua xs.length uc) xs.length (xs.map (Value.int .u64)) (by rfl) (by simp) (nums_src ((HU.out.below (HX0.out.on F3_base.out).1).mono (HX0.out.on F3_base.out).1.size) HNN.out) (by intro u hu; obtain ⟨x, _, rfl⟩ := List.mem_map.1 hu; rfl) (by unfold maxLen; omega) (by omega) F3_base.out.size ?_
                intro vup wy4 ho hg
                have F4_base := Lib.hid (F3_base.out.grown hg F3_base.out.size (fun k e => by cases e; exact G3_lu.out))
                have F4_lab := Lib.hid (lab_keep hg F3_lu.out F3_lab.out (by simp))
                have F4_ge_lab := Lib.hid (F3_ge_lab.out)
                have F4_ll := Lib.hid (lit_keep hg F3_lu.out F3_ll.out (by decide))
                have F4_ge_ll := Lib.hid (F3_ge_ll.out)
                have F4_up := Lib.hid (own0S ho)
                obtain ⟨aup, cup, rfl⟩ := SS.ownOf F4_up.out
                clear ho hg
                refine hK.out _ _ ?_ (fun hHeld => ?_)
                · exact (HX0.out.on F4_base.out).cells
                clear hK K
                try simp only [List.getElem_toArray, List.getElem_cons_succ, List.getElem_cons_zero, Act.put, List.setIfInBounds_toArray, List.set_cons_zero, List.set_cons_succ]
                refine wpAnyH_ready (rs := [9]) (by kernel_rfl) (by simp) ?_
                refine AllReadyH.cons rfl (fun K hK => ?_) ?_
                · refine step_append_anyS rfl (.tmp 24) (.tmp 26) 23 rfl w0.heap.size 38 j0 (.agg #[.int .i64 0, .int .u64 0]) 2 16 Tryd.underlying23 hj0 hw0 hw1 hw2 rfl (by decide) (.slice (some ⟨wy1.heap.size, 0, none⟩) 0 0) 0 [] (by rfl) (lit_rowS F4_ll.out F4_ge_ll.out) (.slice aa args.length ac) args.length (labV args) (by rfl) (labV_len args) ((HA.out.below (HX0.out.on F4_base.out).1).src) (labV_one args) (by unfold maxLen; omega) (by omega) F4_base.out.size ?_
                  intro val wy5 ho hg
                  have F5_base := Lib.hid (F4_base.out.grown hg F4_base.out.size (fun k e => by cases e; exact F4_ge_ll.out))
                  have F5_lab := Lib.hid (lab_keep hg F4_ll.out F4_lab.out (by simp))
                  have F5_ge_lab := Lib.hid (F4_ge_lab.out)
                  have F5_up := Lib.hid (F4_up.out.kept hg (GG.own_types F4_up.out (lit_rowS (size := 2) F4_ll.out F4_ge_ll.out) (by decide)))
                  have F5_al := Lib.hid (own0S ho)
                  obtain ⟨aal, cal, rfl⟩ := SS.ownOf F5_al.out
                  clear ho hg
                  refine hK.out _ _ ?_ (fun hHeld => ?_)
                  · exact (HX0.out.on F5_base.out).cells
                  clear hK K
                  try simp only [List.getElem_toArray, List.getElem_cons_succ, List.getElem_cons_zero, Act.put, List.setIfInBounds_toArray, List.set_cons_zero, List.set_cons_succ]
                  refine wpAnyH_ready (rs := [12]) (by kernel_rfl) (by simp) ?_
                  refine AllReadyH.cons rfl (fun K hK => ?_) ?_
                  · try simp only [List.getElem_toArray, List.getElem_cons_succ, List.getElem_cons_zero]
                    go_simp
                    (go_at_call 23; refine (HJ.out wy5 (HX0.out.on F5_base.out).1 (nums_of_row F5_up.out) (lab_ownV F5_al.out)).mono ?_; rintro e wy6 ⟨rfl, hb⟩; rw [HJR.out])
                    have F6_base := Lib.hid (F5_base.out.trans (hb.mono F5_base.out.size))
                    have F6_lab := Lib.hid ((hb.block _ (Array.getElem?_eq_some_iff.1 F5_lab.out).1).trans F5_lab.out)
                    have F6_ge_lab := Lib.hid (F5_ge_lab.out)
                    have F6_up := Lib.hid (SS.own_of_block F5_up.out (fun k e => hb.block k (F5_up.out.lt k e).2))
                    have F6_al := Lib.hid (SS.own_of_block F5_al.out (fun k e => hb.block k (F5_al.out.lt k e).2))
                    clear hb
                    try go_wp2_with fail
                    refine hK.out _ _ ?_ (fun hHeld => ?_)
                    · exact (HX0.out.on F6_base.out).cells
                    clear hK K
                    try simp only [List.getElem_toArray, List.getElem_cons_succ, List.getElem_cons_zero, Act.put, List.setIfInBounds_toArray, List.set_cons_zero, List.set_cons_succ]
                    refine wpAnyH_take (i := 13) (v := .tuple #[.agg #[.int .i64 y1, .int .u64 y2], .bool z]) rfl (by kernel_rfl) (by kernel_rfl) (by kernel_rfl) (fun _ _ _ h => h) (Or.inl ⟨by rfl, fun W hSW => ?_⟩) hHeld ?_
                    · ((try dsimp only at hSW); go_split_ands; go_simp <;> with_reducible rfl)
                    try simp only [List.getElem_toArray, List.getElem_cons_succ, List.getElem_cons_zero, Act.put, List.setIfInBounds_toArray, List.set_cons_zero, List.set_cons_succ]
                    refine wpAnyH_take (i := 14) (v := .agg #[.int .i64 y1, .int .u64 y2]) rfl (by kernel_rfl) (by kernel_rfl) (by kernel_rfl) (fun _ _ _ h => h) (Or.inl ⟨by rfl, fun W hSW => ?_⟩) hHeld ?_
                    · ((try dsimp only at hSW); go_split_ands; go_simp <;> with_reducible rfl)
                    try simp only [List.getElem_toArray, List.getElem_cons_succ, List.getElem_cons_zero, Act.put, List.setIfInBounds_toArray, List.set_cons_zero, List.set_cons_succ]
                    refine wpAnyH_take (i := 15) (v := .bool z) rfl (by kernel_rfl) (by kernel_rfl) (by kernel_rfl) (fun _ _ _ h => h) (Or.inl ⟨by rfl, fun W hSW => ?_⟩) hHeld ?_
                    · ((try dsimp only at hSW); go_split_ands; go_simp <;> with_reducible rfl)
                    try simp only [List.getElem_toArray, List.getElem_cons_succ, List.getElem_cons_zero, Act.put, List.setIfInBounds_toArray, List.set_cons_zero, List.set_cons_succ]
                    refine wpAnyH_ready (rs := [17]) (by kernel_rfl) (by simp) ?_
                    refine AllReadyH.cons rfl (fun K hK => ?_) ?_
                    · obtain ⟨s0, s1, s2, s3⟩ := one_lab F6_lab.out
                      try simp only [List.getElem_toArray, List.getElem_cons_succ, List.getElem_cons_zero]
                      go_simp
                      have hs := (put_lab F6_lab.out (y1) (y2)).1
                      have hbs := (F6_base.out.setCell (p := ⟨w0.heap.size, 0, none⟩) F6_ge_lab.out (.int .i64 (y1))).setCell (p := ⟨w0.heap.size, 1, none⟩) F6_ge_lab.out (.int .u64 (y2))
                      generalize (wy6.setCell ⟨w0.heap.size, 0, none⟩ (.int .i64 (y1))).setCell ⟨w0.heap.size, 1, none⟩ (.int .u64 (y2)) = wy7 at hs hbs ⊢
                      have F7_base := Lib.hid hbs
                      have F7_lab := Lib.hid hs
                      clear hs hbs s0 s1 s2 s3
                      refine hK.out _ _ ?_ (fun hHeld => ?_)
                      · exact (HX0.out.on F7_base.out).cells
                      clear hK K
                      try simp only [List.getElem_toArray, List.getElem_cons_succ, List.getElem_cons_zero, Act.put, List.setIfInBounds_toArray, List.set_cons_zero, List.set_cons_succ]
                      refine wpAnyH_take (i := 18) (v := .bool z) rfl (by kernel_rfl) (by kernel_rfl) (by kernel_rfl) (fun _ _ _ h => h) (Or.inl ⟨by rfl, fun W hSW => ?_⟩) hHeld ?_
                      · ((try dsimp only at hSW); go_split_ands; go_simp <;> with_reducible rfl)
                      try simp only [List.getElem_toArray, List.getElem_cons_succ, List.getElem_cons_zero, Act.put, List.setIfInBounds_toArray, List.set_cons_zero, List.set_cons_succ]
                      refine wpAnyH_done (by kernel_rfl) ?_ _
                      clear hHeld
                      go_wp2_with fail
                      go_meet
                      case rel => exact ⟨_, rfl, rfl, (HX0.out.on F7_base.out), F7_lab.out, Nat.le_trans HX0.out.2.1 F6_ge_lab.out⟩
                    exact AllReadyH.nil
                  exact AllReadyH.nil
                exact AllReadyH.nil
              exact AllReadyH.nil
            exact AllReadyH.nil
          exact AllReadyH.nil
        exact AllReadyH.nil
      case rest =>
        obtain ⟨lb, rfl, rfl, hx9, hl9, hlb⟩ := hcut
        have HX1 := Lib.hid hx9
        have HL1 := Lib.hid hl9
        clear hx9 hl9 HS0 HJ HJR hc0 hc1 hc2 hc3 hc4 hc5
        obtain ⟨hc0, hc1, hc2, hc3, hc4, hc5⟩ := HX1.out.cells
        obtain ⟨is0, eis⟩ : ∃ is0, is0 = isB xs a m args.length (p1, p2) := ⟨_, rfl⟩
        have HIS := Lib.hid eis
        clear eis
        have b9 : xs.length ≤ 9223372036854775807 := by omega
        go_upto_region 4 with fail
        go_cut [3, 4, 5] from 33 (fun s3 s4 s5 w9 => s3 = .pointer (some ⟨lb, 0, none⟩) ∧ s4 = .bool z ∧ s5 = .bool is0 ∧ CallB W (.slice ua xs.length uc) (.slice aa args.length ac) a m p1 p2 w9 ∧ w9.heap[lb]? = some (.cells #[.int .i64 y1, .int .u64 y2] 38))
        case first =>
          by_cases h6 : args.length ≤ 6
          · have i6 : (args.length : Int) ≤ 6 := by omega
            have j6 : decide ((args.length : Int) ≤ 6) = true := decide_eq_true i6
            cases hr : LL.rightB xs with
            | false =>
              have HRR := Lib.hid hr
              have his : is0 = false := by rw [HIS.out]; unfold isB; simp [hr]
              clear HIS
              cases his
              go_wp2_with (first
                | (go_at_call 18; refine (rright_any _ xs _ _ ((HU.out.below HX1.out.1).mono HX1.out.1.size) HX.out b9).mono ?_; rintro e w2 ⟨rfl, d, e2⟩; rw [HRR.out]; have hb : Below wc.heap.size wc w2 := by rw [e2]; exact bel_of_dN d
                   clear e2; have HX2 := Lib.hid (HX1.out.on hb); have HL2 := Lib.hid ((hb.block _ (Array.getElem?_eq_some_iff.1 HL1.out).1).trans HL1.out); clear hb hc0 hc1 hc2 hc3 hc4 hc5; obtain ⟨hc0, hc1, hc2, hc3, hc4, hc5⟩ := HX2.out.cells)
                | (go_at_call 24; refine (rfits_any _ _ _ _ _ _ _ HM.out (by omega)).mono ?_; rintro e w3 ⟨rfl, hb⟩; rw [HFF.out]; have HX3 := Lib.hid (HX2.out.on hb); have HL3 := Lib.hid ((hb.block _ (Array.getElem?_eq_some_iff.1 HL2.out).1).trans HL2.out); clear hb hc0 hc1 hc2 hc3 hc4 hc5; obtain ⟨hc0, hc1, hc2, hc3, hc4, hc5⟩ := HX3.out.cells)
                | (go_at_call 19; refine (rgood17_any _ _ _ _ _ _).mono ?_; rintro e w4 ⟨rfl, hb⟩; rw [HGG.out]; have HX4 := Lib.hid (HX3.out.on hb); have HL4 := Lib.hid ((hb.block _ (Array.getElem?_eq_some_iff.1 HL3.out).1).trans HL3.out); clear hb hc0 hc1 hc2 hc3 hc4 hc5; obtain ⟨hc0, hc1, hc2, hc3, hc4, hc5⟩ := HX4.out.cells))
              go_meet
              case rel => first | exact ⟨rfl, rfl, rfl, HX4.out, HL4.out⟩ | exact ⟨rfl, rfl, rfl, HX3.out, HL3.out⟩ | exact ⟨rfl, rfl, rfl, HX2.out, HL2.out⟩ | exact ⟨rfl, rfl, rfl, HX1.out, HL1.out⟩
            | true =>
              have HRR := Lib.hid hr
              cases hf : rfitB xs.length a m args.length with
              | false =>
                have HFF := Lib.hid hf
                have his : is0 = false := by rw [HIS.out]; unfold isB; simp [hr, hf]
                clear HIS
                cases his
                go_wp2_with (first
                  | (go_at_call 18; refine (rright_any _ xs _ _ ((HU.out.below HX1.out.1).mono HX1.out.1.size) HX.out b9).mono ?_; rintro e w2 ⟨rfl, d, e2⟩; rw [HRR.out]; have hb : Below wc.heap.size wc w2 := by rw [e2]; exact bel_of_dN d
                     clear e2; have HX2 := Lib.hid (HX1.out.on hb); have HL2 := Lib.hid ((hb.block _ (Array.getElem?_eq_some_iff.1 HL1.out).1).trans HL1.out); clear hb hc0 hc1 hc2 hc3 hc4 hc5; obtain ⟨hc0, hc1, hc2, hc3, hc4, hc5⟩ := HX2.out.cells)
                  | (go_at_call 24; refine (rfits_any _ _ _ _ _ _ _ HM.out (by omega)).mono ?_; rintro e w3 ⟨rfl, hb⟩; rw [HFF.out]; have HX3 := Lib.hid (HX2.out.on hb); have HL3 := Lib.hid ((hb.block _ (Array.getElem?_eq_some_iff.1 HL2.out).1).trans HL2.out); clear hb hc0 hc1 hc2 hc3 hc4 hc5; obtain ⟨hc0, hc1, hc2, hc3, hc4, hc5⟩ := HX3.out.cells)
                  | (go_at_call 19; refine (rgood17_any _ _ _ _ _ _).mono ?_; rintro e w4 ⟨rfl, hb⟩; rw [HGG.out]; have HX4 := Lib.hid (HX3.out.on hb); have HL4 := Lib.hid ((hb.block _ (Array.getElem?_eq_some_iff.1 HL3.out).1).trans HL3.out); clear hb hc0 hc1 hc2 hc3 hc4 hc5; obtain ⟨hc0, hc1, hc2, hc3, hc4, hc5⟩ := HX4.out.cells))
                go_meet
                case rel => first | exact ⟨rfl, rfl, rfl, HX4.out, HL4.out⟩ | exact ⟨rfl, rfl, rfl, HX3.out, HL3.out⟩ | exact ⟨rfl, rfl, rfl, HX2.out, HL2.out⟩ | exact ⟨rfl, rfl, rfl, HX1.out, HL1.out⟩
              | true =>
                have HFF := Lib.hid hf
                cases hg : labOk xs.length (p1, p2) with
                | false =>
                  have HGG := Lib.hid hg
                  have his : is0 = false := by rw [HIS.out]; unfold isB; simp [hr, hf, hg]
                  clear HIS
                  cases his
                  go_wp2_with (first
                    | (go_at_call 18; refine (rright_any _ xs _ _ ((HU.out.below HX1.out.1).mono HX1.out.1.size) HX.out b9).mono ?_; rintro e w2 ⟨rfl, d, e2⟩; rw [HRR.out]; have hb : Below wc.heap.size wc w2 := by rw [e2]; exact bel_of_dN d
                       clear e2; have HX2 := Lib.hid (HX1.out.on hb); have HL2 := Lib.hid ((hb.block _ (Array.getElem?_eq_some_iff.1 HL1.out).1).trans HL1.out); clear hb hc0 hc1 hc2 hc3 hc4 hc5; obtain ⟨hc0, hc1, hc2, hc3, hc4, hc5⟩ := HX2.out.cells)
                    | (go_at_call 24; refine (rfits_any _ _ _ _ _ _ _ HM.out (by omega)).mono ?_; rintro e w3 ⟨rfl, hb⟩; rw [HFF.out]; have HX3 := Lib.hid (HX2.out.on hb); have HL3 := Lib.hid ((hb.block _ (Array.getElem?_eq_some_iff.1 HL2.out).1).trans HL2.out); clear hb hc0 hc1 hc2 hc3 hc4 hc5; obtain ⟨hc0, hc1, hc2, hc3, hc4, hc5⟩ := HX3.out.cells)
                    | (go_at_call 19; refine (rgood17_any _ _ _ _ _ _).mono ?_; rintro e w4 ⟨rfl, hb⟩; rw [HGG.out]; have HX4 := Lib.hid (HX3.out.on hb); have HL4 := Lib.hid ((hb.block _ (Array.getElem?_eq_some_iff.1 HL3.out).1).trans HL3.out); clear hb hc0 hc1 hc2 hc3 hc4 hc5; obtain ⟨hc0, hc1, hc2, hc3, hc4, hc5⟩ := HX4.out.cells))
                  go_meet
                  case rel => first | exact ⟨rfl, rfl, rfl, HX4.out, HL4.out⟩ | exact ⟨rfl, rfl, rfl, HX3.out, HL3.out⟩ | exact ⟨rfl, rfl, rfl, HX2.out, HL2.out⟩ | exact ⟨rfl, rfl, rfl, HX1.out, HL1.out⟩
                | true =>
                  have HGG := Lib.hid hg
                  have his : is0 = true := by rw [HIS.out]; unfold isB; simp [h6, hr, hf, hg]
                  clear HIS
                  cases his
                  go_wp2_with (first
                    | (go_at_call 18; refine (rright_any _ xs _ _ ((HU.out.below HX1.out.1).mono HX1.out.1.size) HX.out b9).mono ?_; rintro e w2 ⟨rfl, d, e2⟩; rw [HRR.out]; have hb : Below wc.heap.size wc w2 := by rw [e2]; exact bel_of_dN d
                       clear e2; have HX2 := Lib.hid (HX1.out.on hb); have HL2 := Lib.hid ((hb.block _ (Array.getElem?_eq_some_iff.1 HL1.out).1).trans HL1.out); clear hb hc0 hc1 hc2 hc3 hc4 hc5; obtain ⟨hc0, hc1, hc2, hc3, hc4, hc5⟩ := HX2.out.cells)
                    | (go_at_call 24; refine (rfits_any _ _ _ _ _ _ _ HM.out (by omega)).mono ?_; rintro e w3 ⟨rfl, hb⟩; rw [HFF.out]; have HX3 := Lib.hid (HX2.out.on hb); have HL3 := Lib.hid ((hb.block _ (Array.getElem?_eq_some_iff.1 HL2.out).1).trans HL2.out); clear hb hc0 hc1 hc2 hc3 hc4 hc5; obtain ⟨hc0, hc1, hc2, hc3, hc4, hc5⟩ := HX3.out.cells)
                    | (go_at_call 19; refine (rgood17_any _ _ _ _ _ _).mono ?_; rintro e w4 ⟨rfl, hb⟩; rw [HGG.out]; have HX4 := Lib.hid (HX3.out.on hb); have HL4 := Lib.hid ((hb.block _ (Array.getElem?_eq_some_iff.1 HL3.out).1).trans HL3.out); clear hb hc0 hc1 hc2 hc3 hc4 hc5; obtain ⟨hc0, hc1, hc2, hc3, hc4, hc5⟩ := HX4.out.cells))
                  go_meet
                  case rel => first | exact ⟨rfl, rfl, rfl, HX4.out, HL4.out⟩ | exact ⟨rfl, rfl, rfl, HX3.out, HL3.out⟩ | exact ⟨rfl, rfl, rfl, HX2.out, HL2.out⟩ | exact ⟨rfl, rfl, rfl, HX1.out, HL1.out⟩
          · have i6 : ¬ (args.length : Int) ≤ 6 := by omega
            have j6 : decide ((args.length : Int) ≤ 6) = false := decide_eq_false i6
            have his : is0 = false := by rw [HIS.out]; unfold isB; simp [h6]
            clear HIS
            cases his
            go_wp2_with (first
              | (go_at_call 18; refine (rright_any _ xs _ _ ((HU.out.below HX1.out.1).mono HX1.out.1.size) HX.out b9).mono ?_; rintro e w2 ⟨rfl, d, e2⟩; rw [HRR.out]; have hb : Below wc.heap.size wc w2 := by rw [e2]; exact bel_of_dN d
                 clear e2; have HX2 := Lib.hid (HX1.out.on hb); have HL2 := Lib.hid ((hb.block _ (Array.getElem?_eq_some_iff.1 HL1.out).1).trans HL1.out); clear hb hc0 hc1 hc2 hc3 hc4 hc5; obtain ⟨hc0, hc1, hc2, hc3, hc4, hc5⟩ := HX2.out.cells)
              | (go_at_call 24; refine (rfits_any _ _ _ _ _ _ _ HM.out (by omega)).mono ?_; rintro e w3 ⟨rfl, hb⟩; rw [HFF.out]; have HX3 := Lib.hid (HX2.out.on hb); have HL3 := Lib.hid ((hb.block _ (Array.getElem?_eq_some_iff.1 HL2.out).1).trans HL2.out); clear hb hc0 hc1 hc2 hc3 hc4 hc5; obtain ⟨hc0, hc1, hc2, hc3, hc4, hc5⟩ := HX3.out.cells)
              | (go_at_call 19; refine (rgood17_any _ _ _ _ _ _).mono ?_; rintro e w4 ⟨rfl, hb⟩; rw [HGG.out]; have HX4 := Lib.hid (HX3.out.on hb); have HL4 := Lib.hid ((hb.block _ (Array.getElem?_eq_some_iff.1 HL3.out).1).trans HL3.out); clear hb hc0 hc1 hc2 hc3 hc4 hc5; obtain ⟨hc0, hc1, hc2, hc3, hc4, hc5⟩ := HX4.out.cells))
            go_meet
            case rel => first | exact ⟨rfl, rfl, rfl, HX4.out, HL4.out⟩ | exact ⟨rfl, rfl, rfl, HX3.out, HL3.out⟩ | exact ⟨rfl, rfl, rfl, HX2.out, HL2.out⟩ | exact ⟨rfl, rfl, rfl, HX1.out, HL1.out⟩
        case rest =>
          obtain ⟨rfl, rfl, rfl, hx9, hl9⟩ := hcut
          have HX5 := Lib.hid hx9
          have HL5 := Lib.hid hl9
          clear hx9 hl9 HX1 HL1 hc0 hc1 hc2 hc3 hc4 hc5
          go_wp2_with fail
          go_loopw [5, 6] (fun s k wr => ∃ (i : Nat) (t : Bool), i ≤ args.length ∧ k = .int .i64 (i : Int) ∧ s = .bool t ∧ CallB W (.slice ua xs.length uc) (.slice aa args.length ac) a m p1 p2 wr ∧ wr.heap[lb]? = some (.cells #[.int .i64 y1, .int .u64 y2] 38) ∧ RowKit.Hid (t = (is0 && (args.take i).all (labOk xs.length)))) (fun _ k _ => args.length - (intOf k).toNat)
          case atStart => exact ⟨0, is0, Nat.zero_le _, rfl, rfl, HX5.out, HL5.out, Lib.hid (by simp)⟩
          case round =>
            obtain ⟨i, t, hi, rfl, rfl, hx6, hl6, HT⟩ := hrel
            have HX6 := Lib.hid hx6
            have HL6 := Lib.hid hl6
            clear hx6 hl6 HX5 HL5
            obtain ⟨hc0, hc1, hc2, hc3, hc4, hc5⟩ := HX6.out.cells
            obtain ⟨hl0, hl1⟩ := two_lab HL6.out
            by_cases hlt : i < args.length
            · have i1 : (0 : Int) ≤ i ∧ (i : Int) < args.length := by omega
              have i2 : decide ((i : Int) < args.length) = true := decide_eq_true i1.2
              cases t with
              | false =>
                have hz : z = false := by
                  rw [HZ.out, ← put_is, ← HIS.out]
                  have h := HT.out
                  cases h0 : is0 with
                  | false => rfl
                  | true =>
                    rw [h0, Bool.true_and] at h
                    rw [Bool.true_and, ← List.take_append_drop i args, List.all_append, ← h]
                    rfl
                have hy := HY.out
                rw [hz] at hy
                obtain ⟨e1, e2⟩ := hy
                simp at e1 e2
                clear HY HZ HT
                try clear HTE
                subst hz e1 e2
                have hE := eq_lab
                go_wp2_with (go_at_call 20; refine (HAW.out _ HX6.out.1).mono ?_; rintro e w9 ⟨rfl, hb⟩; have HF := Lib.hid (HX6.out.on hb); clear hb)
                go_ret
                exact ⟨rfl, HF.out.1⟩
              | true =>
                have HSN := Lib.hid (show labOk xs.length (args[i]?.getD s0) = (is0 && (args.take (i + 1)).all (labOk xs.length)) by rw [all_take hlt, ← Bool.and_assoc, ← HT.out, Bool.true_and])
                obtain ⟨xb, xo, rfl, hxb, hx1, hx2⟩ := (HA.out.below HX6.out.1).at hlt
                have HXB := Lib.hid hxb
                obtain ⟨⟨g1, g2⟩, eg⟩ : ∃ g, g = args[i]?.getD s0 := ⟨_, rfl⟩
                rw [← eg] at hx1 hx2 HSN
                clear eg
                simp only at hx1 hx2
                obtain ⟨t2, et2⟩ : ∃ t2, t2 = labOk xs.length (g1, g2) := ⟨_, rfl⟩
                rw [← et2] at HSN
                have HT2 := Lib.hid et2
                clear et2
                go_upto_region 8 with fail
                have HX7 := Lib.hid HX6.out.drew
                have HL7 := Lib.hid (show wr.drew.heap[lb]? = some (.cells #[.int .i64 y1, .int .u64 y2] 38) from HL6.out)
                have hx3 : wr.drew.cell? ⟨xb, xo + i * 2, none⟩ = some (.int .i64 g1) := hx1
                have hx4 : wr.drew.cell? ⟨xb, xo + i * 2 + 1, none⟩ = some (.int .u64 g2) := hx2
                refine wp_region_held_drew (S := (fun V => V.cell? ⟨W.heap.size, 0, none⟩ = some (.slice ua xs.length uc) ∧ V.cell? ⟨W.heap.size, 3, none⟩ = some (.slice (some ⟨xb, xo, none⟩) args.length ac) ∧ V.cell? ⟨xb, xo + i * 2, none⟩ = some (.int .i64 g1) ∧ V.cell? ⟨xb, xo + i * 2 + 1, none⟩ = some (.int .u64 g2))) (by kernel_rfl) ?_ (fun hHeld => ?_)
                · exact ⟨HX7.out.cells.1, HX7.out.cells.2.2.2.1, hx3, hx4⟩
                clear hc0 hc1 hc2 hc3 hc4 hc5 hl0 hl1 hx1 hx2 HX6 HL6
                generalize wr.drew = w0 at HX7 HL7 hx3 hx4 hHeld ⊢
                have HR0 := Lib.hid (Below.refl w0.heap.size w0)
                have HXA := Lib.hid (show xb < w0.heap.size from by have h1 := HXB.out; have h2 := HX7.out.1.size; omega)
                have HX3 := Lib.hid (And.intro hx3 hx4)
                clear hx3 hx4
                refine wpAnyH_take (i := 0) (v := .pointer (some ⟨W.heap.size, 0, none⟩)) rfl (by kernel_rfl) (by kernel_rfl) (by kernel_rfl) (fun _ _ _ h => h) (Or.inl ⟨by rfl, fun W hSW => ?_⟩) hHeld ?_
                · ((try dsimp only at hSW); go_split_ands; go_simp <;> with_reducible rfl)
                try simp only [List.getElem_toArray, List.getElem_cons_succ, List.getElem_cons_zero, Act.put, List.setIfInBounds_toArray, List.set_cons_zero, List.set_cons_succ]
                refine wpAnyH_take (i := 1) (v := .slice ua xs.length uc) rfl (by kernel_rfl) (by kernel_rfl) (by kernel_rfl) (fun _ _ _ h => h) (Or.inl ⟨by rfl, fun W hSW => ?_⟩) hHeld ?_
                · ((try dsimp only at hSW); go_split_ands; go_simp <;> with_reducible rfl)
                try simp only [List.getElem_toArray, List.getElem_cons_succ, List.getElem_cons_zero, Act.put, List.setIfInBounds_toArray, List.set_cons_zero, List.set_cons_succ]
                refine wpAnyH_take (i := 2) (v := .pointer (some ⟨W.heap.size, 3, none⟩)) rfl (by kernel_rfl) (by kernel_rfl) (by kernel_rfl) (fun _ _ _ h => h) (Or.inl ⟨by rfl, fun W hSW => ?_⟩) hHeld ?_
                · ((try dsimp only at hSW); go_split_ands; go_simp <;> with_reducible rfl)
                try simp only [List.getElem_toArray, List.getElem_cons_succ, List.getElem_cons_zero, Act.put, List.setIfInBounds_toArray, List.set_cons_zero, List.set_cons_succ]
                refine wpAnyH_take (i := 3) (v := .slice (some ⟨xb, xo, none⟩) args.length ac) rfl (by kernel_rfl) (by kernel_rfl) (by kernel_rfl) (fun _ _ _ h => h) (Or.inl ⟨by rfl, fun W hSW => ?_⟩) hHeld ?_
                · ((try dsimp only at hSW); go_split_ands; go_simp <;> with_reducible rfl)
                try simp only [List.getElem_toArray, List.getElem_cons_succ, List.getElem_cons_zero, Act.put, List.setIfInBounds_toArray, List.set_cons_zero, List.set_cons_succ]
                refine wpAnyH_take (i := 4) (v := .int .i64 i) rfl (by kernel_rfl) (by kernel_rfl) (by kernel_rfl) (fun _ _ _ h => h) (Or.inl ⟨by rfl, fun W hSW => ?_⟩) hHeld ?_
                · ((try dsimp only at hSW); go_split_ands; go_simp <;> with_reducible rfl)
                try simp only [List.getElem_toArray, List.getElem_cons_succ, List.getElem_cons_zero, Act.put, List.setIfInBounds_toArray, List.set_cons_zero, List.set_cons_succ]
                refine wpAnyH_take (i := 5) (v := .pointer (some ⟨xb, xo + i * 2, none⟩)) rfl (by kernel_rfl) (by kernel_rfl) (by kernel_rfl) (fun _ _ _ h => h) (Or.inl ⟨by rfl, fun W hSW => ?_⟩) hHeld ?_
                · ((try dsimp only at hSW); go_split_ands; go_simp <;> with_reducible rfl)
                try simp only [List.getElem_toArray, List.getElem_cons_succ, List.getElem_cons_zero, Act.put, List.setIfInBounds_toArray, List.set_cons_zero, List.set_cons_succ]
                refine wpAnyH_take (i := 6) (v := .agg #[.int .i64 g1, .int .u64 g2]) rfl (by kernel_rfl) (by kernel_rfl) (by kernel_rfl) (fun _ _ _ h => h) (Or.inl ⟨by rfl, fun W hSW => ?_⟩) hHeld ?_
                · ((try dsimp only at hSW); go_split_ands; go_simp <;> with_reducible rfl)
                try simp only [List.getElem_toArray, List.getElem_cons_succ, List.getElem_cons_zero, Act.put, List.setIfInBounds_toArray, List.set_cons_zero, List.set_cons_succ]
                refine wpAnyH_ready (rs := [7]) (by kernel_rfl) (by simp) ?_
                refine AllReadyH.cons rfl (fun K hK => ?_) ?_
                · try simp only [List.getElem_toArray, List.getElem_cons_succ, List.getElem_cons_zero]
                  go_simp
                  (go_at_call 19; refine (rgood17_any _ _ _ _ _ _).mono ?_; rintro e wy1 ⟨rfl, hb⟩; rw [← HT2.out])
                  have F1_base := Lib.hid (HR0.out.trans (hb.mono HR0.out.size))
                  have F1_lab := Lib.hid ((hb.block _ (Array.getElem?_eq_some_iff.1 HL7.out).1).trans HL7.out)
                  clear hb
                  try go_wp2_with fail
                  refine hK.out _ _ ?_ (fun hHeld => ?_)
                  · exact ⟨(HX7.out.on F1_base.out).cells.1, (HX7.out.on F1_base.out).cells.2.2.2.1, (F1_base.out.cell (p := ⟨xb, xo + i * 2, none⟩) HXA.out).trans HX3.out.1, (F1_base.out.cell (p := ⟨xb, xo + i * 2 + 1, none⟩) HXA.out).trans HX3.out.2⟩
                  clear hK K
                  try simp only [List.getElem_toArray, List.getElem_cons_succ, List.getElem_cons_zero, Act.put, List.setIfInBounds_toArray, List.set_cons_zero, List.set_cons_succ]
                  refine wpAnyH_take (i := 8) (v := .bool t2) rfl (by kernel_rfl) (by kernel_rfl) (by kernel_rfl) (fun _ _ _ h => h) (Or.inl ⟨by rfl, fun W hSW => ?_⟩) hHeld ?_
                  · ((try dsimp only at hSW); go_split_ands; go_simp <;> with_reducible rfl)
                  try simp only [List.getElem_toArray, List.getElem_cons_succ, List.getElem_cons_zero, Act.put, List.setIfInBounds_toArray, List.set_cons_zero, List.set_cons_succ]
                  refine wpAnyH_done (by kernel_rfl) ?_ _
                  clear hHeld
                  go_wp2_with fail
                  go_roundw
                  case rel => exact ⟨i + 1, t2, by omega, by go_num, rfl, (HX7.out.on F1_base.out), F1_lab.out, Lib.hid HSN.out⟩
                  case measure => simp [intOf]; omega
                exact AllReadyH.nil
            · have i1 : ¬ ((i : Int) < args.length) := by omega
              have i2 : decide ((i : Int) < args.length) = false := decide_eq_false i1
              have HTE := Lib.hid (show t = z by rw [HT.out, HZ.out, ← put_is, ← HIS.out, List.take_of_length_le (by omega)])
              cases t with
              | false =>
                have hz : z = false := HTE.out.symm
                have hy := HY.out
                rw [hz] at hy
                obtain ⟨e1, e2⟩ := hy
                simp at e1 e2
                clear HY HZ HT
                try clear HTE
                subst hz e1 e2
                have hE := eq_lab
                go_wp2_with (go_at_call 20; refine (HAW.out _ HX6.out.1).mono ?_; rintro e w9 ⟨rfl, hb⟩; have HF := Lib.hid (HX6.out.on hb); clear hb)
                go_ret
                exact ⟨rfl, HF.out.1⟩
              | true =>
                have hz : z = true := HTE.out.symm
                have hp := putB_iff.1 (HZ.out.symm.trans hz)
                have HRB := Lib.hid hp.right
                have HALL := Lib.hid (show args.all (labOk xs.length) = true by have h := HZ.out.symm.trans hz; rw [← put_is, Bool.and_eq_true] at h; exact h.2)
                obtain ⟨al, rfl⟩ := Int.eq_ofNat_of_zero_le hp.lev.1
                obtain ⟨pl, rfl⟩ := Int.eq_ofNat_of_zero_le hp.place.1
                have HAX := Lib.hid (show al < xs.length by have := hp.lev.2; omega)
                have HPX := Lib.hid (show pl < xs.length by have := hp.place.2; simp only at this; omega)
                have hy := HY.out
                rw [hz, putJ_ref hp.n6 hp.fit] at hy
                have HY1 := Lib.hid (show ((refJ xs al m args (pl, p2)).1 : Int) = y1 from hy.1.symm)
                have HY2 := Lib.hid (show (refJ xs al m args (pl, p2)).2 = y2 from hy.2.symm)
                clear HY HZ HT HTE HIS hy hp
                subst hz
                go_upto_region 11 with fail
                have hE2 : ∀ w, (Op.equalIn 10000 38 (.agg #[.int .i64 y1, .int .u64 y2]) (.agg #[.int .i64 y1, .int .u64 y2])).run Tryd.prog w = .ok true w := fun w => by rw [eq_lab]; simp
                have HX7 := Lib.hid HX6.out.drew
                have HL7 := Lib.hid (show wr.drew.heap[lb]? = some (.cells #[.int .i64 y1, .int .u64 y2] 38) from HL6.out)
                refine wp_region_held_drew (S := (fun V => V.cell? ⟨W.heap.size, 0, none⟩ = some (.slice ua xs.length uc) ∧ V.cell? ⟨W.heap.size, 1, none⟩ = some (.int .i64 al) ∧ V.cell? ⟨W.heap.size, 2, none⟩ = some (.int .u64 m) ∧ V.cell? ⟨W.heap.size, 3, none⟩ = some (.slice aa args.length ac) ∧ V.cell? ⟨W.heap.size, 4, none⟩ = some (.int .i64 pl) ∧ V.cell? ⟨W.heap.size, 5, none⟩ = some (.int .u64 p2) ∧ V.cell? ⟨lb, 0, none⟩ = some (.int .i64 y1) ∧ V.cell? ⟨lb, 1, none⟩ = some (.int .u64 y2))) (by kernel_rfl) ?_ (fun hHeld => ?_)
                · exact ⟨HX7.out.cells.1, HX7.out.cells.2.1, HX7.out.cells.2.2.1, HX7.out.cells.2.2.2.1, HX7.out.cells.2.2.2.2.1, HX7.out.cells.2.2.2.2.2, (two_lab HL7.out).1, (two_lab HL7.out).2⟩
                clear hc0 hc1 hc2 hc3 hc4 hc5 hl0 hl1
                generalize wr.drew = w0 at HX7 HL7 hHeld ⊢
                have HR0 := Lib.hid (Below.refl w0.heap.size w0)
                refine wpAnyH_take (i := 0) (v := .bool true) rfl (by kernel_rfl) (by kernel_rfl) (by kernel_rfl) (fun _ _ _ h => h) (Or.inl ⟨by rfl, fun W hSW => ?_⟩) hHeld ?_
                · ((try dsimp only at hSW); go_split_ands; go_simp <;> with_reducible rfl)
                try simp only [List.getElem_toArray, List.getElem_cons_succ, List.getElem_cons_zero, Act.put, List.setIfInBounds_toArray, List.set_cons_zero, List.set_cons_succ]
                refine wpAnyH_take (i := 1) (v := .bool true) rfl (by kernel_rfl) (by kernel_rfl) (by kernel_rfl) (fun _ _ _ h => h) (Or.inl ⟨by rfl, fun W hSW => ?_⟩) hHeld ?_
                · ((try dsimp only at hSW); go_split_ands; go_simp <;> with_reducible rfl)
                try simp only [List.getElem_toArray, List.getElem_cons_succ, List.getElem_cons_zero, Act.put, List.setIfInBounds_toArray, List.set_cons_zero, List.set_cons_succ]
                refine wpAnyH_take (i := 2) (v := .agg #[.int .i64 y1, .int .u64 y2]) rfl (by kernel_rfl) (by kernel_rfl) (by kernel_rfl) (fun _ _ _ h => h) (Or.inl ⟨by rfl, fun W hSW => ?_⟩) hHeld ?_
                · ((try dsimp only at hSW); go_split_ands; go_simp <;> with_reducible rfl)
                try simp only [List.getElem_toArray, List.getElem_cons_succ, List.getElem_cons_zero, Act.put, List.setIfInBounds_toArray, List.set_cons_zero, List.set_cons_succ]
                refine wpAnyH_take (i := 3) (v := .pointer (some ⟨W.heap.size, 0, none⟩)) rfl (by kernel_rfl) (by kernel_rfl) (by kernel_rfl) (fun _ _ _ h => h) (Or.inl ⟨by rfl, fun W hSW => ?_⟩) hHeld ?_
                · ((try dsimp only at hSW); go_split_ands; go_simp <;> with_reducible rfl)
                try simp only [List.getElem_toArray, List.getElem_cons_succ, List.getElem_cons_zero, Act.put, List.setIfInBounds_toArray, List.set_cons_zero, List.set_cons_succ]
                refine wpAnyH_take (i := 4) (v := .slice ua xs.length uc) rfl (by kernel_rfl) (by kernel_rfl) (by kernel_rfl) (fun _ _ _ h => h) (Or.inl ⟨by rfl, fun W hSW => ?_⟩) hHeld ?_
                · ((try dsimp only at hSW); go_split_ands; go_simp <;> with_reducible rfl)
                try simp only [List.getElem_toArray, List.getElem_cons_succ, List.getElem_cons_zero, Act.put, List.setIfInBounds_toArray, List.set_cons_zero, List.set_cons_succ]
                refine wpAnyH_take (i := 5) (v := .pointer (some ⟨W.heap.size, 1, none⟩)) rfl (by kernel_rfl) (by kernel_rfl) (by kernel_rfl) (fun _ _ _ h => h) (Or.inl ⟨by rfl, fun W hSW => ?_⟩) hHeld ?_
                · ((try dsimp only at hSW); go_split_ands; go_simp <;> with_reducible rfl)
                try simp only [List.getElem_toArray, List.getElem_cons_succ, List.getElem_cons_zero, Act.put, List.setIfInBounds_toArray, List.set_cons_zero, List.set_cons_succ]
                refine wpAnyH_take (i := 6) (v := .agg #[.int .i64 al, .int .u64 m]) rfl (by kernel_rfl) (by kernel_rfl) (by kernel_rfl) (fun _ _ _ h => h) (Or.inl ⟨by rfl, fun W hSW => ?_⟩) hHeld ?_
                · ((try dsimp only at hSW); go_split_ands; go_simp <;> with_reducible rfl)
                try simp only [List.getElem_toArray, List.getElem_cons_succ, List.getElem_cons_zero, Act.put, List.setIfInBounds_toArray, List.set_cons_zero, List.set_cons_succ]
                refine wpAnyH_take (i := 7) (v := .pointer (some ⟨W.heap.size, 3, none⟩)) rfl (by kernel_rfl) (by kernel_rfl) (by kernel_rfl) (fun _ _ _ h => h) (Or.inl ⟨by rfl, fun W hSW => ?_⟩) hHeld ?_
                · ((try dsimp only at hSW); go_split_ands; go_simp <;> with_reducible rfl)
                try simp only [List.getElem_toArray, List.getElem_cons_succ, List.getElem_cons_zero, Act.put, List.setIfInBounds_toArray, List.set_cons_zero, List.set_cons_succ]
                refine wpAnyH_take (i := 8) (v := .slice aa args.length ac) rfl (by kernel_rfl) (by kernel_rfl) (by kernel_rfl) (fun _ _ _ h => h) (Or.inl ⟨by rfl, fun W hSW => ?_⟩) hHeld ?_
                · ((try dsimp only at hSW); go_split_ands; go_simp <;> with_reducible rfl)
                try simp only [List.getElem_toArray, List.getElem_cons_succ, List.getElem_cons_zero, Act.put, List.setIfInBounds_toArray, List.set_cons_zero, List.set_cons_succ]
                refine wpAnyH_take (i := 9) (v := .pointer (some ⟨W.heap.size, 4, none⟩)) rfl (by kernel_rfl) (by kernel_rfl) (by kernel_rfl) (fun _ _ _ h => h) (Or.inl ⟨by rfl, fun W hSW => ?_⟩) hHeld ?_
                · ((try dsimp only at hSW); go_split_ands; go_simp <;> with_reducible rfl)
                try simp only [List.getElem_toArray, List.getElem_cons_succ, List.getElem_cons_zero, Act.put, List.setIfInBounds_toArray, List.set_cons_zero, List.set_cons_succ]
                refine wpAnyH_take (i := 10) (v := .agg #[.int .i64 pl, .int .u64 p2]) rfl (by kernel_rfl) (by kernel_rfl) (by kernel_rfl) (fun _ _ _ h => h) (Or.inl ⟨by rfl, fun W hSW => ?_⟩) hHeld ?_
                · ((try dsimp only at hSW); go_split_ands; go_simp <;> with_reducible rfl)
                try simp only [List.getElem_toArray, List.getElem_cons_succ, List.getElem_cons_zero, Act.put, List.setIfInBounds_toArray, List.set_cons_zero, List.set_cons_succ]
                refine wpAnyH_ready (rs := [11]) (by kernel_rfl) (by simp) ?_
                refine AllReadyH.cons rfl (fun K hK => ?_) ?_
                · try simp only [List.getElem_toArray, List.getElem_cons_succ, List.getElem_cons_zero]
                  go_simp
                  (go_at_call 25; refine (rput_any (a := al) (p1 := pl) w0 ((HU.out.below (HX7.out.on HR0.out).1).mono (HX7.out.on HR0.out).1.size) HX.out HRB.out ((HA.out.below (HX7.out.on HR0.out).1).mono (HX7.out.on HR0.out).1.size) HWA.out HALL.out HM.out HPM.out HAX.out HPX.out (by omega)).mono ?_; rintro e wy1 ⟨rfl, hb⟩; rw [HY1.out, HY2.out])
                  have F1_base := Lib.hid (HR0.out.trans (hb.mono HR0.out.size))
                  have F1_lab := Lib.hid ((hb.block _ (Array.getElem?_eq_some_iff.1 HL7.out).1).trans HL7.out)
                  clear hb
                  try go_wp2_with fail
                  refine hK.out _ _ ?_ (fun hHeld => ?_)
                  · exact ⟨(HX7.out.on F1_base.out).cells.1, (HX7.out.on F1_base.out).cells.2.1, (HX7.out.on F1_base.out).cells.2.2.1, (HX7.out.on F1_base.out).cells.2.2.2.1, (HX7.out.on F1_base.out).cells.2.2.2.2.1, (HX7.out.on F1_base.out).cells.2.2.2.2.2, (two_lab F1_lab.out).1, (two_lab F1_lab.out).2⟩
                  clear hK K
                  try simp only [List.getElem_toArray, List.getElem_cons_succ, List.getElem_cons_zero, Act.put, List.setIfInBounds_toArray, List.set_cons_zero, List.set_cons_succ]
                  refine wpAnyH_take (i := 12) (v := .bool true) rfl (by kernel_rfl) (by kernel_rfl) (by kernel_rfl) (fun _ _ _ h => h) (Or.inl ⟨by rfl, fun W hSW => ?_⟩) hHeld ?_
                  · ((try dsimp only at hSW); go_split_ands; go_simp <;> with_reducible rfl)
                  try simp only [List.getElem_toArray, List.getElem_cons_succ, List.getElem_cons_zero, Act.put, List.setIfInBounds_toArray, List.set_cons_zero, List.set_cons_succ]
                  refine wpAnyH_take (i := 13) (v := .bool true) rfl (by kernel_rfl) (by kernel_rfl) (by kernel_rfl) (fun _ _ _ h => h) (Or.inl ⟨by rfl, fun W hSW => ?_⟩) hHeld ?_
                  · ((try dsimp only at hSW); go_split_ands; go_simp <;> with_reducible rfl)
                  try simp only [List.getElem_toArray, List.getElem_cons_succ, List.getElem_cons_zero, Act.put, List.setIfInBounds_toArray, List.set_cons_zero, List.set_cons_succ]
                  refine wpAnyH_take (i := 14) (v := .bool true) rfl (by kernel_rfl) (by kernel_rfl) (by kernel_rfl) (fun _ _ _ h => h) (Or.inl ⟨by rfl, fun W hSW => ?_⟩) hHeld ?_
                  · ((try dsimp only at hSW); go_split_ands; go_simp <;> with_reducible rfl)
                  try simp only [List.getElem_toArray, List.getElem_cons_succ, List.getElem_cons_zero, Act.put, List.setIfInBounds_toArray, List.set_cons_zero, List.set_cons_succ]
                  refine wpAnyH_ready (rs := [15]) (by kernel_rfl) (by simp) ?_
                  refine AllReadyH.cons rfl (fun K hK => ?_) ?_
                  · try simp only [List.getElem_toArray, List.getElem_cons_succ, List.getElem_cons_zero]
                    go_simp
                    (go_at_call 20; refine (HAW.out wy1 (HX7.out.on F1_base.out).1).mono ?_; rintro e wy2 ⟨rfl, hb⟩)
                    have F2_base := Lib.hid (F1_base.out.trans (hb.mono F1_base.out.size))
                    have F2_lab := Lib.hid ((hb.block _ (Array.getElem?_eq_some_iff.1 F1_lab.out).1).trans F1_lab.out)
                    clear hb
                    try go_wp2_with fail
                    refine hK.out _ _ ?_ (fun hHeld => ?_)
                    · exact ⟨(HX7.out.on F2_base.out).cells.1, (HX7.out.on F2_base.out).cells.2.1, (HX7.out.on F2_base.out).cells.2.2.1, (HX7.out.on F2_base.out).cells.2.2.2.1, (HX7.out.on F2_base.out).cells.2.2.2.2.1, (HX7.out.on F2_base.out).cells.2.2.2.2.2, (two_lab F2_lab.out).1, (two_lab F2_lab.out).2⟩
                    clear hK K
                    try simp only [List.getElem_toArray, List.getElem_cons_succ, List.getElem_cons_zero, Act.put, List.setIfInBounds_toArray, List.set_cons_zero, List.set_cons_succ]
                    refine wpAnyH_take (i := 16) (v := .bool true) rfl (by kernel_rfl) (by kernel_rfl) (by kernel_rfl) (fun _ _ _ h => h) (Or.inl ⟨by rfl, fun W hSW => ?_⟩) hHeld ?_
                    · ((try dsimp only at hSW); go_split_ands; go_simp <;> with_reducible rfl)
                    try simp only [List.getElem_toArray, List.getElem_cons_succ, List.getElem_cons_zero, Act.put, List.setIfInBounds_toArray, List.set_cons_zero, List.set_cons_succ]
                    refine wpAnyH_take (i := 17) (v := .bool true) rfl (by kernel_rfl) (by kernel_rfl) (by kernel_rfl) (fun _ _ _ h => h) (Or.inl ⟨by rfl, fun W hSW => ?_⟩) hHeld ?_
                    · ((try dsimp only at hSW); go_split_ands; go_simp <;> with_reducible rfl)
                    try simp only [List.getElem_toArray, List.getElem_cons_succ, List.getElem_cons_zero, Act.put, List.setIfInBounds_toArray, List.set_cons_zero, List.set_cons_succ]
                    refine wpAnyH_done (by kernel_rfl) ?_ _
                    clear hHeld
                    go_wp2_with fail
                    go_ret
                    exact ⟨rfl, (HX7.out.on F2_base.out).1⟩
                  exact AllReadyH.nil
                exact AllReadyH.nil
theorem symPuts_all {uv av : Value} {xs : List Int} {a m p1 p2 : Int} {args : List (Int × Int)} (W : World) (h : Nums .u64 W.heap.size W uv xs ∧ Wide xs ∧ xs.length ≤ big5 ∧ ∀ n c, uv = .slice none n c → c = 0) (hT : Tz W) (hav : LabRow W.heap.size W av args) (hwa : WideL args) (hal : args.length ≤ 17592186044416) (hm : 0 ≤ m ∧ m ≤ 18446744073709551615) (hpm : 0 ≤ p2 ∧ p2 ≤ 18446744073709551615) :
    Calls Tryd.prog 5 #[.agg #[uv, .int .i64 a, .int .u64 m, av, .int .i64 p1, .int .u64 p2]] W fun e V => e = .returned (.bool true) ∧ Below W.heap.size W V := by
  obtain ⟨ua, uc, rfl⟩ := h.1.form
  obtain ⟨aa, ac, rfl⟩ := hav.form
  exact symPuts_walk W h.1 (fun e => h.2.2.2 _ _ (by rw [e])) h.2.1 h.2.2.1 hT hav hwa hal hm hpm
end Go.Proofs.YtodhoplchficpaaDoor
