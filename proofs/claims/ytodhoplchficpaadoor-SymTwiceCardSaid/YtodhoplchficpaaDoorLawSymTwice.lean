import Derived.Test.YtodhoplchficpaaDoorSymW
import Derived.Test.YtodhoplchficpaaDoorOpenT
set_option linter.unusedSimpArgs false
set_option linter.unusedVariables false
/-! SymTwice, walked -/
namespace Go.Proofs.YtodhoplchficpaaDoor
open Go.RowKit
open SV (Lab SysOk Least labs sumOf mu sumP at' natsL askT askI fanN lok ljoin val le Bnd)
/-- a call within a call in its box -/
def TwiceB (W : World) (uv av iv : Value) (a m p1 p2 q : Int) (V : World) : Prop := Below W.heap.size W V ∧ W.heap.size + 1 ≤ V.heap.size ∧ V.heap[W.heap.size]? = some (.cells #[uv, .int .i64 a, .int .u64 m, av, .int .i64 p1, .int .u64 p2, iv, .int .i64 q] 64)
theorem TwiceB.on {W U V : World} {uv av iv : Value} {a m p1 p2 q : Int} (h : TwiceB W uv av iv a m p1 p2 q U) (hb : Below U.heap.size U V) : TwiceB W uv av iv a m p1 p2 q V :=
  ⟨h.1.trans (hb.mono h.1.size), Nat.le_trans h.2.1 hb.size, (hb.block _ (by have := h.2.1; omega)).trans h.2.2⟩
theorem TwiceB.drew {W U : World} {uv av iv : Value} {a m p1 p2 q : Int} (h : TwiceB W uv av iv a m p1 p2 q U) : TwiceB W uv av iv a m p1 p2 q U.drew := ⟨h.1.drew, h.2.1, h.2.2⟩
theorem TwiceB.cells {W V : World} {uv av iv : Value} {a m p1 p2 q : Int} (h : TwiceB W uv av iv a m p1 p2 q V) : V.cell? ⟨W.heap.size, 0, none⟩ = some uv ∧ V.cell? ⟨W.heap.size, 1, none⟩ = some (.int .i64 a) ∧ V.cell? ⟨W.heap.size, 2, none⟩ = some (.int .u64 m) ∧ V.cell? ⟨W.heap.size, 3, none⟩ = some av ∧ V.cell? ⟨W.heap.size, 4, none⟩ = some (.int .i64 p1) ∧ V.cell? ⟨W.heap.size, 5, none⟩ = some (.int .u64 p2) ∧ V.cell? ⟨W.heap.size, 6, none⟩ = some iv ∧ V.cell? ⟨W.heap.size, 7, none⟩ = some (.int .i64 q) :=
  ⟨cell_of_row _ _ 0 _ _ _ h.2.2, cell_of_row _ _ 1 _ _ _ h.2.2, cell_of_row _ _ 2 _ _ _ h.2.2, cell_of_row _ _ 3 _ _ _ h.2.2, cell_of_row _ _ 4 _ _ _ h.2.2, cell_of_row _ _ 5 _ _ _ h.2.2, cell_of_row _ _ 6 _ _ _ h.2.2, cell_of_row _ _ 7 _ _ _ h.2.2⟩
theorem twiceB_start (W : World) (uv av iv : Value) (a m p1 p2 q : Int) : TwiceB W uv av iv a m p1 p2 q (W.alloc (.cells #[uv, .int .i64 a, .int .u64 m, av, .int .i64 p1, .int .u64 p2, iv, .int .i64 q] 64)) :=
  ⟨(Below.refl _ _).alloc (Nat.le_refl _) _, by simp, heap_alloc_new _ _⟩
theorem lowsI_take {xs bs : List Int} {q : Int} {args : List (Int × Int)} {i : Nat} (hi : i < args.length) : intsV ((lowsI xs bs q args).take (i + 1)) = intsV ((lowsI xs bs q args).take i) ++ [.int .i64 (lowI xs bs q (args[i]?.getD s0))] := by
  have h : i < (lowsI xs bs q args).length := by rw [lowsI_len]; exact hi
  rw [List.take_succ_eq_append_getElem h]
  have e := lowsI_at (xs := xs) (bs := bs) (q := q) hi
  rw [List.getElem?_eq_getElem h] at e
  simp only [Option.getD_some] at e
  rw [e]
  simp [intsV]
set_option maxRecDepth 100000 in
set_option maxHeartbeats 12800000 in
theorem symTwice_walk {ua aa ia : Option Addr} {uc ac ic : Nat} {xs : List Int} {a m p1 p2 q : Int} {args : List (Int × Int)} {bs : List Int} (W : World) (hu : Nums .u64 W.heap.size W (.slice ua xs.length uc) xs) (hx : Wide xs) (hxl : xs.length ≤ big5) (hT : Tz W) (hav : LabRow W.heap.size W (.slice aa args.length ac) args) (hwa : WideL args) (hal : args.length ≤ 17592186044416) (hm : 0 ≤ m ∧ m ≤ 18446744073709551615) (hpm : 0 ≤ p2 ∧ p2 ≤ 18446744073709551615) (hiv : Row W.heap.size W (.slice ia bs.length ic) bs) (hil : bs.length ≤ 17592186044416) :
    Calls Tryd.prog 8 #[.agg #[.slice ua xs.length uc, .int .i64 a, .int .u64 m, .slice aa args.length ac, .int .i64 p1, .int .u64 p2, .slice ia bs.length ic, .int .i64 q]] W fun e V => e = .returned (.bool true) ∧ Below W.heap.size W V := by
  obtain ⟨j0, hj0, hw0, hw1, hw2⟩ := info_parts Tryd.infoGInt
  have HU := Lib.hid hu
  have HX := Lib.hid hx
  have HA := Lib.hid hav
  have HI := Lib.hid hiv
  have HWA := Lib.hid hwa
  have HM := Lib.hid hm
  have HPM := Lib.hid hpm
  have HAW := Lib.hid (fun w (hb : Below W.heap.size W w) => awake19_any w (hT.on hb))
  have HPUT := Lib.hid (fun w (hb : Below W.heap.size W w) => sput_any (a := a) (m := m) (pc := (p1, p2)) w ((hu.below hb).mono hb.size) hx hxl (hT.on hb) ((hav.below hb).mono hb.size) hwa hm hpm hal)
  have HLOW := Lib.hid (fun w (hb : Below W.heap.size W w) {a m pc : Int} {v : Value} {l : List Int} (hv : Row w.heap.size w v l) (hm : 0 ≤ m ∧ m ≤ 18446744073709551615) (hl : l.length ≤ 1000) => slow_any (a := a) (m := m) (pc := pc) w ((hu.below hb).mono hb.size) hx hxl (hT.on hb) hv hm hl)
  have b0 : (xs.length : Int) ≤ 17592186044416 := by have := hxl; unfold big5 at this; omega
  have b1 : (args.length : Int) ≤ 17592186044416 := by omega
  have b2 : (bs.length : Int) ≤ 17592186044416 := by omega
  obtain ⟨z, ez⟩ : ∃ z, z = putB xs a m args (p1, p2) := ⟨_, rfl⟩
  obtain ⟨y1, ey1⟩ : ∃ y1 : Int, y1 = if z = true then ((putJ xs a m args (p1, p2)).1 : Int) else 0 := ⟨_, rfl⟩
  obtain ⟨y2, ey2⟩ : ∃ y2 : Int, y2 = if z = true then (putJ xs a m args (p1, p2)).2 else 0 := ⟨_, rfl⟩
  have HJR := Lib.hid (show jRet (putB xs a m args (p1, p2)) (putJ xs a m args (p1, p2)) = .tuple #[.agg #[.int .i64 y1, .int .u64 y2], .bool z] by unfold jRet; rw [ey1, ey2, ez])
  have HZ := Lib.hid ez
  have HY := Lib.hid (And.intro ey1 ey2)
  have HS0 := Lib.hid (twiceB_start W (.slice ua xs.length uc) (.slice aa args.length ac) (.slice ia bs.length ic) a m p1 p2 q)
  obtain ⟨W0, eW0⟩ : ∃ W0, W0 = W.alloc (.cells #[.slice ua xs.length uc, .int .i64 a, .int .u64 m, .slice aa args.length ac, .int .i64 p1, .int .u64 p2, .slice ia bs.length ic, .int .i64 q] 64) := ⟨_, rfl⟩
  rw [← eW0] at HS0
  obtain ⟨hc0, hc1, hc2, hc3, hc4, hc5, hc6, hc7⟩ := HS0.out.cells
  clear hu hx hxl hT hav hwa hal hm hpm hiv hil ez ey1 ey2
  by_cases h20 : (20 : Int) < xs.length
  · have j20 : decide ((xs.length : Int) > 20) = true := decide_eq_true h20
    have k20 : decide ((20 : Int) < xs.length) = true := decide_eq_true h20
    go_enter Tryd.func8, Tryd.ntmps8
    go_upto_region 1 with fail
    rw [← eW0]
    clear eW0
    go_wp2_with fail
    go_ret
    exact ⟨rfl, HS0.out.1⟩
  have j20 : decide ((xs.length : Int) > 20) = false := decide_eq_false h20
  have k20 : decide ((20 : Int) < xs.length) = false := decide_eq_false h20
  by_cases h6 : (6 : Int) < args.length
  · have j6 : decide ((args.length : Int) > 6) = true := decide_eq_true h6
    have k6 : decide ((6 : Int) < args.length) = true := decide_eq_true h6
    go_enter Tryd.func8, Tryd.ntmps8
    go_upto_region 1 with fail
    rw [← eW0]
    clear eW0
    go_wp2_with fail
    go_ret
    exact ⟨rfl, HS0.out.1⟩
  have j6 : decide ((args.length : Int) > 6) = false := decide_eq_false h6
  have k6 : decide ((6 : Int) < args.length) = false := decide_eq_false h6
  by_cases h7 : (6 : Int) < bs.length
  · have j7 : decide ((bs.length : Int) > 6) = true := decide_eq_true h7
    have k7 : decide ((6 : Int) < bs.length) = true := decide_eq_true h7
    go_enter Tryd.func8, Tryd.ntmps8
    go_upto_region 1 with fail
    rw [← eW0]
    clear eW0
    go_wp2_with fail
    go_ret
    exact ⟨rfl, HS0.out.1⟩
  have j7 : decide ((bs.length : Int) > 6) = false := decide_eq_false h7
  have k7 : decide ((6 : Int) < bs.length) = false := decide_eq_false h7
  have i6 : (args.length : Int) ≤ 6 := by omega
  have i7 : (bs.length : Int) ≤ 6 := by omega
  go_enter Tryd.func8, Tryd.ntmps8
  go_upto_region 1 with fail
  rw [← eW0]
  clear eW0
  go_upto_region 4 with (go_at_call 23; refine (HPUT.out W0 HS0.out.1).mono ?_; rintro e w2 ⟨rfl, hb⟩; rw [HJR.out]; have HX2 := Lib.hid (HS0.out.on hb); clear hb)
  clear j20 k20 j6 k6 j7 k7 h20 h6 h7 hc0 hc1 hc2 hc3 hc4 hc5 hc6 hc7 HJR HS0
  have HX3 := Lib.hid (HX2.out.on ((Below.refl w2.heap.size w2).alloc (Nat.le_refl _) (.cells #[.int .i64 y1, .int .u64 y2] 38)))
  have HL3 := Lib.hid (heap_alloc_new w2 (.cells #[.int .i64 y1, .int .u64 y2] 38))
  have HLT := Lib.hid (show w2.heap.size < (w2.alloc (.cells #[.int .i64 y1, .int .u64 y2] 38)).heap.size by simp)
  generalize w2.alloc (.cells #[.int .i64 y1, .int .u64 y2] 38) = w3 at HX3 HL3 HLT ⊢
  obtain ⟨lb, elb⟩ : ∃ lb, lb = w2.heap.size := ⟨_, rfl⟩
  rw [← elb] at HL3 HLT ⊢
  clear elb HX2
  cases z with
  | false =>
    go_wp2_with (go_at_call 20; refine (HAW.out _ HX3.out.1).mono ?_; rintro e w9 ⟨rfl, hb⟩; have HF := Lib.hid (HX3.out.on hb); clear hb)
    go_ret
    exact ⟨rfl, HF.out.1⟩
  | true =>
    have HP := Lib.hid (putB_iff.1 HZ.out.symm)
    obtain ⟨e1, e2⟩ := HY.out
    rw [if_pos rfl] at e1 e2
    have HPK := Lib.hid (show 0 ≤ y2 ∧ y2 ≤ 18446744073709551615 by rw [e2]; exact (putJ_ok HP.out HX.out HWA.out HPM.out).2)
    have HE2 := Lib.hid (And.intro e1 e2)
    clear HY HZ e1 e2
    obtain ⟨hc0, hc1, hc2, hc3, hc4, hc5, hc6, hc7⟩ := HX3.out.cells
    go_wp2_with fail
    go_loopw [5, 6] (fun s k wr => ∃ i : Nat, i ≤ args.length ∧ k = .int .i64 (i : Int) ∧ wr.ownsRow w3.heap.size 3 1 s i (intsV ((lowsI xs bs q args).take i)) ∧ Below w3.heap.size w3 wr ∧ RowKit.Hid (∀ j, j < i → putB xs (args[j]?.getD s0).1 (args[j]?.getD s0).2 (lows bs) (q, 0) = true)) (fun _ k _ => args.length - (intOf k).toNat)
    case atStart => exact ⟨0, Nat.zero_le _, rfl, World.ownsRow_nil _ _ _ _, Below.refl _ _, Lib.hid fun j hj => absurd hj (Nat.not_lt_zero _)⟩
    case round =>
      obtain ⟨i, hi, rfl, ho, hb, HJ⟩ := hrel
      have HO := Lib.hid ho
      have HB := Lib.hid hb
      have HX4 := Lib.hid (HX3.out.on hb)
      have HL4 := Lib.hid ((hb.block _ HLT.out).trans HL3.out)
      clear ho hb hc0 hc1 hc2 hc3 hc4 hc5 hc6 hc7
      obtain ⟨hc0, hc1, hc2, hc3, hc4, hc5, hc6, hc7⟩ := HX4.out.cells
      by_cases hlt : i < args.length
      · have i1 : (0 : Int) ≤ i ∧ (i : Int) < args.length := by omega
        obtain ⟨xb, xo, rfl, hxb, hx1, hx2⟩ := (HA.out.below HX4.out.1).at hlt
        have HXB := Lib.hid hxb
        have HWI := Lib.hid (HWA.out _ (GG.getD_mem (d := s0) hlt))
        have HTK := Lib.hid (lowsI_take (xs := xs) (bs := bs) (q := q) hlt)
        have HJN := Lib.hid (fun (h : putB xs (args[i]?.getD s0).1 (args[i]?.getD s0).2 (lows bs) (q, 0) = true) (j : Nat) (hj : j < i + 1) => if e : j = i then (e ▸ h : putB xs (args[j]?.getD s0).1 (args[j]?.getD s0).2 (lows bs) (q, 0) = true) else HJ.out j (by omega))
        obtain ⟨⟨g1, g2⟩, eg⟩ : ∃ g, g = args[i]?.getD s0 := ⟨_, rfl⟩
        rw [← eg] at hx1 hx2 HWI HTK HJN
        clear eg
        simp only at hx1 hx2
        obtain ⟨lz, elz⟩ : ∃ lz, lz = putB xs g1 g2 (lows bs) (q, 0) := ⟨_, rfl⟩
        obtain ⟨ly, ely⟩ : ∃ ly : Int, ly = if lz = true then ((putJ xs g1 g2 (lows bs) (q, 0)).1 : Int) else 0 := ⟨_, rfl⟩
        have HLR := Lib.hid (show lowRet xs g1 g2 bs q = .tuple #[.int .i64 ly, .bool lz] by unfold lowRet; rw [ely, elz])
        have HLZ := Lib.hid elz
        have HLY := Lib.hid ely
        clear elz ely
        go_upto_region 10 with fail
        have HX5 := Lib.hid HX4.out.drew
        have hx3 : wr.drew.cell? ⟨xb, xo + i * 2, none⟩ = some (.int .i64 g1) := hx1
        have hx4 : wr.drew.cell? ⟨xb, xo + i * 2 + 1, none⟩ = some (.int .u64 g2) := hx2
        have HO5 := Lib.hid (show wr.drew.ownsRow w3.heap.size 3 1 u5 i (intsV ((lowsI xs bs q args).take i)) from HO.out)
        have HB5 := Lib.hid (show Below w3.heap.size w3 wr.drew from HB.out.drew)
        refine wp_region_held_drew (S := (fun V => V.cell? ⟨W.heap.size, 0, none⟩ = some (.slice ua xs.length uc) ∧ V.cell? ⟨W.heap.size, 3, none⟩ = some (.slice (some ⟨xb, xo, none⟩) args.length ac) ∧ V.cell? ⟨W.heap.size, 6, none⟩ = some (.slice ia bs.length ic) ∧ V.cell? ⟨W.heap.size, 7, none⟩ = some (.int .i64 q) ∧ V.cell? ⟨xb, xo + i * 2, none⟩ = some (.int .i64 g1) ∧ V.cell? ⟨xb, xo + i * 2 + 1, none⟩ = some (.int .u64 g2))) (by kernel_rfl) ?_ (fun hHeld => ?_)
        · exact ⟨HX5.out.cells.1, HX5.out.cells.2.2.2.1, HX5.out.cells.2.2.2.2.2.2.1, HX5.out.cells.2.2.2.2.2.2.2, hx3, hx4⟩
        clear hc0 hc1 hc2 hc3 hc4 hc5 hc6 hc7 hx1 hx2 HX4 HL4 HO HB
        generalize wr.drew = w0 at HX5 hx3 hx4 HO5 HB5 hHeld ⊢
        have HR0 := Lib.hid (Below.refl w0.heap.size w0)
        have HXA := Lib.hid (show xb < w0.heap.size from by have h1 := HXB.out; have h2 := HX5.out.1.size; omega)
        have HXS := Lib.hid (And.intro hx3 hx4)
        clear hx3 hx4
        refine wpAnyH_take (i := 0) (v := .pointer (some ⟨W.heap.size, 0, none⟩)) rfl (by kernel_rfl) (by kernel_rfl) (by kernel_rfl) (fun _ _ _ h => h) (Or.inl ⟨by rfl, fun W hSW => ?_⟩) hHeld ?_
        · ((try dsimp only at hSW); go_split_ands; go_simp <;> with_reducible rfl)
        try simp only [List.getElem_toArray, List.getElem_cons_succ, List.getElem_cons_zero, Act.put, List.setIfInBounds_toArray, List.set_cons_zero, List.set_cons_succ]
        refine wpAnyH_take (i := 1) (v := .pointer (some ⟨W.heap.size, 0, none⟩)) rfl (by kernel_rfl) (by kernel_rfl) (by kernel_rfl) (fun _ _ _ h => h) (Or.inl ⟨by rfl, fun W hSW => ?_⟩) hHeld ?_
        · ((try dsimp only at hSW); go_split_ands; go_simp <;> with_reducible rfl)
        try simp only [List.getElem_toArray, List.getElem_cons_succ, List.getElem_cons_zero, Act.put, List.setIfInBounds_toArray, List.set_cons_zero, List.set_cons_succ]
        refine wpAnyH_take (i := 2) (v := .slice ua xs.length uc) rfl (by kernel_rfl) (by kernel_rfl) (by kernel_rfl) (fun _ _ _ h => h) (Or.inl ⟨by rfl, fun W hSW => ?_⟩) hHeld ?_
        · ((try dsimp only at hSW); go_split_ands; go_simp <;> with_reducible rfl)
        try simp only [List.getElem_toArray, List.getElem_cons_succ, List.getElem_cons_zero, Act.put, List.setIfInBounds_toArray, List.set_cons_zero, List.set_cons_succ]
        refine wpAnyH_take (i := 3) (v := .pointer (some ⟨W.heap.size, 0, none⟩)) rfl (by kernel_rfl) (by kernel_rfl) (by kernel_rfl) (fun _ _ _ h => h) (Or.inl ⟨by rfl, fun W hSW => ?_⟩) hHeld ?_
        · ((try dsimp only at hSW); go_split_ands; go_simp <;> with_reducible rfl)
        try simp only [List.getElem_toArray, List.getElem_cons_succ, List.getElem_cons_zero, Act.put, List.setIfInBounds_toArray, List.set_cons_zero, List.set_cons_succ]
        refine wpAnyH_take (i := 4) (v := .pointer (some ⟨W.heap.size, 3, none⟩)) rfl (by kernel_rfl) (by kernel_rfl) (by kernel_rfl) (fun _ _ _ h => h) (Or.inl ⟨by rfl, fun W hSW => ?_⟩) hHeld ?_
        · ((try dsimp only at hSW); go_split_ands; go_simp <;> with_reducible rfl)
        try simp only [List.getElem_toArray, List.getElem_cons_succ, List.getElem_cons_zero, Act.put, List.setIfInBounds_toArray, List.set_cons_zero, List.set_cons_succ]
        refine wpAnyH_take (i := 5) (v := .slice (some ⟨xb, xo, none⟩) args.length ac) rfl (by kernel_rfl) (by kernel_rfl) (by kernel_rfl) (fun _ _ _ h => h) (Or.inl ⟨by rfl, fun W hSW => ?_⟩) hHeld ?_
        · ((try dsimp only at hSW); go_split_ands; go_simp <;> with_reducible rfl)
        try simp only [List.getElem_toArray, List.getElem_cons_succ, List.getElem_cons_zero, Act.put, List.setIfInBounds_toArray, List.set_cons_zero, List.set_cons_succ]
        refine wpAnyH_take (i := 6) (v := .int .i64 i) rfl (by kernel_rfl) (by kernel_rfl) (by kernel_rfl) (fun _ _ _ h => h) (Or.inl ⟨by rfl, fun W hSW => ?_⟩) hHeld ?_
        · ((try dsimp only at hSW); go_split_ands; go_simp <;> with_reducible rfl)
        try simp only [List.getElem_toArray, List.getElem_cons_succ, List.getElem_cons_zero, Act.put, List.setIfInBounds_toArray, List.set_cons_zero, List.set_cons_succ]
        refine wpAnyH_take (i := 7) (v := .pointer (some ⟨xb, xo + i * 2, none⟩)) rfl (by kernel_rfl) (by kernel_rfl) (by kernel_rfl) (fun _ _ _ h => h) (Or.inl ⟨by rfl, fun W hSW => ?_⟩) hHeld ?_
        · ((try dsimp only at hSW); go_split_ands; go_simp <;> with_reducible rfl)
        try simp only [List.getElem_toArray, List.getElem_cons_succ, List.getElem_cons_zero, Act.put, List.setIfInBounds_toArray, List.set_cons_zero, List.set_cons_succ]
        refine wpAnyH_take (i := 8) (v := .agg #[.int .i64 g1, .int .u64 g2]) rfl (by kernel_rfl) (by kernel_rfl) (by kernel_rfl) (fun _ _ _ h => h) (Or.inl ⟨by rfl, fun W hSW => ?_⟩) hHeld ?_
        · ((try dsimp only at hSW); go_split_ands; go_simp <;> with_reducible rfl)
        try simp only [List.getElem_toArray, List.getElem_cons_succ, List.getElem_cons_zero, Act.put, List.setIfInBounds_toArray, List.set_cons_zero, List.set_cons_succ]
        refine wpAnyH_take (i := 9) (v := .pointer (some ⟨W.heap.size, 6, none⟩)) rfl (by kernel_rfl) (by kernel_rfl) (by kernel_rfl) (fun _ _ _ h => h) (Or.inl ⟨by rfl, fun W hSW => ?_⟩) hHeld ?_
        · ((try dsimp only at hSW); go_split_ands; go_simp <;> with_reducible rfl)
        try simp only [List.getElem_toArray, List.getElem_cons_succ, List.getElem_cons_zero, Act.put, List.setIfInBounds_toArray, List.set_cons_zero, List.set_cons_succ]
        refine wpAnyH_take (i := 10) (v := .slice ia bs.length ic) rfl (by kernel_rfl) (by kernel_rfl) (by kernel_rfl) (fun _ _ _ h => h) (Or.inl ⟨by rfl, fun W hSW => ?_⟩) hHeld ?_
        · ((try dsimp only at hSW); go_split_ands; go_simp <;> with_reducible rfl)
        try simp only [List.getElem_toArray, List.getElem_cons_succ, List.getElem_cons_zero, Act.put, List.setIfInBounds_toArray, List.set_cons_zero, List.set_cons_succ]
        refine wpAnyH_take (i := 11) (v := .pointer (some ⟨W.heap.size, 7, none⟩)) rfl (by kernel_rfl) (by kernel_rfl) (by kernel_rfl) (fun _ _ _ h => h) (Or.inl ⟨by rfl, fun W hSW => ?_⟩) hHeld ?_
        · ((try dsimp only at hSW); go_split_ands; go_simp <;> with_reducible rfl)
        try simp only [List.getElem_toArray, List.getElem_cons_succ, List.getElem_cons_zero, Act.put, List.setIfInBounds_toArray, List.set_cons_zero, List.set_cons_succ]
        refine wpAnyH_take (i := 12) (v := .int .i64 q) rfl (by kernel_rfl) (by kernel_rfl) (by kernel_rfl) (fun _ _ _ h => h) (Or.inl ⟨by rfl, fun W hSW => ?_⟩) hHeld ?_
        · ((try dsimp only at hSW); go_split_ands; go_simp <;> with_reducible rfl)
        try simp only [List.getElem_toArray, List.getElem_cons_succ, List.getElem_cons_zero, Act.put, List.setIfInBounds_toArray, List.set_cons_zero, List.set_cons_succ]
        refine wpAnyH_ready (rs := [13]) (by kernel_rfl) (by simp) ?_
        refine AllReadyH.cons rfl (fun K hK => ?_) ?_
        · try simp only [List.getElem_toArray, List.getElem_cons_succ, List.getElem_cons_zero]
          go_simp
          (go_at_call 26; refine (HLOW.out w0 (HX5.out.on HR0.out).1 ((HI.out.below (HX5.out.on HR0.out).1).mono (HX5.out.on HR0.out).1.size) HWI.out (by omega)).mono ?_; rintro e wy1 ⟨rfl, hb⟩; rw [HLR.out])
          have F1_base := Lib.hid (HR0.out.trans (hb.mono HR0.out.size))
          clear hb
          try go_wp2_with fail
          refine hK.out _ _ ?_ (fun hHeld => ?_)
          · exact ⟨(HX5.out.on F1_base.out).cells.1, (HX5.out.on F1_base.out).cells.2.2.2.1, (HX5.out.on F1_base.out).cells.2.2.2.2.2.2.1, (HX5.out.on F1_base.out).cells.2.2.2.2.2.2.2, (F1_base.out.cell (p := ⟨xb, xo + i * 2, none⟩) HXA.out).trans HXS.out.1, (F1_base.out.cell (p := ⟨xb, xo + i * 2 + 1, none⟩) HXA.out).trans HXS.out.2⟩
          clear hK K
          try simp only [List.getElem_toArray, List.getElem_cons_succ, List.getElem_cons_zero, Act.put, List.setIfInBounds_toArray, List.set_cons_zero, List.set_cons_succ]
          refine wpAnyH_take (i := 14) (v := .tuple #[.int .i64 ly, .bool lz]) rfl (by kernel_rfl) (by kernel_rfl) (by kernel_rfl) (fun _ _ _ h => h) (Or.inl ⟨by rfl, fun W hSW => ?_⟩) hHeld ?_
          · ((try dsimp only at hSW); go_split_ands; go_simp <;> with_reducible rfl)
          try simp only [List.getElem_toArray, List.getElem_cons_succ, List.getElem_cons_zero, Act.put, List.setIfInBounds_toArray, List.set_cons_zero, List.set_cons_succ]
          refine wpAnyH_take (i := 15) (v := .int .i64 ly) rfl (by kernel_rfl) (by kernel_rfl) (by kernel_rfl) (fun _ _ _ h => h) (Or.inl ⟨by rfl, fun W hSW => ?_⟩) hHeld ?_
          · ((try dsimp only at hSW); go_split_ands; go_simp <;> with_reducible rfl)
          try simp only [List.getElem_toArray, List.getElem_cons_succ, List.getElem_cons_zero, Act.put, List.setIfInBounds_toArray, List.set_cons_zero, List.set_cons_succ]
          refine wpAnyH_take (i := 16) (v := .bool lz) rfl (by kernel_rfl) (by kernel_rfl) (by kernel_rfl) (fun _ _ _ h => h) (Or.inl ⟨by rfl, fun W hSW => ?_⟩) hHeld ?_
          · ((try dsimp only at hSW); go_split_ands; go_simp <;> with_reducible rfl)
          try simp only [List.getElem_toArray, List.getElem_cons_succ, List.getElem_cons_zero, Act.put, List.setIfInBounds_toArray, List.set_cons_zero, List.set_cons_succ]
          refine wpAnyH_take (i := 17) (v := .int .i64 ly) rfl (by kernel_rfl) (by kernel_rfl) (by kernel_rfl) (fun _ _ _ h => h) (Or.inl ⟨by rfl, fun W hSW => ?_⟩) hHeld ?_
          · ((try dsimp only at hSW); go_split_ands; go_simp <;> with_reducible rfl)
          try simp only [List.getElem_toArray, List.getElem_cons_succ, List.getElem_cons_zero, Act.put, List.setIfInBounds_toArray, List.set_cons_zero, List.set_cons_succ]
          refine wpAnyH_take (i := 18) (v := .bool lz) rfl (by kernel_rfl) (by kernel_rfl) (by kernel_rfl) (fun _ _ _ h => h) (Or.inl ⟨by rfl, fun W hSW => ?_⟩) hHeld ?_
          · ((try dsimp only at hSW); go_split_ands; go_simp <;> with_reducible rfl)
          try simp only [List.getElem_toArray, List.getElem_cons_succ, List.getElem_cons_zero, Act.put, List.setIfInBounds_toArray, List.set_cons_zero, List.set_cons_succ]
          refine wpAnyH_done (by kernel_rfl) ?_ _
          have HX6 := Lib.hid (HX5.out.on F1_base.out)
          have HB6 := Lib.hid (HB5.out.trans (F1_base.out.mono HB5.out.size))
          have HO6 := Lib.hid (SS.own_of_block HO5.out (fun k e => F1_base.out.block k (HO5.out.lt k e).2))
          clear hHeld
          cases lz with
          | false =>
            clear HLY HLZ HLR
            go_wp2_with (go_at_call 20; refine (HAW.out _ HX6.out.1).mono ?_; rintro e w9 ⟨rfl, hb⟩; have HF := Lib.hid (HX6.out.on hb); clear hb)
            go_ret
            exact ⟨rfl, HF.out.1⟩
          | true =>
            have hly := HLY.out
            rw [if_pos rfl] at hly
            have HJ2 := Lib.hid (HJN.out HLZ.out.symm)
            have HLI := Lib.hid (show ly = lowI xs bs q (g1, g2) from hly)
            clear hly HLY HLZ HLR
            go_wp2_with (at_builtin
                         refine GG.wpList_append_any rfl _ _ 29 rfl w3.heap.size 3 j0 (.int .i64 0) 1 8 Tryd.underlying29 hj0 hw0 hw1 hw2 rfl (by decide) u5 i (intsV ((lowsI xs bs q args).take i)) rfl (HO6.out.alloc _) (.slice (some ⟨wy1.heap.size, 0, none⟩) 1 1) 1 [.int .i64 ly] rfl rfl (.inr ⟨_, _, rfl, GG.cell_one _ _ _⟩) (by simp [Value.oneCell']) (by unfold maxLen; omega) (by omega) (by have := HB6.out.size; simp; omega) ?_
                         intro v2 w8 ho hg
                         have HO8 := Lib.hid ho
                         have HB8 := Lib.hid ((HB6.out.alloc HB6.out.size _).grown hg (by have := HB6.out.size; simp; omega) (fun k e => (HO6.out.lt k e).1))
                         clear ho hg)
            go_roundw
            case rel => exact ⟨i + 1, by omega, by go_num, by rw [HTK.out, ← HLI.out]; exact HO8.out, HB8.out, Lib.hid HJ2.out⟩
            case measure => simp [intOf]; omega
        exact AllReadyH.nil
      · have HE := Lib.hid (show i = args.length by omega)
        have i1 : ¬ ((i : Int) < args.length) := by omega
        have HRL := Lib.hid (show Row wr.heap.size wr u5 (lowsI xs bs q args) by
          have h := HO.out
          rw [HE.out, List.take_of_length_le (by rw [lowsI_len]; exact Nat.le_refl _)] at h
          rw [← lowsI_len xs bs q args] at h
          exact row_ofS h)
        have HJA := Lib.hid (fun j (hj : j < args.length) => HJ.out j (by rw [HE.out]; exact hj))
        obtain ⟨hl0, hl1⟩ := two_lab HL4.out
        obtain ⟨pz, epz⟩ : ∃ pz, pz = putB xs p1 p2 (lows bs) (q, 0) := ⟨_, rfl⟩
        obtain ⟨py, epy⟩ : ∃ py : Int, py = if pz = true then lowI xs bs q (p1, p2) else 0 := ⟨_, rfl⟩
        have HLR := Lib.hid (show lowRet xs p1 p2 bs q = .tuple #[.int .i64 py, .bool pz] by unfold lowRet; rw [epy, epz]; rfl)
        have HPZ := Lib.hid epz
        have HPY := Lib.hid epy
        clear epz epy HJ
        go_wp2_with fail
        refine (HLOW.out wr HX4.out.1 ((HI.out.below HX4.out.1).mono HX4.out.1.size) HPM.out (by omega)).mono ?_
        rintro e w5 ⟨rfl, hb⟩
        rw [HLR.out]
        have HX5 := Lib.hid (HX4.out.on hb)
        have HL5 := Lib.hid ((hb.block _ (Array.getElem?_eq_some_iff.1 HL4.out).1).trans HL4.out)
        have HRL5 := Lib.hid ((HRL.out.below hb).mono hb.size)
        clear hb hc0 hc1 hc2 hc3 hc4 hc5 hc6 hc7 hl0 hl1 HRL
        obtain ⟨hc0, hc1, hc2, hc3, hc4, hc5, hc6, hc7⟩ := HX5.out.cells
        obtain ⟨hl0, hl1⟩ := two_lab HL5.out
        cases pz with
        | false =>
          clear HPY HPZ HLR
          go_wp2_with (go_at_call 20; refine (HAW.out _ HX5.out.1).mono ?_; rintro e w9 ⟨rfl, hb⟩; have HF := Lib.hid (HX5.out.on hb); clear hb)
          go_ret
          exact ⟨rfl, HF.out.1⟩
        | true =>
          have HTW := Lib.hid (twice_all HX.out HP.out HWA.out HPM.out HJA.out HPZ.out.symm)
          have hpy := HPY.out
          rw [if_pos rfl] at hpy
          obtain ⟨v, ev⟩ : ∃ v : Int, v = ((putJ xs y1 y2 (lows bs) (q, 0)).1 : Int) := ⟨_, rfl⟩
          have HR1 := Lib.hid (show lowRet xs y1 y2 bs q = .tuple #[.int .i64 v, .bool true] by
            have h := HTW.out.1
            rw [← HE2.out.1, ← HE2.out.2] at h
            unfold lowRet
            rw [h, ev]
            rfl)
          have HR2 := Lib.hid (show lowRet xs a m (lowsI xs bs q args) py = .tuple #[.int .i64 v, .bool true] by
            have h := HTW.out.2
            rw [← HE2.out.1, ← HE2.out.2, ← hpy] at h
            unfold lowRet
            rw [h.1, ev, h.2]
            rfl)
          clear hpy HPY HPZ HLR ev
          go_wp2_with fail
          refine (HLOW.out w5 HX5.out.1 ((HI.out.below HX5.out.1).mono HX5.out.1.size) HPK.out (by omega)).mono ?_
          rintro e w6 ⟨rfl, hb⟩
          rw [HR1.out]
          have HX6 := Lib.hid (HX5.out.on hb)
          have HRL6 := Lib.hid ((HRL5.out.below hb).mono hb.size)
          clear hb hc0 hc1 hc2 hc3 hc4 hc5 hc6 hc7 hl0 hl1 HRL5
          obtain ⟨hc0, hc1, hc2, hc3, hc4, hc5, hc6, hc7⟩ := HX6.out.cells
          go_wp2_with fail
          refine (HLOW.out w6 HX6.out.1 HRL6.out HM.out (by rw [lowsI_len]; omega)).mono ?_
          rintro e w7 ⟨rfl, hb⟩
          rw [HR2.out]
          have HX7 := Lib.hid (HX6.out.on hb)
          clear hb hc0 hc1 hc2 hc3 hc4 hc5 hc6 hc7
          have hvv : (v == v) = true := by simp
          go_wp2_with (go_at_call 20; refine (HAW.out _ HX7.out.1).mono ?_; rintro e w9 ⟨rfl, hb⟩; have HF := Lib.hid (HX7.out.on hb); clear hb)
          go_ret
          exact ⟨rfl, HF.out.1⟩
theorem symTwice_all {uv av : Value} {xs : List Int} {a m p1 p2 q : Int} {args : List (Int × Int)} {ia : Option Addr} {il ic : Nat} {zs : List Int} (W : World) (h : Nums .u64 W.heap.size W uv xs ∧ Wide xs ∧ xs.length ≤ big5 ∧ ∀ n c, uv = .slice none n c → c = 0) (hT : Tz W) (hav : LabRow W.heap.size W av args) (hwa : WideL args) (hal : args.length ≤ 17592186044416) (hm : 0 ≤ m ∧ m ≤ 18446744073709551615) (hpm : 0 ≤ p2 ∧ p2 ≤ 18446744073709551615) (hz : IsRow .i64 W ia il ic zs) (hs : il ≤ 17592186044416) :
    Calls Tryd.prog 8 #[.agg #[uv, .int .i64 a, .int .u64 m, av, .int .i64 p1, .int .u64 p2, .slice ia il ic, .int .i64 q]] W fun e V => e = .returned (.bool true) ∧ Below W.heap.size W V := by
  obtain ⟨ua, uc, rfl⟩ := h.1.form
  obtain ⟨aa, ac, rfl⟩ := hav.form
  obtain ⟨h1, h2⟩ := row_of_isRow hz
  have h3 := symTwice_walk (ia := ia) (ic := ic) (bs := zs.take il) (a := a) (m := m) (p1 := p1) (p2 := p2) (q := q) W h.1 h.2.1 h.2.2.1 hT hav hwa hal hm hpm (by rw [h2]; exact h1) (by rw [h2]; exact hs)
  rw [h2] at h3
  exact h3
end Go.Proofs.YtodhoplchficpaaDoor
