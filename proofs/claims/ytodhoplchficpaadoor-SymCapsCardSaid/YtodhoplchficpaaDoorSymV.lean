import Derived.Test.YtodhoplchficpaaDoorSymU
set_option linter.unusedSimpArgs false
set_option linter.unusedVariables false
/-! sym: Put, Low -/
namespace Go.Proofs.YtodhoplchficpaaDoor
open Go.RowKit Go.Shelf
open SV (Lab SysOk Least labs sumOf mu sumP at' natsL askT askI fanN lok ljoin val le Bnd)
set_option maxRecDepth 100000 in
set_option maxHeartbeats 3200000 in
theorem sput_no {uv av : Value} {xs : List Int} {a m : Int} {args : List (Int × Int)} {pc : Int × Int} (w : World) (hav : LabRow w.heap.size w av args) (hm : 0 ≤ m ∧ m ≤ 18446744073709551615) (hal : args.length ≤ 17592186044416) (hfit : fitB m args.length = false) :
    Calls Tryd.prog 23 #[uv, .agg #[.int .i64 a, .int .u64 m], av, .agg #[.int .i64 pc.1, .int .u64 pc.2]] w fun e V => PutE xs a m args pc w e V := by
  obtain ⟨p1, p2⟩ := pc
  obtain ⟨aa, ac, rfl⟩ := hav.form
  have HFT := Lib.hid hfit
  have HFIT := Lib.hid (fun W => sfits_any a m args.length W hm.1 hm.2 hal)
  have HJR := Lib.hid (show jRet (putB xs a m args (p1, p2)) (putJ xs a m args (p1, p2)) = .tuple #[.agg #[.int .i64 0, .int .u64 0], .bool false] by
    have e : putB xs a m args (p1, p2) = false := by unfold putB; rw [hfit]; rfl
    unfold jRet
    rw [e]
    rfl)
  have HB0 := Lib.hid (putB_start w a m p1 p2)
  obtain ⟨W0, eW0⟩ : ∃ W0, W0 = (((w.alloc (.cells #[.int .i64 a, .int .u64 m] 38)).alloc (.cells #[.int .i64 p1, .int .u64 p2] 38)).alloc (.cells #[.int .i64 0, .int .u64 0] 38)) := ⟨_, rfl⟩
  rw [← eW0] at HB0
  have b0 : (args.length : Int) ≤ 17592186044416 := by omega
  clear hfit hav hal hm
  refine (callsIn_wide (n := 5)).1 ?_
  refine callsIn_of_wp_marks Tryd.func23 rfl trivial ?_ rfl
  simp only [Tryd.ntmps23, List.size_toArray, List.length_cons, List.length_nil, Nat.reduceAdd, Nat.reduceSub, Array.replicate_succ, Array.replicate_zero, List.push_toArray, List.append_toArray, List.nil_append, List.cons_append]
  gi_wp2_with (refine ⟨trivial, ?_⟩; gi_at_call 45; rw [← eW0]; refine (callsIn_wide.2 (HFIT.out _)).mono ?_; rintro e w1 ⟨rfl, hb1⟩; rw [HFT.out]; have HB1 := Lib.hid (HB0.out.on hb1); obtain ⟨hr0, hr1, hr2, hr3⟩ := one_lab HB1.out.2.2.2.2; clear hb1)
  have hs := (put_lab HB1.out.2.2.2.2 0 0).1
  have HF := Lib.hid (show Below w.heap.size w ((w1.setCell ⟨w.heap.size + 1 + 1, 0, none⟩ (.int .i64 0)).setCell ⟨w.heap.size + 1 + 1, 1, none⟩ (.int .u64 0)) from (HB1.out.1.setCell (p := ⟨w.heap.size + 1 + 1, 0, none⟩) (by show w.heap.size ≤ w.heap.size + 1 + 1; omega) _).setCell (p := ⟨w.heap.size + 1 + 1, 1, none⟩) (by show w.heap.size ≤ w.heap.size + 1 + 1; omega) _)
  generalize (w1.setCell ⟨w.heap.size + 1 + 1, 0, none⟩ (.int .i64 0)).setCell ⟨w.heap.size + 1 + 1, 1, none⟩ (.int .u64 0) = w10 at hs HF ⊢
  obtain ⟨q0, q1⟩ := two_lab hs
  refine ⟨.tuple #[.agg #[.int .i64 0, .int .u64 0], .bool false], ?_, by rw [HJR.out], HF.out⟩
  simp [results, Tryd.f23, go_sem, q0, q1]
theorem sput_any {uv av : Value} {xs : List Int} {a m : Int} {args : List (Int × Int)} {pc : Int × Int} (w : World) (hu : Nums .u64 w.heap.size w uv xs) (hx : Wide xs) (hxl : xs.length ≤ big5) (hT : Tz w) (hav : LabRow w.heap.size w av args) (hwa : WideL args) (hm : 0 ≤ m ∧ m ≤ 18446744073709551615) (hpm : 0 ≤ pc.2 ∧ pc.2 ≤ 18446744073709551615) (hal : args.length ≤ 17592186044416) :
    Calls Tryd.prog 23 #[uv, .agg #[.int .i64 a, .int .u64 m], av, .agg #[.int .i64 pc.1, .int .u64 pc.2]] w fun e V => PutE xs a m args pc w e V := by
  cases h : fitB m args.length with
  | false => exact sput_no w hav hm hal h
  | true => exact sput_yes w hu hx hxl hT hav hwa hm hpm hal h
theorem lab_one_new (W : World) (a m : Int) : ∀ j u, [Value.int .i64 a, .int .u64 m][j]? = some u → (W.alloc (.cells #[.int .i64 a, .int .u64 m] 38)).cell? ((⟨W.heap.size, 0, none⟩ : Addr).add j) = some u := by
  intro j u hj
  rw [Addr.add_lit, Nat.zero_add]
  match j, hj with
  | 0, hj => exact (cell_of_row _ _ 0 _ _ _ (heap_alloc_new _ _)).trans (by simpa using hj)
  | 1, hj => exact (cell_of_row _ _ 1 _ _ _ (heap_alloc_new _ _)).trans (by simpa using hj)
theorem lows_take {l : List Int} {i : Nat} (h : i < l.length) : labV (lows (l.take (i + 1))) = labV (lows (l.take i)) ++ [.int .i64 (l[i]?.getD 0), .int .u64 0] := by
  rw [List.take_succ_eq_append_getElem h, lows_snoc, labV_snoc, List.getElem?_eq_getElem h]
  rfl
def lowRet (xs : List Int) (a m : Int) (args : List Int) (pc : Int) : Value := .tuple #[.int .i64 (if putB xs a m (lows args) (pc, 0) = true then ((putJ xs a m (lows args) (pc, 0)).1 : Int) else 0), .bool (putB xs a m (lows args) (pc, 0))]
set_option maxRecDepth 100000 in
set_option maxHeartbeats 3200000 in
theorem slow_any {uv av : Value} {xs : List Int} {a m pc : Int} {args : List Int} (W : World) (hu : Nums .u64 W.heap.size W uv xs) (hx : Wide xs) (hxl : xs.length ≤ big5) (hT : Tz W) (hav : Row W.heap.size W av args) (hm : 0 ≤ m ∧ m ≤ 18446744073709551615) (hal : args.length ≤ 1000) :
    Calls Tryd.prog 26 #[uv, .agg #[.int .i64 a, .int .u64 m], av, .int .i64 pc] W fun e V => e = .returned (lowRet xs a m args pc) ∧ Below W.heap.size W V := by
  obtain ⟨ua, uc, rfl⟩ := hu.form
  obtain ⟨aa, ac, rfl⟩ := hav.form
  obtain ⟨i0, hi0, hz0, hz1, hz2⟩ := info_parts infoLab
  have HA := Lib.hid hav
  have HP := Lib.hid (fun w (hb : Below W.heap.size W w) {lv : Value} (hl : LabRow w.heap.size w lv (lows args)) => sput_any (a := a) (m := m) (pc := (pc, 0)) w ((hu.below hb).mono hb.size) hx hxl (hT.on hb) hl (lows_wide args) hm ⟨Int.le_refl 0, by show (0 : Int) ≤ _; decide⟩ (by rw [lows_len]; omega))
  have b0 : (args.length : Int) ≤ 1000 := by omega
  obtain ⟨z, ez⟩ : ∃ z, z = putB xs a m (lows args) (pc, 0) := ⟨_, rfl⟩
  obtain ⟨y1, ey1⟩ : ∃ y1 : Int, y1 = if z = true then ((putJ xs a m (lows args) (pc, 0)).1 : Int) else 0 := ⟨_, rfl⟩
  obtain ⟨y2, ey2⟩ : ∃ y2 : Int, y2 = if z = true then (putJ xs a m (lows args) (pc, 0)).2 else 0 := ⟨_, rfl⟩
  have HJR := Lib.hid (show jRet (putB xs a m (lows args) (pc, 0)) (putJ xs a m (lows args) (pc, 0)) = .tuple #[.agg #[.int .i64 y1, .int .u64 y2], .bool z] by unfold jRet; rw [ey1, ey2, ez])
  have HLR := Lib.hid (show lowRet xs a m args pc = .tuple #[.int .i64 y1, .bool z] by unfold lowRet; rw [ey1, ez])
  obtain ⟨W0, eW0⟩ : ∃ W0, W0 = W.alloc (.cells #[.int .i64 a, .int .u64 m] 38) := ⟨_, rfl⟩
  have HB0 := Lib.hid (show Below W.heap.size W W0 by rw [eW0]; exact (Below.refl _ _).alloc (Nat.le_refl _) _)
  have HH0 := Lib.hid (show W0.heap[W.heap.size]? = some (.cells #[.int .i64 a, .int .u64 m] 38) by rw [eW0, heap_alloc_new])
  have HZ0 := Lib.hid (show W0.heap.size = W.heap.size + 1 by rw [eW0]; simp)
  rw [HLR.out]
  clear hu hx hxl hT hav hm hal ez ey1 ey2
  go_enter Tryd.func26, Tryd.ntmps26
  go_upto_region 1 with fail
  rw [← eW0]
  clear eW0
  go_wp2_with fail
  go_loopw [10, 17] (fun x k wr => ∃ i : Nat, i ≤ args.length ∧ k = .int .i64 (i : Int) ∧ wr.ownsRow W0.heap.size 38 2 x i (labV (lows (args.take i))) ∧ Below W0.heap.size W0 wr) (fun _ k _ => args.length - (intOf k).toNat)
  case atStart => exact ⟨0, Nat.zero_le _, rfl, World.ownsRow_nil _ _ _ _, Below.refl _ _⟩
  case round =>
    obtain ⟨i, hi, rfl, ho, hb⟩ := hrel
    have HO := Lib.hid ho
    have HB := Lib.hid hb
    clear ho hb
    by_cases hlt : i < args.length
    · have i1 : (0 : Int) ≤ i ∧ (i : Int) < args.length := by omega
      obtain ⟨xb, xo, rfl, hx⟩ := (HA.out.below (HB0.out.trans (HB.out.mono HB0.out.size))).cellAt hlt
      have HT := Lib.hid (lows_take hlt)
      obtain ⟨x, ex⟩ : ∃ x, x = args[i]?.getD 0 := ⟨_, rfl⟩
      rw [← ex] at hx HT
      clear ex
      go_wp2_with (at_builtin
                   refine GG.wpList_append_any rfl _ _ 23 rfl W0.heap.size 38 i0 (.agg #[.int .i64 0, .int .u64 0]) 2 16 Tryd.underlying23 hi0 hz0 hz1 hz2 rfl (by decide) u10 i (labV (lows (args.take i))) rfl (HO.out.alloc _) (.slice (some ⟨wr.heap.size, 0, none⟩) 1 1) 1 [.int .i64 x, .int .u64 0] rfl rfl (.inr ⟨_, _, rfl, lab_one_new _ _ _⟩) (by simp [Value.oneCell']) (by unfold maxLen; omega) (by omega) (by have := HB.out.size; simp; omega) ?_
                   intro v2 w2 ho hg
                   have HO2 := Lib.hid ho
                   have HB2 := Lib.hid ((HB.out.alloc HB.out.size _).grown hg (by have := HB.out.size; simp; omega) (fun k e => (HO.out.lt k e).1))
                   clear ho hg)
      go_roundw
      case rel => exact ⟨i + 1, by omega, by go_num, by rw [HT.out]; exact HO2.out, HB2.out⟩
      case measure => simp [intOf]; omega
    · have HE := Lib.hid (show wr.ownsRow W0.heap.size 38 2 u10 (lows args).length (labV (lows args)) by
        have h := HO.out
        have e : i = args.length := by omega
        rw [e, List.take_length] at h
        rw [lows_len]
        exact h)
      have HLW := Lib.hid (lab_ownV HE.out)
      have HBW := Lib.hid (HB0.out.trans (HB.out.mono HB0.out.size))
      have HH1 := Lib.hid ((HB.out.block _ (by rw [HZ0.out]; omega)).trans HH0.out)
      obtain ⟨hr0, hr1⟩ := two_lab HH1.out
      have hjz : ¬ ((i : Int) < args.length) := by omega
      go_wp2_with (go_at_call 23; refine (HP.out wr HBW.out HLW.out).mono ?_; rintro e w5 ⟨rfl, hb5⟩; rw [HJR.out]; have HB5 := Lib.hid (HBW.out.trans (hb5.mono HBW.out.size)); clear hb5 hr0 hr1)
      refine bodyPost_ret (v := .tuple #[.int .i64 y1, .bool z]) (by simp [results, Tryd.results26, go_sem]) rfl ?_
      exact ⟨rfl, HB5.out.alloc HB5.out.size _⟩
end Go.Proofs.YtodhoplchficpaaDoor
