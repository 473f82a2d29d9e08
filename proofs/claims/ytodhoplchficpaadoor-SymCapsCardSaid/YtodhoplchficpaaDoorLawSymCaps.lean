import Derived.Test.YtodhoplchficpaaDoorSymC
import Derived.Test.YtodhoplchficpaaDoorDoorZ
import Derived.Test.YtodhoplchficpaaDoorOpenL
import Derived.ChangeKeysEq
set_option linter.unusedSimpArgs false
set_option linter.unusedVariables false
/-! sym: the reference's Cap -/
namespace Go.Proofs.YtodhoplchficpaaDoor
open List renaming getElem_toArray → zA, getElem_cons_succ → zB, getElem_cons_zero → zC, setIfInBounds_toArray → zD, set_cons_zero → zE, set_cons_succ → zF
open Go.RowKit
/-- the blocks of the reference's Cap -/
def RCapBx (w : World) (cs : List Int) (a m : Int) (V : World) : Prop := Below w.heap.size w V ∧ w.heap.size + 3 ≤ V.heap.size ∧ V.heap[w.heap.size]? = some (.cells (cs.map (Value.int .i64)).toArray 56) ∧ V.heap[w.heap.size + 1]? = some (.cells #[.int .i64 a, .int .u64 m] 38) ∧ V.heap[w.heap.size + 1 + 1]? = some (.cells (zero7.map (Value.int .i64)).toArray 56)
theorem rcapBx_start (w : World) (cs : List Int) (a m : Int) : RCapBx w cs a m (((w.alloc (.cells (cs.map (Value.int .i64)).toArray 56)).alloc (.cells #[.int .i64 a, .int .u64 m] 38)).alloc (.cells (zero7.map (Value.int .i64)).toArray 56)) :=
  ⟨(((Below.refl _ _).alloc (Nat.le_refl _) _).alloc (by simp) _).alloc (by simp <;> omega) _, by simp, by rw [heap_alloc_old _ _ (by simp <;> omega), heap_alloc_old _ _ (by simp), heap_alloc_new], by rw [heap_alloc_old _ _ (by simp)]; exact SS.new_at (by simp), SS.new_at (by simp)⟩
theorem RCapBx.at {w V : World} {cs : List Int} {a m : Int} (h : RCapBx w cs a m V) {z : Nat} (hz : z < cs.length) : V.cell? ⟨w.heap.size, z, none⟩ = some (.int .i64 (cs[z]?.getD 0)) ∧ V.frozen? ⟨w.heap.size, z, none⟩ = false := by
  have h3 := h.2.2.1
  constructor
  · simp only [World.cell?, h3]
    simp [List.getElem?_eq_getElem hz]
  · simp [World.frozen?, h3]
theorem RCapBx.set {w V : World} {cs : List Int} {a m : Int} (h : RCapBx w cs a m V) (z : Nat) (v : Int) : RCapBx w (cs.set z v) a m (V.setCell ⟨w.heap.size, z, none⟩ (.int .i64 v)) := by
  obtain ⟨h0, h1, h3, h4, h5⟩ := h
  have hk : ∀ k, k ≠ w.heap.size → (V.setCell ⟨w.heap.size, z, none⟩ (.int .i64 v)).heap[k]? = V.heap[k]? := fun k hk => Below.heap_setCell _ _ _ _ hk
  have h7 := SS.set_obj (c := z) (.int .i64 v) h3
  refine ⟨h0.setCell (p := ⟨w.heap.size, z, none⟩) (Nat.le_refl _) _, by simpa using h1, ?_, (hk _ (by omega)).trans h4, (hk _ (by omega)).trans h5⟩
  rw [h7, List.map_set]
  simp
theorem upto_seven {m : Int} (h : ∀ i ∈ MM.bitsOf m, i < 7) : MM.upto m 7 = MM.bitsOf m := by
  have h2 : ∀ k, k ≤ 57 → MM.upto m (7 + k) = MM.upto m 7 := by
    intro k hk
    induction k with
    | zero => rfl
    | succ k ih =>
      cases hh : MM.hasB m ((7 + k : Nat) : Int) with
      | false => rw [show 7 + (k + 1) = (7 + k) + 1 from rfl, MM.upto_no _ _ hh]; exact ih (by omega)
      | true =>
        have := h (7 + k) (mem_bits.2 hh)
        omega
  exact (h2 57 (Nat.le_refl _)).symm
theorem fit_lt {m : Int} (h : fitB m 6 = true) : ∀ i ∈ MM.bitsOf m, i < 7 := by
  unfold fitB at h
  rw [Bool.and_eq_true, bitsIn_iff] at h
  exact fun i hi => by have := h.2 i hi; omega
set_option maxRecDepth 100000 in
set_option maxHeartbeats 6400000 in
theorem rcap_any {ua : Option Addr} {uc : Nat} {xs cs : List Int} {a m bd : Int} (w : World) (hu : Nums .u64 w.heap.size w (.slice ua xs.length uc) xs) (hx : Wide xs) (hxl : xs.length ≤ big5) (h7 : cs.length = 7) (hm : 0 ≤ m ∧ m ≤ 18446744073709551615) (hr : LL.rightB xs = true) (hlc : levB xs.length cs = true) (hbd : 0 ≤ bd ∧ bd < xs.length) (hfit : fitB m 6 = true) :
    Calls Tryd.prog 30 #[.slice ua xs.length uc, .agg (cs.map (Value.int .i64)).toArray, .agg #[.int .i64 a, .int .u64 m], .int .i64 bd] w fun e V => e = .returned (.agg ((capF xs bd cs (MM.bitsOf m)).map (Value.int .i64)).toArray) ∧ Below w.heap.size w V := by
  obtain ⟨c0, c1, c2, c3, c4, c5, c6, e7⟩ := seven h7
  have HM := Lib.hid hm
  have HU := Lib.hid hu
  have HX := Lib.hid hx
  have HR := Lib.hid hr
  have HLC := Lib.hid hlc
  have HFP := Lib.hid (upto_seven (fit_lt hfit))
  have hl9 : xs.length ≤ 9223372036854775807 := by unfold big5 at hxl; omega
  obtain ⟨bn, rfl⟩ := Int.eq_ofNat_of_zero_le hbd.1
  have HBN := Lib.hid (show bn < xs.length by omega)
  have HBD := Lib.hid hbd
  have HMT := Lib.hid (fun W (hb : Below w.heap.size w W) (c : Nat) (hc : c < xs.length) => rmeet_any _ xs _ W (hu.below hb) hx hl9 c bn hc HBN.out)
  have HE := Lib.hid (show (Value.agg (cs.map (Value.int .i64)).toArray) = .agg #[.int .i64 c0, .int .i64 c1, .int .i64 c2, .int .i64 c3, .int .i64 c4, .int .i64 c5, .int .i64 c6] by rw [e7]; rfl)
  have HB0 := Lib.hid (rcapBx_start w cs a m)
  obtain ⟨W0, eW0⟩ : ∃ W0, W0 = (((w.alloc (.cells (cs.map (Value.int .i64)).toArray 56)).alloc (.cells #[.int .i64 a, .int .u64 m] 38)).alloc (.cells (zero7.map (Value.int .i64)).toArray 56)) := ⟨_, rfl⟩
  rw [← eW0] at HB0
  rw [e7] at eW0
  simp only [List.map, zero7] at eW0
  rw [HE.out]
  have HLF := Lib.hid (fun i => capF_lev (MM.upto m i) hr hbd hlc)
  have HLN := Lib.hid (fun i => (capF_len (xs := xs) (bd := (bn : Int)) (cs := cs) (MM.upto m i)).trans h7)
  clear hu hxl hx hr hlc hbd hfit hm HE e7 h7
  go_enter Tryd.func30, Tryd.ntmps30
  go_upto_region 1 with fail
  rw [← eW0]
  clear eW0
  go_wp2_with fail
  go_loopw [9] (fun k wr => ∃ i : Nat, i ≤ 7 ∧ k = .int .i64 (i : Int) ∧ RowKit.Hid (RCapBx w (capF xs bn cs (MM.upto m i)) a m wr)) (fun k _ => 7 - (intOf k).toNat)
  case atStart => exact ⟨0, Nat.zero_le _, rfl, HB0⟩
  case round =>
    obtain ⟨i, hi, rfl, HB⟩ := hrel
    obtain ⟨hc0, hc1⟩ := two_lab HB.out.2.2.2.1
    by_cases hlt : i < 7
    · have i1 : (i : Int) < 7 := by omega
      have i2 : (0 : Int) ≤ i ∧ (i : Int) < 7 := by omega
      cases hh : MM.hasB m (i : Int) with
      | false =>
        have HH := Lib.hid hh
        clear hh
        go_wp2_with (go_at_call 49; refine (rhas_any _ _ _ HM.out.1 HM.out.2).mono ?_; rintro e w' ⟨rfl, rfl⟩; rw [HH.out])
        go_roundw
        case rel => exact ⟨i + 1, by omega, by go_num, Lib.hid (by rw [MM.upto_no _ _ HH.out]; exact HB.out)⟩
        case measure => simp [intOf]; omega
      | true =>
        have HH := Lib.hid hh
        clear hh
        obtain ⟨L, eL⟩ : ∃ L, L = capF xs bn cs (MM.upto m i) := ⟨_, rfl⟩
        have HNX := Lib.hid (show capF xs bn cs (MM.upto m (i + 1)) = L.set i (LL.meetI xs (L[i]?.getD 0).toNat bn) by rw [MM.upto_yes _ _ HH.out, capF_snoc, eL]; rfl)
        have hL7 : L.length = 7 := by rw [eL]; exact HLN.out i
        have hLL : levB xs.length L = true := by rw [eL]; exact HLF.out i
        rw [← eL] at HB
        clear eL
        obtain ⟨y, ey⟩ : ∃ y, y = L[i]?.getD 0 := ⟨_, rfl⟩
        have hy : 0 ≤ y ∧ y < xs.length := by rw [ey]; exact levB_iff.1 hLL _ (GG.getD_mem (d := 0) (by omega))
        rw [← ey] at HNX
        obtain ⟨hy0, hy1⟩ := HB.out.at (z := i) (by omega)
        rw [← ey] at hy0
        clear ey hLL
        obtain ⟨yn, rfl⟩ := Int.eq_ofNat_of_zero_le hy.1
        have HY := Lib.hid (show yn < xs.length by omega)
        rw [Int.toNat_natCast] at HNX
        obtain ⟨mv, emv⟩ : ∃ mv, mv = LL.meetI xs yn bn := ⟨_, rfl⟩
        rw [← emv] at HNX
        have HME := Lib.hid emv
        clear emv hy
        go_wp2_with (first
          | (go_at_call 49; refine (rhas_any _ _ _ HM.out.1 HM.out.2).mono ?_; rintro e w' ⟨rfl, rfl⟩; rw [HH.out])
          | (go_at_call 43; refine (HMT.out _ HB.out.1 yn HY.out).mono ?_; rintro e w' ⟨rfl, rfl⟩; rw [← HME.out]))
        go_roundw
        case rel => exact ⟨i + 1, by omega, by go_num, Lib.hid (by rw [HNX.out]; exact HB.out.set i mv)⟩
        case measure => simp [intOf]; omega
    · obtain rfl : i = 7 := by omega
      obtain ⟨d0, d1, d2, d3, d4, d5, d6, eL⟩ := seven (HLN.out 7)
      have HRE := Lib.hid (show (Value.agg ((capF xs bn cs (MM.bitsOf m)).map (Value.int .i64)).toArray) = .agg #[.int .i64 d0, .int .i64 d1, .int .i64 d2, .int .i64 d3, .int .i64 d4, .int .i64 d5, .int .i64 d6] by rw [← HFP.out, eL]; rfl)
      rw [eL] at HB
      clear eL
      obtain ⟨⟨_, _, _, _, _, _, _⟩, _, _, _, _, _, _, _⟩ := one7 HB.out.2.2.1
      obtain ⟨⟨_, _, _, _, _, _, _⟩, _, _, _, _, _, _, _⟩ := one7 HB.out.2.2.2.2
      go_wp2_with fail
      have hs := set7_obj HB.out.2.2.2.2 (.int .i64 d0) (.int .i64 d1) (.int .i64 d2) (.int .i64 d3) (.int .i64 d4) (.int .i64 d5) (.int .i64 d6)
      have HF := Lib.hid (set7_below HB.out.1 (show w.heap.size ≤ w.heap.size + 1 + 1 by omega) (.int .i64 d0) (.int .i64 d1) (.int .i64 d2) (.int .i64 d3) (.int .i64 d4) (.int .i64 d5) (.int .i64 d6))
      unfold set7 at hs HF
      generalize ((((((wr.setCell ⟨w.heap.size + 1 + 1, 0, none⟩ (.int .i64 d0)).setCell ⟨w.heap.size + 1 + 1, 1, none⟩ (.int .i64 d1)).setCell ⟨w.heap.size + 1 + 1, 2, none⟩ (.int .i64 d2)).setCell ⟨w.heap.size + 1 + 1, 3, none⟩ (.int .i64 d3)).setCell ⟨w.heap.size + 1 + 1, 4, none⟩ (.int .i64 d4)).setCell ⟨w.heap.size + 1 + 1, 5, none⟩ (.int .i64 d5)).setCell ⟨w.heap.size + 1 + 1, 6, none⟩ (.int .i64 d6) = w10 at hs HF ⊢
      obtain ⟨⟨q0, q1, q2, q3, q4, q5, q6⟩, _⟩ := one7 hs
      refine bodyPost_ret (v := .agg #[.int .i64 d0, .int .i64 d1, .int .i64 d2, .int .i64 d3, .int .i64 d4, .int .i64 d5, .int .i64 d6]) ?_ rfl ?_
      · simp [results, Tryd.f30, go_sem, q0, q1, q2, q3, q4, q5, q6]
      · exact ⟨by rw [HRE.out], HF.out⟩
end Go.Proofs.YtodhoplchficpaaDoor
/-! the argument of SymCaps -/
namespace Go.Proofs.YtodhoplchficpaaDoor
open List renaming getElem_toArray → zA, getElem_cons_succ → zB, getElem_cons_zero → zC, setIfInBounds_toArray → zD, set_cons_zero → zE, set_cons_succ → zF
open Go.ChangeShapes Go.WideShapes Go.ChangeAt Go.RowKit Go.Deep Go.Joins
/-- seven ints that came in -/
theorem open_seven {H : Type} {enc : TypeId × Value → H} {W : World} {fuel : Nat} {x : DataW H × List MemPlace} {u0 u1 u2 u3 u4 u5 u6 : Value} (h : DataW.trod enc Tryd.prog W 0 (fun _ => true) true fuel 56 [u0, u1, u2, u3, u4, u5, u6] = some x) :
    ∃ c0 c1 c2 c3 c4 c5 c6 : Int, u0 = .int .i64 c0 ∧ u1 = .int .i64 c1 ∧ u2 = .int .i64 c2 ∧ u3 = .int .i64 c3 ∧ u4 = .int .i64 c4 ∧ u5 = .int .i64 c5 ∧ u6 = .int .i64 c6 := by
  have c1 : Tryd.prog.cellsOf 3 = 1 := by kernel_rfl
  obtain ⟨xs, k, _, _, _, hxl, hg⟩ := DataW.trod_array Tryd.underlying56 h
  match xs, hxl with
  | [y0, y1, y2, y3, y4, y5, y6], _ =>
    have g0 := hg 0 (by omega)
    have g1 := hg 1 (by omega)
    have g2 := hg 2 (by omega)
    have g3 := hg 3 (by omega)
    have g4 := hg 4 (by omega)
    have g5 := hg 5 (by omega)
    have g6 := hg 6 (by omega)
    simp [c1] at g0 g1 g2 g3 g4 g5 g6
    obtain ⟨q0, e0, _, _⟩ := DataW.trod_int Tryd.underlying3 g0
    obtain ⟨q1, e1, _, _⟩ := DataW.trod_int Tryd.underlying3 g1
    obtain ⟨q2, e2, _, _⟩ := DataW.trod_int Tryd.underlying3 g2
    obtain ⟨q3, e3, _, _⟩ := DataW.trod_int Tryd.underlying3 g3
    obtain ⟨q4, e4, _, _⟩ := DataW.trod_int Tryd.underlying3 g4
    obtain ⟨q5, e5, _, _⟩ := DataW.trod_int Tryd.underlying3 g5
    obtain ⟨q6, e6, _, _⟩ := DataW.trod_int Tryd.underlying3 g6
    simp at e0 e1 e2 e3 e4 e5 e6
    exact ⟨q0, q1, q2, q3, q4, q5, q6, e0, e1, e2, e3, e4, e5, e6⟩
set_option maxRecDepth 100000 in
/-- caps that came in -/
theorem open_caps {H : Type} {enc : TypeId × Value → H} {r : Reach} {b0 : Nat} {W : World} {v : Value} {d : DataW H} {p : List MemPlace}
    (hv : Value.okWide Tryd.prog W r b0 58 v) (h : DataW.Trod enc Tryd.prog W 0 (fun _ => true) true 58 v d p)
    (hsz : ∀ n ∈ d.weights Tryd.prog 58, n ≤ reachBytes) :
    ∃ (uv : Value) (c0 c1 c2 c3 c4 c5 c6 lv lm b : Int) (z : List Int), v = .agg #[uv, .int .i64 c0, .int .i64 c1, .int .i64 c2, .int .i64 c3, .int .i64 c4, .int .i64 c5, .int .i64 c6, .int .i64 lv, .int .u64 lm, .int .i64 b] ∧ (Nums .u64 W.heap.size W uv z ∧ Wide z ∧ z.length ≤ big5 ∧ ∀ n c, uv = .slice none n c → c = 0) ∧ (0 ≤ lm ∧ lm ≤ 18446744073709551615) := by
  obtain ⟨cs, rfl, hcs⟩ := okWide_struct Tryd.underlying58 hv
  obtain ⟨l⟩ := cs
  have c11 : Tryd.prog.cellsOf 58 = 11 := by kernel_rfl
  have c0 : Tryd.prog.cellsOf 22 = 1 := by kernel_rfl
  have c1 : Tryd.prog.cellsOf 56 = 7 := by kernel_rfl
  have c2 : Tryd.prog.cellsOf 38 = 2 := by kernel_rfl
  have c3 : Tryd.prog.cellsOf 3 = 1 := by kernel_rfl
  match l, hcs.trans c11 with
  | [u0, u1, u2, u3, u4, u5, u6, u7, u8, u9, u10], _ =>
    obtain ⟨fuel, hf⟩ := h
    obtain ⟨xs, n, _, hx, _, hxl, hg⟩ := DataW.trod_struct Tryd.underlying58 hf
    match xs, hxl with
    | [y0, y1, y2, y3], _ =>
      have g0 := hg 0 _ rfl
      have g1 := hg 1 _ rfl
      have g2 := hg 2 _ rfl
      have g3 := hg 3 _ rfl
      simp [Value.cells, c0] at g0
      simp [Value.cells, c1] at g1
      simp [Value.cells, c2] at g2
      simp [Value.cells, c3] at g3
      have hd : d = .agg [y0.1, y1.1, y2.1, y3.1] := by simpa using (Prod.mk.inj hx).1
      subst hd
      have hw : ∀ n, n ∈ y0.1.weights Tryd.prog 22 → n ≤ reachBytes := by
        intro n hn
        refine hsz n ?_
        simp only [DataW.weights, Tryd.underlying58]
        simp only [DataW.weightsEach, List.map_cons, List.map_nil, List.mem_append]
        exact .inl hn
      obtain ⟨z, a1, a2, a3, a4⟩ := open_u64s g0 hw
      obtain ⟨q0, q1, q2, q3, q4, q5, q6, rfl, rfl, rfl, rfl, rfl, rfl, rfl⟩ := open_seven g1
      obtain ⟨lv, lm, e2, hm, _⟩ := open_labL rfl g2
      obtain ⟨b, e3, _, _⟩ := DataW.trod_int Tryd.underlying3 g3
      simp only [List.cons.injEq, and_true] at e2
      simp at e3
      obtain ⟨rfl, rfl⟩ := e2
      subst e3
      exact ⟨_, q0, q1, q2, q3, q4, q5, q6, lv, lm, b, z, rfl, ⟨a1, a2, a3, a4⟩, hm⟩
end Go.Proofs.YtodhoplchficpaaDoor
/-! SymCaps, walked -/
namespace Go.Proofs.YtodhoplchficpaaDoor
open List renaming getElem_toArray → zA, getElem_cons_succ → zB, getElem_cons_zero → zC, setIfInBounds_toArray → zD, set_cons_zero → zE, set_cons_succ → zF
open Go.RowKit
open SV (Lab SysOk Least labs sumOf mu sumP at' natsL askT askI fanN lok ljoin val le Bnd)
theorem lit_keep {w w' : World} {g k : Nat} {T T' : TypeId} {cs : Array Value} (hg : w.grownBy w' (some g)) (h : w.heap[g]? = some (.cells #[] T)) (hk : w.heap[k]? = some (.cells cs T')) (hne : T ≠ T') : w'.heap[k]? = some (.cells cs T') :=
  (hg.block k (Array.getElem?_eq_some_iff.1 hk).1 (fun e => by cases e; rw [h] at hk; cases hk; exact hne rfl)).trans hk
theorem lab_keep {w w' : World} {g k : Nat} {T T' : TypeId} {cs : Array Value} (hg : w.grownBy w' (some g)) (h : w.heap[g]? = some (.cells #[] T)) (hk : w.heap[k]? = some (.cells cs T')) (hne : 0 < cs.size) : w'.heap[k]? = some (.cells cs T') :=
  (hg.block k (Array.getElem?_eq_some_iff.1 hk).1 (fun e => by cases e; rw [h] at hk; cases hk; exact absurd hne (by simp))).trans hk
theorem nums_src {k : IntKind} {n₀ : Nat} {W : World} {a : Option Addr} {c : Nat} {xs : List Int} (h : Nums k n₀ W (.slice a xs.length c) xs) (hn : a = none → c = 0) : (Value.slice a xs.length c = .slice none 0 0 ∧ xs.length = 0) ∨ ∃ ad c', Value.slice a xs.length c = .slice (some ad) xs.length c' ∧ ∀ j u, (xs.map (Value.int k))[j]? = some u → W.cell? (ad.add j) = some u := by
  rcases h with ⟨⟨a', c', e⟩, h0⟩ | ⟨b, off, cap, e, hb, hl, hcell⟩
  · subst h0
    cases a with
    | none => exact .inl ⟨by rw [hn rfl]; rfl, rfl⟩
    | some ad => exact .inr ⟨ad, c, rfl, fun j u hj => by simp at hj⟩
  · cases e
    refine .inr ⟨⟨b, off, none⟩, _, rfl, fun j u hj => ?_⟩
    rw [List.getElem?_map] at hj
    cases ex : xs[j]? with
    | none => rw [ex] at hj; cases hj
    | some x =>
      rw [ex] at hj
      have hj2 : j < xs.length := (List.getElem?_eq_some_iff.1 ex).1
      have h1 := hcell j hj2
      rw [Addr.add_lit, h1, ex]
      simpa using hj
theorem step_append_anyG {P : Program} {w : World} {ops : Array Oper} {o : Oper} {a : Act} {K : Act → World → Prop} {Q : Exit → Act → World → Prop} {E : Prop} (hg : Region.wanted o (yielded ops a.tmps) = true) (s x : Operand) (t : TypeId)
    (ho : o.op = .call { callee := .builtin .append, args := #[s, x], argTypes := #[t, t] })
    (base : Nat) (e : TypeId) (i : TypeInfo) (z : Value) (size bytes : Nat) (ht : P.underlying t = some (.slice e)) (hi : P.info? e = some i) (hz : i.zero = some z)
    (hsize : i.size = size) (hby : i.bytes = bytes) (hzs : z.cells.size = size) (hsz : 0 < size)
    (v : Value) (n : Nat) (xs : List Value) (hs : a.eval s = v) (hown : w.ownsRow base e size v n xs)
    (xv : Value) (m : Nat) (news : List Value) (hx : a.eval x = xv) (hl : news.length = m * size)
    (hsrc : xv = .slice none 0 0 ∧ m = 0 ∨ ∃ ad c, xv = .slice (some ad) m c ∧ ∀ j u, news[j]? = some u → w.cell? (ad.add j) = some u) (h1 : ∀ u ∈ news, u.oneCell' = true)
    (h63 : n + m ≤ maxLen) (hbytes : (n + m) * bytes ≤ 140737488355328) (hbase : base ≤ w.heap.size)
    (h : ∀ v' w', w'.ownsRow base e size v' (n + m) (xs ++ news) → w.grownBy w' v.ownBlock → K (a.put o.dst v') w') :
    if Region.wanted o (yielded ops a.tmps) = true then Oper.wp P o a w K Q else E := by
  rw [if_pos hg]
  rcases hsrc with ⟨rfl, rfl⟩ | ⟨ad, c, rfl, hn⟩
  · have hn : news = [] := List.eq_nil_of_length_eq_zero (by simpa using hl)
    subst hn
    have hr := run_append_owned_none (P := P) (w := w) base t o.type e i size ht hi v n xs hown
    unfold Oper.wp execOp
    simp only [ho, resolve, invoke, builtin, Sem.run_bind, Sem.run_pure, Result.andThen_ok, List.map_toArray, List.map_cons, List.map_nil, hs, hx, hr]
    exact h v w (by simpa using hown) ⟨rfl, rfl, rfl, Nat.le_refl _, fun _ _ _ => rfl⟩
  · exact wp_append_own w s x t ho base e i z size bytes ht hi hz hsize hby hzs hsz v n xs hs hown ad m c news hx hl hn h1 h63 hbytes hbase (fun v' w' p1 p2 _ => h v' w' p1 p2)
/-- caps in their box -/
def CapsB (W : World) (uv : Value) (c0 c1 c2 c3 c4 c5 c6 a m bd : Int) (V : World) : Prop := Below W.heap.size W V ∧ W.heap.size + 1 ≤ V.heap.size ∧ V.heap[W.heap.size]? = some (.cells #[uv, .int .i64 c0, .int .i64 c1, .int .i64 c2, .int .i64 c3, .int .i64 c4, .int .i64 c5, .int .i64 c6, .int .i64 a, .int .u64 m, .int .i64 bd] 58)
theorem CapsB.on {W U V : World} {uv : Value} {c0 c1 c2 c3 c4 c5 c6 a m bd : Int} (h : CapsB W uv c0 c1 c2 c3 c4 c5 c6 a m bd U) (hb : Below U.heap.size U V) : CapsB W uv c0 c1 c2 c3 c4 c5 c6 a m bd V :=
  ⟨h.1.trans (hb.mono h.1.size), Nat.le_trans h.2.1 hb.size, (hb.block _ (by have := h.2.1; omega)).trans h.2.2⟩
theorem CapsB.drew {W U : World} {uv : Value} {c0 c1 c2 c3 c4 c5 c6 a m bd : Int} (h : CapsB W uv c0 c1 c2 c3 c4 c5 c6 a m bd U) : CapsB W uv c0 c1 c2 c3 c4 c5 c6 a m bd U.drew := ⟨h.1.drew, h.2⟩
theorem CapsB.cells {W V : World} {uv : Value} {c0 c1 c2 c3 c4 c5 c6 a m bd : Int} (h : CapsB W uv c0 c1 c2 c3 c4 c5 c6 a m bd V) : V.cell? ⟨W.heap.size, 0, none⟩ = some (uv) ∧ V.cell? ⟨W.heap.size, 1, none⟩ = some (.int .i64 c0) ∧ V.cell? ⟨W.heap.size, 2, none⟩ = some (.int .i64 c1) ∧ V.cell? ⟨W.heap.size, 3, none⟩ = some (.int .i64 c2) ∧ V.cell? ⟨W.heap.size, 4, none⟩ = some (.int .i64 c3) ∧ V.cell? ⟨W.heap.size, 5, none⟩ = some (.int .i64 c4) ∧ V.cell? ⟨W.heap.size, 6, none⟩ = some (.int .i64 c5) ∧ V.cell? ⟨W.heap.size, 7, none⟩ = some (.int .i64 c6) ∧ V.cell? ⟨W.heap.size, 8, none⟩ = some (.int .i64 a) ∧ V.cell? ⟨W.heap.size, 9, none⟩ = some (.int .u64 m) ∧ V.cell? ⟨W.heap.size, 10, none⟩ = some (.int .i64 bd) := by
  have h3 := h.2.2
  refine ⟨?_, ?_, ?_, ?_, ?_, ?_, ?_, ?_, ?_, ?_, ?_⟩ <;> simp [World.cell?, h3]
theorem capsB_start (W : World) (uv : Value) (c0 c1 c2 c3 c4 c5 c6 a m bd : Int) : CapsB W uv c0 c1 c2 c3 c4 c5 c6 a m bd (W.alloc (.cells #[uv, .int .i64 c0, .int .i64 c1, .int .i64 c2, .int .i64 c3, .int .i64 c4, .int .i64 c5, .int .i64 c6, .int .i64 a, .int .u64 m, .int .i64 bd] 58)) :=
  ⟨(Below.refl _ _).alloc (Nat.le_refl _) _, by simp, heap_alloc_new _ _⟩
theorem CapsB.src {W V : World} {uv : Value} {c0 c1 c2 c3 c4 c5 c6 a m bd : Int} (h : CapsB W uv c0 c1 c2 c3 c4 c5 c6 a m bd V) : (Value.slice (some ⟨W.heap.size, 1, none⟩) 7 7 = .slice none 0 0 ∧ (7 : Nat) = 0) ∨ ∃ ad c', Value.slice (some ⟨W.heap.size, 1, none⟩) 7 7 = .slice (some ad) 7 c' ∧ ∀ j u, (intsV [c0, c1, c2, c3, c4, c5, c6])[j]? = some u → V.cell? (ad.add j) = some u := by
  obtain ⟨_, h0, h1, h2, h3, h4, h5, h6, _⟩ := h.cells
  refine .inr ⟨_, _, rfl, fun j u hj => ?_⟩
  rw [Addr.add_lit]
  match j, hj with
  | 0, hj => cases hj; exact h0
  | 1, hj => cases hj; exact h1
  | 2, hj => cases hj; exact h2
  | 3, hj => cases hj; exact h3
  | 4, hj => cases hj; exact h4
  | 5, hj => cases hj; exact h5
  | 6, hj => cases hj; exact h6
theorem caps_is (xs cs : List Int) (a m bd : Int) : capB xs cs a m bd = (LL.rightB xs && (rfitB xs.length a m 7 && levB xs.length (cs ++ [bd]))) := by
  have e1 : levB xs.length (cs ++ [bd, a]) = (levB xs.length (cs ++ [bd]) && labOk xs.length (a, m)) := by
    rw [show cs ++ [bd, a] = (cs ++ [bd]) ++ [a] by simp, levB_app]
    simp [levB, labOk]
  unfold capB rfitB fitB
  rw [e1, bitsIn_67]
  cases LL.rightB xs <;> cases labOk xs.length (a, m) <;> cases bitsIn m 6 <;> cases levB xs.length (cs ++ [bd]) <;> rfl
set_option maxRecDepth 100000 in
theorem eq_seven (c0 c1 c2 c3 c4 c5 c6 : Int) (h : ∀ c ∈ [c0, c1, c2, c3, c4, c5, c6], (Lit.int .i64 c).wf = true) (w : World) : (Op.equalIn 10000 56 (.agg #[.int .i64 c0, .int .i64 c1, .int .i64 c2, .int .i64 c3, .int .i64 c4, .int .i64 c5, .int .i64 c6]) (.agg #[.int .i64 c0, .int .i64 c1, .int .i64 c2, .int .i64 c3, .int .i64 c4, .int .i64 c5, .int .i64 c6])).run Tryd.prog w = .ok true w := by
  obtain ⟨i0, hi, hz0, hz1, hz2⟩ := info_parts Tryd.infoInt
  have hp : Tryd.prog.plainKey 3 = true := by kernel_rfl
  have hk : ∀ c ∈ [c0, c1, c2, c3, c4, c5, c6], Tryd.prog.keyLits 1 3 [.int .i64 c] = some [.int .i64 c] := fun c hc => by simp [Program.keyLits, Tryd.underlying3, h c hc]
  have hc : Tryd.prog.cellsOf 3 = 1 := by kernel_rfl
  rw [run_equalIn_array (P := Tryd.prog) w 9999 _ _ Tryd.underlying56 hi]
  have hm : (List.range 7).mapM (fun i => Tryd.prog.keyLits 1 3 (((#[.int .i64 c0, .int .i64 c1, .int .i64 c2, .int .i64 c3, .int .i64 c4, .int .i64 c5, .int .i64 c6] : Array Value).toList.drop (i * Tryd.prog.cellsOf 3)).take (Tryd.prog.cellsOf 3))) = some [[.int .i64 c0], [.int .i64 c1], [.int .i64 c2], [.int .i64 c3], [.int .i64 c4], [.int .i64 c5], [.int .i64 c6]] := by
    rw [hc, show List.range 7 = [0, 1, 2, 3, 4, 5, 6] from rfl]
    simp [hk c0 (by simp), hk c1 (by simp), hk c2 (by simp), hk c3 (by simp), hk c4 (by simp), hk c5 (by simp), hk c6 (by simp)]
  obtain ⟨r, hr, he⟩ := run_eqItems_plain (P := Tryd.prog) w 9998 hp _ _ _ _ _ hm hm
  rw [hr, he.2 rfl]
set_option maxRecDepth 100000 in
set_option maxHeartbeats 12800000 in
theorem symCaps_walk {ua : Option Addr} {uc : Nat} {xs : List Int} {a m bd c0 c1 c2 c3 c4 c5 c6 : Int} (W : World) (hu : Nums .u64 W.heap.size W (.slice ua xs.length uc) xs) (hun : ua = none → uc = 0) (hx : Wide xs) (hxl : xs.length ≤ big5) (hT : Tz W) (hm : 0 ≤ m ∧ m ≤ 18446744073709551615) :
    Calls Tryd.prog 7 #[.agg #[.slice ua xs.length uc, .int .i64 c0, .int .i64 c1, .int .i64 c2, .int .i64 c3, .int .i64 c4, .int .i64 c5, .int .i64 c6, .int .i64 a, .int .u64 m, .int .i64 bd]] W fun e V => e = .returned (.bool true) ∧ Below W.heap.size W V := by
  obtain ⟨i0, hi0, hz0, hz1, hz2⟩ := info_parts Tryd.infoU64
  obtain ⟨j0, hj0, hw0, hw1, hw2⟩ := info_parts Tryd.infoGInt
  have HU := Lib.hid hu
  have HNN := Lib.hid hun
  have HX := Lib.hid hx
  have HM := Lib.hid hm
  have HAW := Lib.hid (fun w (hb : Below W.heap.size W w) => awake19_any w (hT.on hb))
  have HBIG := Lib.hid hxl
  have HJ := Lib.hid (fun w (hb : Below W.heap.size W w) {va : Option Addr} {vc : Nat} (hv : Nums .u64 w.heap.size w (.slice va xs.length vc) xs) => scap_any (cs := [c0, c1, c2, c3, c4, c5, c6]) (a := a) (m := m) (bd := bd) w hv hx hxl (hT.on hb) rfl hm)
  have b0 : (xs.length : Int) ≤ 17592186044416 := by have := hxl; unfold big5 at this; omega
  have b9 : xs.length ≤ 9223372036854775807 := by omega
  have HS0 := Lib.hid (capsB_start W (.slice ua xs.length uc) c0 c1 c2 c3 c4 c5 c6 a m bd)
  obtain ⟨W0, eW0⟩ : ∃ W0, W0 = W.alloc (.cells #[.slice ua xs.length uc, .int .i64 c0, .int .i64 c1, .int .i64 c2, .int .i64 c3, .int .i64 c4, .int .i64 c5, .int .i64 c6, .int .i64 a, .int .u64 m, .int .i64 bd] 58) := ⟨_, rfl⟩
  rw [← eW0] at HS0
  obtain ⟨hc0, hc1, hc2, hc3, hc4, hc5, hc6, hc7, hc8, hc9, hc10⟩ := HS0.out.cells
  clear hu hun hx hxl hT hm
  by_cases h20 : (20 : Int) < xs.length
  · have j20 : decide ((xs.length : Int) > 20) = true := decide_eq_true h20
    have k20 : decide ((20 : Int) < xs.length) = true := decide_eq_true h20
    go_enter Tryd.func7, Tryd.ntmps7
    go_upto_region 1 with fail
    rw [← eW0]
    clear eW0
    go_wp2_with fail
    go_ret
    exact ⟨rfl, HS0.out.1⟩
  have j20 : decide ((xs.length : Int) > 20) = false := decide_eq_false h20
  have k20 : decide ((20 : Int) < xs.length) = false := decide_eq_false h20
  obtain ⟨z, ez⟩ : ∃ z, z = capB xs [c0, c1, c2, c3, c4, c5, c6] a m bd := ⟨_, rfl⟩
  obtain ⟨d0, d1, d2, d3, d4, d5, d6, eL⟩ := seven (show (if z = true then capF xs bd [c0, c1, c2, c3, c4, c5, c6] (MM.bitsOf m) else zero7).length = 7 by split; exact capF_len _; rfl)
  have HL := Lib.hid eL
  have HZ := Lib.hid ez
  have HJR := Lib.hid (show capRet (capB xs [c0, c1, c2, c3, c4, c5, c6] a m bd) (capF xs bd [c0, c1, c2, c3, c4, c5, c6] (MM.bitsOf m)) = .tuple #[.agg #[.int .i64 d0, .int .i64 d1, .int .i64 d2, .int .i64 d3, .int .i64 d4, .int .i64 d5, .int .i64 d6], .bool z] by unfold capRet; rw [← ez, eL]; rfl)
  go_enter Tryd.func7, Tryd.ntmps7
  go_upto_region 1 with fail
  rw [← eW0]
  clear eW0 ez eL
  go_upto_region 3 with fail
  clear j20 k20 h20
  go_cut [3, 4] from 9 (fun s3 s4 w9 => ∃ lb : Nat, s3 = .pointer (some ⟨lb, 0, none⟩) ∧ s4 = .bool z ∧ CapsB W (.slice ua xs.length uc) c0 c1 c2 c3 c4 c5 c6 a m bd w9 ∧ w9.heap[lb]? = some (.cells #[.int .i64 d0, .int .i64 d1, .int .i64 d2, .int .i64 d3, .int .i64 d4, .int .i64 d5, .int .i64 d6] 56) ∧ W.heap.size + 1 ≤ lb)
  case first =>
    have HX0 := Lib.hid HS0.out.drew
    refine wp_region_held_drew (S := (fun V => V.cell? ⟨W.heap.size, 0, none⟩ = some (.slice ua xs.length uc) ∧ V.cell? ⟨W.heap.size, 1, none⟩ = some (.int .i64 c0) ∧ V.cell? ⟨W.heap.size, 2, none⟩ = some (.int .i64 c1) ∧ V.cell? ⟨W.heap.size, 3, none⟩ = some (.int .i64 c2) ∧ V.cell? ⟨W.heap.size, 4, none⟩ = some (.int .i64 c3) ∧ V.cell? ⟨W.heap.size, 5, none⟩ = some (.int .i64 c4) ∧ V.cell? ⟨W.heap.size, 6, none⟩ = some (.int .i64 c5) ∧ V.cell? ⟨W.heap.size, 7, none⟩ = some (.int .i64 c6) ∧ V.cell? ⟨W.heap.size, 8, none⟩ = some (.int .i64 a) ∧ V.cell? ⟨W.heap.size, 9, none⟩ = some (.int .u64 m) ∧ V.cell? ⟨W.heap.size, 10, none⟩ = some (.int .i64 bd))) (by kernel_rfl) ?_ (fun hHeld => ?_)
    · exact HX0.out.cells
    clear hc0 hc1 hc2 hc3 hc4 hc5 hc6 hc7 hc8 hc9 hc10
    generalize W0.drew = w0 at HX0 hHeld ⊢
    have HR0 := Lib.hid (Below.refl w0.heap.size w0)
    refine wpAnyH_take (i := 1) (v := .pointer (some ⟨W.heap.size, 0, none⟩)) rfl (by kernel_rfl) (by kernel_rfl) (by kernel_rfl) (fun _ _ _ h => h) (Or.inl ⟨by rfl, fun W hSW => ?_⟩) hHeld ?_
    · ((try dsimp only at hSW); go_split_ands; go_simp <;> with_reducible rfl)
    try simp only [zA, zB, zC, Act.put, zD, zE, zF]
    refine wpAnyH_take (i := 2) (v := .slice ua xs.length uc) rfl (by kernel_rfl) (by kernel_rfl) (by kernel_rfl) (fun _ _ _ h => h) (Or.inl ⟨by rfl, fun W hSW => ?_⟩) hHeld ?_
    · ((try dsimp only at hSW); go_split_ands; go_simp <;> with_reducible rfl)
    try simp only [zA, zB, zC, Act.put, zD, zE, zF]
    refine wpAnyH_take (i := 4) (v := .pointer (some ⟨W.heap.size, 1, none⟩)) rfl (by kernel_rfl) (by kernel_rfl) (by kernel_rfl) (fun _ _ _ h => h) (Or.inl ⟨by rfl, fun W hSW => ?_⟩) hHeld ?_
    · ((try dsimp only at hSW); go_split_ands; go_simp <;> with_reducible rfl)
    try simp only [zA, zB, zC, Act.put, zD, zE, zF]
    refine wpAnyH_take (i := 5) (v := .agg #[.int .i64 c0, .int .i64 c1, .int .i64 c2, .int .i64 c3, .int .i64 c4, .int .i64 c5, .int .i64 c6]) rfl (by kernel_rfl) (by kernel_rfl) (by kernel_rfl) (fun _ _ _ h => h) (Or.inl ⟨by rfl, fun W hSW => ?_⟩) hHeld ?_
    · ((try dsimp only at hSW); go_split_ands; go_simp <;> with_reducible rfl)
    try simp only [zA, zB, zC, Act.put, zD, zE, zF]
    refine wpAnyH_take (i := 6) (v := .pointer (some ⟨W.heap.size, 8, none⟩)) rfl (by kernel_rfl) (by kernel_rfl) (by kernel_rfl) (fun _ _ _ h => h) (Or.inl ⟨by rfl, fun W hSW => ?_⟩) hHeld ?_
    · ((try dsimp only at hSW); go_split_ands; go_simp <;> with_reducible rfl)
    try simp only [zA, zB, zC, Act.put, zD, zE, zF]
    refine wpAnyH_take (i := 7) (v := .agg #[.int .i64 a, .int .u64 m]) rfl (by kernel_rfl) (by kernel_rfl) (by kernel_rfl) (fun _ _ _ h => h) (Or.inl ⟨by rfl, fun W hSW => ?_⟩) hHeld ?_
    · ((try dsimp only at hSW); go_split_ands; go_simp <;> with_reducible rfl)
    try simp only [zA, zB, zC, Act.put, zD, zE, zF]
    refine wpAnyH_take (i := 8) (v := .pointer (some ⟨W.heap.size, 10, none⟩)) rfl (by kernel_rfl) (by kernel_rfl) (by kernel_rfl) (fun _ _ _ h => h) (Or.inl ⟨by rfl, fun W hSW => ?_⟩) hHeld ?_
    · ((try dsimp only at hSW); go_split_ands; go_simp <;> with_reducible rfl)
    try simp only [zA, zB, zC, Act.put, zD, zE, zF]
    refine wpAnyH_take (i := 9) (v := .int .i64 bd) rfl (by kernel_rfl) (by kernel_rfl) (by kernel_rfl) (fun _ _ _ h => h) (Or.inl ⟨by rfl, fun W hSW => ?_⟩) hHeld ?_
    · ((try dsimp only at hSW); go_split_ands; go_simp <;> with_reducible rfl)
    try simp only [zA, zB, zC, Act.put, zD, zE, zF]
    refine wpAnyH_ready (rs := [0, 14]) (by kernel_rfl) (by simp) ?_
    refine AllReadyH.cons rfl (fun K hK => ?_) ?_
    · try simp only [zA, zB, zC]
      go_simp
      obtain ⟨wy1, ey⟩ : ∃ y, y = w0.alloc (.cells #[] 36) := ⟨_, rfl⟩
      rw [← ey]
      have hb : Below w0.heap.size w0 wy1 := by rw [ey]; exact (Below.refl _ _).alloc (Nat.le_refl _) _
      have F1_base := Lib.hid (HR0.out.trans (hb.mono HR0.out.size))
      have F1_lu := Lib.hid (show wy1.heap[w0.heap.size]? = some (.cells #[] 36) by rw [ey]; exact heap_alloc_new _ _)
      have G1_lu := Lib.hid (show w0.heap.size ≤ w0.heap.size from HR0.out.size)
      clear ey hb
      refine hK.out _ _ ?_ (fun hHeld => ?_)
      · exact (HX0.out.on F1_base.out).cells
      clear hK K
      try simp only [zA, zB, zC, Act.put, zD, zE, zF]
      refine wpAnyH_ready (rs := [3, 14]) (by kernel_rfl) (by simp) ?_
      refine AllReadyH.cons rfl (fun K hK => ?_) ?_
      · refine step_append_anyS rfl (.tmp 10) (.tmp 12) 22 rfl w0.heap.size 36 i0 (.int .u64 0) 1 8 Tryd.underlying22 hi0 hz0 hz1 hz2 rfl (by decide) (.slice (some ⟨w0.heap.size, 0, none⟩) 0 0) 0 [] (by rfl) (lit_rowS F1_lu.out G1_lu.out) (.slice ua xs.length uc) xs.length (xs.map (Value.int .u64)) (by rfl) (by simp) (nums_src ((HU.out.below (HX0.out.on F1_base.out).1).mono (HX0.out.on F1_base.out).1.size) HNN.out) (by intro u hu; obtain ⟨x, _, rfl⟩ := List.mem_map.1 hu; rfl) (by unfold maxLen; omega) (by omega) F1_base.out.size ?_
        intro vup wy2 ho hg
        have F2_base := Lib.hid (F1_base.out.grown hg F1_base.out.size (fun k e => by cases e; exact G1_lu.out))
        have F2_up := Lib.hid (own0S ho)
        obtain ⟨aup, cup, rfl⟩ := SS.ownOf F2_up.out
        clear ho hg
        refine hK.out _ _ ?_ (fun hHeld => ?_)
        · exact (HX0.out.on F2_base.out).cells
        clear hK K
        try simp only [zA, zB, zC, Act.put, zD, zE, zF]
        refine wpAnyH_ready (rs := [10, 14]) (by kernel_rfl) (by simp) ?_
        refine AllReadyH.cons rfl (fun K hK => ?_) ?_
        · try simp only [zA, zB, zC]
          go_simp
          (go_at_call 29; refine (HJ.out wy2 (HX0.out.on F2_base.out).1 (nums_of_row F2_up.out)).mono ?_; rintro e wy3 ⟨rfl, hb⟩; rw [HJR.out])
          have F3_base := Lib.hid (F2_base.out.trans (hb.mono F2_base.out.size))
          have F3_up := Lib.hid (SS.own_of_block F2_up.out (fun k e => hb.block k (F2_up.out.lt k e).2))
          clear hb
          try go_wp2_with fail
          refine hK.out _ _ ?_ (fun hHeld => ?_)
          · exact (HX0.out.on F3_base.out).cells
          clear hK K
          try simp only [zA, zB, zC, Act.put, zD, zE, zF]
          refine wpAnyH_take (i := 11) (v := .tuple #[.agg #[.int .i64 d0, .int .i64 d1, .int .i64 d2, .int .i64 d3, .int .i64 d4, .int .i64 d5, .int .i64 d6], .bool z]) rfl (by kernel_rfl) (by kernel_rfl) (by kernel_rfl) (fun _ _ _ h => h) (Or.inl ⟨by rfl, fun W hSW => ?_⟩) hHeld ?_
          · ((try dsimp only at hSW); go_split_ands; go_simp <;> with_reducible rfl)
          try simp only [zA, zB, zC, Act.put, zD, zE, zF]
          refine wpAnyH_take (i := 12) (v := .agg #[.int .i64 d0, .int .i64 d1, .int .i64 d2, .int .i64 d3, .int .i64 d4, .int .i64 d5, .int .i64 d6]) rfl (by kernel_rfl) (by kernel_rfl) (by kernel_rfl) (fun _ _ _ h => h) (Or.inl ⟨by rfl, fun W hSW => ?_⟩) hHeld ?_
          · ((try dsimp only at hSW); go_split_ands; go_simp <;> with_reducible rfl)
          try simp only [zA, zB, zC, Act.put, zD, zE, zF]
          refine wpAnyH_take (i := 13) (v := .bool z) rfl (by kernel_rfl) (by kernel_rfl) (by kernel_rfl) (fun _ _ _ h => h) (Or.inl ⟨by rfl, fun W hSW => ?_⟩) hHeld ?_
          · ((try dsimp only at hSW); go_split_ands; go_simp <;> with_reducible rfl)
          try simp only [zA, zB, zC, Act.put, zD, zE, zF]
          refine wpAnyH_ready (rs := [14]) (by kernel_rfl) (by simp) ?_
          refine AllReadyH.cons rfl (fun K hK => ?_) AllReadyH.nil
          try simp only [zA, zB, zC]
          go_simp
          obtain ⟨wy4, ey⟩ : ∃ y, y = wy3.alloc (.cells #[.int .i64 0, .int .i64 0, .int .i64 0, .int .i64 0, .int .i64 0, .int .i64 0, .int .i64 0] 56) := ⟨_, rfl⟩
          rw [← ey]
          have hb : Below wy3.heap.size wy3 wy4 := by rw [ey]; exact (Below.refl _ _).alloc (Nat.le_refl _) _
          have F4_base := Lib.hid (F3_base.out.trans (hb.mono F3_base.out.size))
          have F4_up := Lib.hid (SS.own_of_block F3_up.out (fun k e => hb.block k (F3_up.out.lt k e).2))
          have F4_lab := Lib.hid (show wy4.heap[wy3.heap.size]? = some (.cells #[.int .i64 0, .int .i64 0, .int .i64 0, .int .i64 0, .int .i64 0, .int .i64 0, .int .i64 0] 56) by rw [ey]; exact heap_alloc_new _ _)
          have G4_lab := Lib.hid (show w0.heap.size ≤ wy3.heap.size from F3_base.out.size)
          clear ey hb
          refine hK.out _ _ ?_ (fun hHeld => ?_)
          · exact (HX0.out.on F4_base.out).cells
          clear hK K
          try simp only [zA, zB, zC, Act.put, zD, zE, zF]
          refine wpAnyH_ready (rs := [15]) (by kernel_rfl) (by simp) ?_
          refine AllReadyH.cons rfl (fun K hK => ?_) AllReadyH.nil
          obtain ⟨⟨_, _, _, _, _, _, _⟩, _, _, _, _, _, _, _⟩ := one7 F4_lab.out
          try simp only [zA, zB, zC]
          go_simp
          have hs := set7_obj F4_lab.out (.int .i64 d0) (.int .i64 d1) (.int .i64 d2) (.int .i64 d3) (.int .i64 d4) (.int .i64 d5) (.int .i64 d6)
          have hbs := set7_below F4_base.out G4_lab.out (.int .i64 d0) (.int .i64 d1) (.int .i64 d2) (.int .i64 d3) (.int .i64 d4) (.int .i64 d5) (.int .i64 d6)
          unfold set7 at hs hbs
          generalize ((((((wy4.setCell ⟨wy3.heap.size, 0, none⟩ (.int .i64 d0)).setCell ⟨wy3.heap.size, 1, none⟩ (.int .i64 d1)).setCell ⟨wy3.heap.size, 2, none⟩ (.int .i64 d2)).setCell ⟨wy3.heap.size, 3, none⟩ (.int .i64 d3)).setCell ⟨wy3.heap.size, 4, none⟩ (.int .i64 d4)).setCell ⟨wy3.heap.size, 5, none⟩ (.int .i64 d5)).setCell ⟨wy3.heap.size, 6, none⟩ (.int .i64 d6) = wy5 at hs hbs ⊢
          have F5_base := Lib.hid hbs
          have F5_lab := Lib.hid hs
          clear hs hbs
          refine hK.out _ _ ?_ (fun hHeld => ?_)
          · exact (HX0.out.on F5_base.out).cells
          clear hK K
          try simp only [zA, zB, zC, Act.put, zD, zE, zF]
          refine wpAnyH_take (i := 16) (v := .bool z) rfl (by kernel_rfl) (by kernel_rfl) (by kernel_rfl) (fun _ _ _ h => h) (Or.inl ⟨by rfl, fun W hSW => ?_⟩) hHeld ?_
          · ((try dsimp only at hSW); go_split_ands; go_simp <;> with_reducible rfl)
          try simp only [zA, zB, zC, Act.put, zD, zE, zF]
          refine wpAnyH_done (by kernel_rfl) ?_ _
          clear hHeld
          go_wp2_with fail
          go_meet
          case rel => exact ⟨_, rfl, rfl, (HX0.out.on F5_base.out), F5_lab.out, Nat.le_trans HX0.out.2.1 G4_lab.out⟩
        refine AllReadyH.cons rfl (fun K hK => ?_) ?_
        · try simp only [zA, zB, zC]
          go_simp
          obtain ⟨wy3, ey⟩ : ∃ y, y = wy2.alloc (.cells #[.int .i64 0, .int .i64 0, .int .i64 0, .int .i64 0, .int .i64 0, .int .i64 0, .int .i64 0] 56) := ⟨_, rfl⟩
          rw [← ey]
          have hb : Below wy2.heap.size wy2 wy3 := by rw [ey]; exact (Below.refl _ _).alloc (Nat.le_refl _) _
          have F3_base := Lib.hid (F2_base.out.trans (hb.mono F2_base.out.size))
          have F3_up := Lib.hid (SS.own_of_block F2_up.out (fun k e => hb.block k (F2_up.out.lt k e).2))
          have F3_lab := Lib.hid (show wy3.heap[wy2.heap.size]? = some (.cells #[.int .i64 0, .int .i64 0, .int .i64 0, .int .i64 0, .int .i64 0, .int .i64 0, .int .i64 0] 56) by rw [ey]; exact heap_alloc_new _ _)
          have G3_lab := Lib.hid (show w0.heap.size ≤ wy2.heap.size from F2_base.out.size)
          clear ey hb
          refine hK.out _ _ ?_ (fun hHeld => ?_)
          · exact (HX0.out.on F3_base.out).cells
          clear hK K
          try simp only [zA, zB, zC, Act.put, zD, zE, zF]
          refine wpAnyH_ready (rs := [10]) (by kernel_rfl) (by simp) ?_
          refine AllReadyH.cons rfl (fun K hK => ?_) AllReadyH.nil
          try simp only [zA, zB, zC]
          go_simp
          (go_at_call 29; refine (HJ.out wy3 (HX0.out.on F3_base.out).1 (nums_of_row F3_up.out)).mono ?_; rintro e wy4 ⟨rfl, hb⟩; rw [HJR.out])
          have F4_base := Lib.hid (F3_base.out.trans (hb.mono F3_base.out.size))
          have F4_up := Lib.hid (SS.own_of_block F3_up.out (fun k e => hb.block k (F3_up.out.lt k e).2))
          have F4_lab := Lib.hid ((hb.block _ (Array.getElem?_eq_some_iff.1 F3_lab.out).1).trans F3_lab.out)
          have F4_ge_lab := Lib.hid (G3_lab.out)
          clear hb
          try go_wp2_with fail
          refine hK.out _ _ ?_ (fun hHeld => ?_)
          · exact (HX0.out.on F4_base.out).cells
          clear hK K
          try simp only [zA, zB, zC, Act.put, zD, zE, zF]
          refine wpAnyH_take (i := 11) (v := .tuple #[.agg #[.int .i64 d0, .int .i64 d1, .int .i64 d2, .int .i64 d3, .int .i64 d4, .int .i64 d5, .int .i64 d6], .bool z]) rfl (by kernel_rfl) (by kernel_rfl) (by kernel_rfl) (fun _ _ _ h => h) (Or.inl ⟨by rfl, fun W hSW => ?_⟩) hHeld ?_
          · ((try dsimp only at hSW); go_split_ands; go_simp <;> with_reducible rfl)
          try simp only [zA, zB, zC, Act.put, zD, zE, zF]
          refine wpAnyH_take (i := 12) (v := .agg #[.int .i64 d0, .int .i64 d1, .int .i64 d2, .int .i64 d3, .int .i64 d4, .int .i64 d5, .int .i64 d6]) rfl (by kernel_rfl) (by kernel_rfl) (by kernel_rfl) (fun _ _ _ h => h) (Or.inl ⟨by rfl, fun W hSW => ?_⟩) hHeld ?_
          · ((try dsimp only at hSW); go_split_ands; go_simp <;> with_reducible rfl)
          try simp only [zA, zB, zC, Act.put, zD, zE, zF]
          refine wpAnyH_take (i := 13) (v := .bool z) rfl (by kernel_rfl) (by kernel_rfl) (by kernel_rfl) (fun _ _ _ h => h) (Or.inl ⟨by rfl, fun W hSW => ?_⟩) hHeld ?_
          · ((try dsimp only at hSW); go_split_ands; go_simp <;> with_reducible rfl)
          try simp only [zA, zB, zC, Act.put, zD, zE, zF]
          refine wpAnyH_ready (rs := [15]) (by kernel_rfl) (by simp) ?_
          refine AllReadyH.cons rfl (fun K hK => ?_) AllReadyH.nil
          obtain ⟨⟨_, _, _, _, _, _, _⟩, _, _, _, _, _, _, _⟩ := one7 F4_lab.out
          try simp only [zA, zB, zC]
          go_simp
          have hs := set7_obj F4_lab.out (.int .i64 d0) (.int .i64 d1) (.int .i64 d2) (.int .i64 d3) (.int .i64 d4) (.int .i64 d5) (.int .i64 d6)
          have hbs := set7_below F4_base.out F4_ge_lab.out (.int .i64 d0) (.int .i64 d1) (.int .i64 d2) (.int .i64 d3) (.int .i64 d4) (.int .i64 d5) (.int .i64 d6)
          unfold set7 at hs hbs
          generalize ((((((wy4.setCell ⟨wy2.heap.size, 0, none⟩ (.int .i64 d0)).setCell ⟨wy2.heap.size, 1, none⟩ (.int .i64 d1)).setCell ⟨wy2.heap.size, 2, none⟩ (.int .i64 d2)).setCell ⟨wy2.heap.size, 3, none⟩ (.int .i64 d3)).setCell ⟨wy2.heap.size, 4, none⟩ (.int .i64 d4)).setCell ⟨wy2.heap.size, 5, none⟩ (.int .i64 d5)).setCell ⟨wy2.heap.size, 6, none⟩ (.int .i64 d6) = wy5 at hs hbs ⊢
          have F5_base := Lib.hid hbs
          have F5_lab := Lib.hid hs
          clear hs hbs
          refine hK.out _ _ ?_ (fun hHeld => ?_)
          · exact (HX0.out.on F5_base.out).cells
          clear hK K
          try simp only [zA, zB, zC, Act.put, zD, zE, zF]
          refine wpAnyH_take (i := 16) (v := .bool z) rfl (by kernel_rfl) (by kernel_rfl) (by kernel_rfl) (fun _ _ _ h => h) (Or.inl ⟨by rfl, fun W hSW => ?_⟩) hHeld ?_
          · ((try dsimp only at hSW); go_split_ands; go_simp <;> with_reducible rfl)
          try simp only [zA, zB, zC, Act.put, zD, zE, zF]
          refine wpAnyH_done (by kernel_rfl) ?_ _
          clear hHeld
          go_wp2_with fail
          go_meet
          case rel => exact ⟨_, rfl, rfl, (HX0.out.on F5_base.out), F5_lab.out, Nat.le_trans HX0.out.2.1 F4_ge_lab.out⟩
        exact AllReadyH.nil
      refine AllReadyH.cons rfl (fun K hK => ?_) ?_
      · try simp only [zA, zB, zC]
        go_simp
        obtain ⟨wy2, ey⟩ : ∃ y, y = wy1.alloc (.cells #[.int .i64 0, .int .i64 0, .int .i64 0, .int .i64 0, .int .i64 0, .int .i64 0, .int .i64 0] 56) := ⟨_, rfl⟩
        rw [← ey]
        have hb : Below wy1.heap.size wy1 wy2 := by rw [ey]; exact (Below.refl _ _).alloc (Nat.le_refl _) _
        have F2_base := Lib.hid (F1_base.out.trans (hb.mono F1_base.out.size))
        have F2_lu := Lib.hid ((hb.block _ (Array.getElem?_eq_some_iff.1 F1_lu.out).1).trans F1_lu.out)
        have F2_ge_lu := Lib.hid (G1_lu.out)
        have F2_lab := Lib.hid (show wy2.heap[wy1.heap.size]? = some (.cells #[.int .i64 0, .int .i64 0, .int .i64 0, .int .i64 0, .int .i64 0, .int .i64 0, .int .i64 0] 56) by rw [ey]; exact heap_alloc_new _ _)
        have G2_lab := Lib.hid (show w0.heap.size ≤ wy1.heap.size from F1_base.out.size)
        clear ey hb
        refine hK.out _ _ ?_ (fun hHeld => ?_)
        · exact (HX0.out.on F2_base.out).cells
        clear hK K
        try simp only [zA, zB, zC, Act.put, zD, zE, zF]
        refine wpAnyH_ready (rs := [3]) (by kernel_rfl) (by simp) ?_
        refine AllReadyH.cons rfl (fun K hK => ?_) AllReadyH.nil
        refine step_append_anyS rfl (.tmp 10) (.tmp 12) 22 rfl w0.heap.size 36 i0 (.int .u64 0) 1 8 Tryd.underlying22 hi0 hz0 hz1 hz2 rfl (by decide) (.slice (some ⟨w0.heap.size, 0, none⟩) 0 0) 0 [] (by rfl) (lit_rowS F2_lu.out F2_ge_lu.out) (.slice ua xs.length uc) xs.length (xs.map (Value.int .u64)) (by rfl) (by simp) (nums_src ((HU.out.below (HX0.out.on F2_base.out).1).mono (HX0.out.on F2_base.out).1.size) HNN.out) (by intro u hu; obtain ⟨x, _, rfl⟩ := List.mem_map.1 hu; rfl) (by unfold maxLen; omega) (by omega) F2_base.out.size ?_
        intro vup wy3 ho hg
        have F3_base := Lib.hid (F2_base.out.grown hg F2_base.out.size (fun k e => by cases e; exact F2_ge_lu.out))
        have F3_lab := Lib.hid (lab_keep hg F2_lu.out F2_lab.out (by simp))
        have F3_ge_lab := Lib.hid (G2_lab.out)
        have F3_up := Lib.hid (own0S ho)
        obtain ⟨aup, cup, rfl⟩ := SS.ownOf F3_up.out
        clear ho hg
        refine hK.out _ _ ?_ (fun hHeld => ?_)
        · exact (HX0.out.on F3_base.out).cells
        clear hK K
        try simp only [zA, zB, zC, Act.put, zD, zE, zF]
        refine wpAnyH_ready (rs := [10]) (by kernel_rfl) (by simp) ?_
        refine AllReadyH.cons rfl (fun K hK => ?_) AllReadyH.nil
        try simp only [zA, zB, zC]
        go_simp
        (go_at_call 29; refine (HJ.out wy3 (HX0.out.on F3_base.out).1 (nums_of_row F3_up.out)).mono ?_; rintro e wy4 ⟨rfl, hb⟩; rw [HJR.out])
        have F4_base := Lib.hid (F3_base.out.trans (hb.mono F3_base.out.size))
        have F4_lab := Lib.hid ((hb.block _ (Array.getElem?_eq_some_iff.1 F3_lab.out).1).trans F3_lab.out)
        have F4_ge_lab := Lib.hid (F3_ge_lab.out)
        have F4_up := Lib.hid (SS.own_of_block F3_up.out (fun k e => hb.block k (F3_up.out.lt k e).2))
        clear hb
        try go_wp2_with fail
        refine hK.out _ _ ?_ (fun hHeld => ?_)
        · exact (HX0.out.on F4_base.out).cells
        clear hK K
        try simp only [zA, zB, zC, Act.put, zD, zE, zF]
        refine wpAnyH_take (i := 11) (v := .tuple #[.agg #[.int .i64 d0, .int .i64 d1, .int .i64 d2, .int .i64 d3, .int .i64 d4, .int .i64 d5, .int .i64 d6], .bool z]) rfl (by kernel_rfl) (by kernel_rfl) (by kernel_rfl) (fun _ _ _ h => h) (Or.inl ⟨by rfl, fun W hSW => ?_⟩) hHeld ?_
        · ((try dsimp only at hSW); go_split_ands; go_simp <;> with_reducible rfl)
        try simp only [zA, zB, zC, Act.put, zD, zE, zF]
        refine wpAnyH_take (i := 12) (v := .agg #[.int .i64 d0, .int .i64 d1, .int .i64 d2, .int .i64 d3, .int .i64 d4, .int .i64 d5, .int .i64 d6]) rfl (by kernel_rfl) (by kernel_rfl) (by kernel_rfl) (fun _ _ _ h => h) (Or.inl ⟨by rfl, fun W hSW => ?_⟩) hHeld ?_
        · ((try dsimp only at hSW); go_split_ands; go_simp <;> with_reducible rfl)
        try simp only [zA, zB, zC, Act.put, zD, zE, zF]
        refine wpAnyH_take (i := 13) (v := .bool z) rfl (by kernel_rfl) (by kernel_rfl) (by kernel_rfl) (fun _ _ _ h => h) (Or.inl ⟨by rfl, fun W hSW => ?_⟩) hHeld ?_
        · ((try dsimp only at hSW); go_split_ands; go_simp <;> with_reducible rfl)
        try simp only [zA, zB, zC, Act.put, zD, zE, zF]
        refine wpAnyH_ready (rs := [15]) (by kernel_rfl) (by simp) ?_
        refine AllReadyH.cons rfl (fun K hK => ?_) AllReadyH.nil
        obtain ⟨⟨_, _, _, _, _, _, _⟩, _, _, _, _, _, _, _⟩ := one7 F4_lab.out
        try simp only [zA, zB, zC]
        go_simp
        have hs := set7_obj F4_lab.out (.int .i64 d0) (.int .i64 d1) (.int .i64 d2) (.int .i64 d3) (.int .i64 d4) (.int .i64 d5) (.int .i64 d6)
        have hbs := set7_below F4_base.out F4_ge_lab.out (.int .i64 d0) (.int .i64 d1) (.int .i64 d2) (.int .i64 d3) (.int .i64 d4) (.int .i64 d5) (.int .i64 d6)
        unfold set7 at hs hbs
        generalize ((((((wy4.setCell ⟨wy1.heap.size, 0, none⟩ (.int .i64 d0)).setCell ⟨wy1.heap.size, 1, none⟩ (.int .i64 d1)).setCell ⟨wy1.heap.size, 2, none⟩ (.int .i64 d2)).setCell ⟨wy1.heap.size, 3, none⟩ (.int .i64 d3)).setCell ⟨wy1.heap.size, 4, none⟩ (.int .i64 d4)).setCell ⟨wy1.heap.size, 5, none⟩ (.int .i64 d5)).setCell ⟨wy1.heap.size, 6, none⟩ (.int .i64 d6) = wy5 at hs hbs ⊢
        have F5_base := Lib.hid hbs
        have F5_lab := Lib.hid hs
        clear hs hbs
        refine hK.out _ _ ?_ (fun hHeld => ?_)
        · exact (HX0.out.on F5_base.out).cells
        clear hK K
        try simp only [zA, zB, zC, Act.put, zD, zE, zF]
        refine wpAnyH_take (i := 16) (v := .bool z) rfl (by kernel_rfl) (by kernel_rfl) (by kernel_rfl) (fun _ _ _ h => h) (Or.inl ⟨by rfl, fun W hSW => ?_⟩) hHeld ?_
        · ((try dsimp only at hSW); go_split_ands; go_simp <;> with_reducible rfl)
        try simp only [zA, zB, zC, Act.put, zD, zE, zF]
        refine wpAnyH_done (by kernel_rfl) ?_ _
        clear hHeld
        go_wp2_with fail
        go_meet
        case rel => exact ⟨_, rfl, rfl, (HX0.out.on F5_base.out), F5_lab.out, Nat.le_trans HX0.out.2.1 F4_ge_lab.out⟩
      exact AllReadyH.nil
    refine AllReadyH.cons rfl (fun K hK => ?_) ?_
    · try simp only [zA, zB, zC]
      go_simp
      obtain ⟨wy1, ey⟩ : ∃ y, y = w0.alloc (.cells #[.int .i64 0, .int .i64 0, .int .i64 0, .int .i64 0, .int .i64 0, .int .i64 0, .int .i64 0] 56) := ⟨_, rfl⟩
      rw [← ey]
      have hb : Below w0.heap.size w0 wy1 := by rw [ey]; exact (Below.refl _ _).alloc (Nat.le_refl _) _
      have F1_base := Lib.hid (HR0.out.trans (hb.mono HR0.out.size))
      have F1_lab := Lib.hid (show wy1.heap[w0.heap.size]? = some (.cells #[.int .i64 0, .int .i64 0, .int .i64 0, .int .i64 0, .int .i64 0, .int .i64 0, .int .i64 0] 56) by rw [ey]; exact heap_alloc_new _ _)
      have G1_lab := Lib.hid (show w0.heap.size ≤ w0.heap.size from HR0.out.size)
      clear ey hb
      refine hK.out _ _ ?_ (fun hHeld => ?_)
      · exact (HX0.out.on F1_base.out).cells
      clear hK K
      try simp only [zA, zB, zC, Act.put, zD, zE, zF]
      refine wpAnyH_ready (rs := [0]) (by kernel_rfl) (by simp) ?_
      refine AllReadyH.cons rfl (fun K hK => ?_) AllReadyH.nil
      try simp only [zA, zB, zC]
      go_simp
      obtain ⟨wy2, ey⟩ : ∃ y, y = wy1.alloc (.cells #[] 36) := ⟨_, rfl⟩
      rw [← ey]
      have hb : Below wy1.heap.size wy1 wy2 := by rw [ey]; exact (Below.refl _ _).alloc (Nat.le_refl _) _
      have F2_base := Lib.hid (F1_base.out.trans (hb.mono F1_base.out.size))
      have F2_lab := Lib.hid ((hb.block _ (Array.getElem?_eq_some_iff.1 F1_lab.out).1).trans F1_lab.out)
      have F2_ge_lab := Lib.hid (G1_lab.out)
      have F2_lu := Lib.hid (show wy2.heap[wy1.heap.size]? = some (.cells #[] 36) by rw [ey]; exact heap_alloc_new _ _)
      have G2_lu := Lib.hid (show w0.heap.size ≤ wy1.heap.size from F1_base.out.size)
      clear ey hb
      refine hK.out _ _ ?_ (fun hHeld => ?_)
      · exact (HX0.out.on F2_base.out).cells
      clear hK K
      try simp only [zA, zB, zC, Act.put, zD, zE, zF]
      refine wpAnyH_ready (rs := [3]) (by kernel_rfl) (by simp) ?_
      refine AllReadyH.cons rfl (fun K hK => ?_) AllReadyH.nil
      refine step_append_anyS rfl (.tmp 10) (.tmp 12) 22 rfl w0.heap.size 36 i0 (.int .u64 0) 1 8 Tryd.underlying22 hi0 hz0 hz1 hz2 rfl (by decide) (.slice (some ⟨wy1.heap.size, 0, none⟩) 0 0) 0 [] (by rfl) (lit_rowS F2_lu.out G2_lu.out) (.slice ua xs.length uc) xs.length (xs.map (Value.int .u64)) (by rfl) (by simp) (nums_src ((HU.out.below (HX0.out.on F2_base.out).1).mono (HX0.out.on F2_base.out).1.size) HNN.out) (by intro u hu; obtain ⟨x, _, rfl⟩ := List.mem_map.1 hu; rfl) (by unfold maxLen; omega) (by omega) F2_base.out.size ?_
      intro vup wy3 ho hg
      have F3_base := Lib.hid (F2_base.out.grown hg F2_base.out.size (fun k e => by cases e; exact G2_lu.out))
      have F3_lab := Lib.hid (lab_keep hg F2_lu.out F2_lab.out (by simp))
      have F3_ge_lab := Lib.hid (F2_ge_lab.out)
      have F3_up := Lib.hid (own0S ho)
      obtain ⟨aup, cup, rfl⟩ := SS.ownOf F3_up.out
      clear ho hg
      refine hK.out _ _ ?_ (fun hHeld => ?_)
      · exact (HX0.out.on F3_base.out).cells
      clear hK K
      try simp only [zA, zB, zC, Act.put, zD, zE, zF]
      refine wpAnyH_ready (rs := [10]) (by kernel_rfl) (by simp) ?_
      refine AllReadyH.cons rfl (fun K hK => ?_) AllReadyH.nil
      try simp only [zA, zB, zC]
      go_simp
      (go_at_call 29; refine (HJ.out wy3 (HX0.out.on F3_base.out).1 (nums_of_row F3_up.out)).mono ?_; rintro e wy4 ⟨rfl, hb⟩; rw [HJR.out])
      have F4_base := Lib.hid (F3_base.out.trans (hb.mono F3_base.out.size))
      have F4_lab := Lib.hid ((hb.block _ (Array.getElem?_eq_some_iff.1 F3_lab.out).1).trans F3_lab.out)
      have F4_ge_lab := Lib.hid (F3_ge_lab.out)
      have F4_up := Lib.hid (SS.own_of_block F3_up.out (fun k e => hb.block k (F3_up.out.lt k e).2))
      clear hb
      try go_wp2_with fail
      refine hK.out _ _ ?_ (fun hHeld => ?_)
      · exact (HX0.out.on F4_base.out).cells
      clear hK K
      try simp only [zA, zB, zC, Act.put, zD, zE, zF]
      refine wpAnyH_take (i := 11) (v := .tuple #[.agg #[.int .i64 d0, .int .i64 d1, .int .i64 d2, .int .i64 d3, .int .i64 d4, .int .i64 d5, .int .i64 d6], .bool z]) rfl (by kernel_rfl) (by kernel_rfl) (by kernel_rfl) (fun _ _ _ h => h) (Or.inl ⟨by rfl, fun W hSW => ?_⟩) hHeld ?_
      · ((try dsimp only at hSW); go_split_ands; go_simp <;> with_reducible rfl)
      try simp only [zA, zB, zC, Act.put, zD, zE, zF]
      refine wpAnyH_take (i := 12) (v := .agg #[.int .i64 d0, .int .i64 d1, .int .i64 d2, .int .i64 d3, .int .i64 d4, .int .i64 d5, .int .i64 d6]) rfl (by kernel_rfl) (by kernel_rfl) (by kernel_rfl) (fun _ _ _ h => h) (Or.inl ⟨by rfl, fun W hSW => ?_⟩) hHeld ?_
      · ((try dsimp only at hSW); go_split_ands; go_simp <;> with_reducible rfl)
      try simp only [zA, zB, zC, Act.put, zD, zE, zF]
      refine wpAnyH_take (i := 13) (v := .bool z) rfl (by kernel_rfl) (by kernel_rfl) (by kernel_rfl) (fun _ _ _ h => h) (Or.inl ⟨by rfl, fun W hSW => ?_⟩) hHeld ?_
      · ((try dsimp only at hSW); go_split_ands; go_simp <;> with_reducible rfl)
      try simp only [zA, zB, zC, Act.put, zD, zE, zF]
      refine wpAnyH_ready (rs := [15]) (by kernel_rfl) (by simp) ?_
      refine AllReadyH.cons rfl (fun K hK => ?_) AllReadyH.nil
      obtain ⟨⟨_, _, _, _, _, _, _⟩, _, _, _, _, _, _, _⟩ := one7 F4_lab.out
      try simp only [zA, zB, zC]
      go_simp
      have hs := set7_obj F4_lab.out (.int .i64 d0) (.int .i64 d1) (.int .i64 d2) (.int .i64 d3) (.int .i64 d4) (.int .i64 d5) (.int .i64 d6)
      have hbs := set7_below F4_base.out F4_ge_lab.out (.int .i64 d0) (.int .i64 d1) (.int .i64 d2) (.int .i64 d3) (.int .i64 d4) (.int .i64 d5) (.int .i64 d6)
      unfold set7 at hs hbs
      generalize ((((((wy4.setCell ⟨w0.heap.size, 0, none⟩ (.int .i64 d0)).setCell ⟨w0.heap.size, 1, none⟩ (.int .i64 d1)).setCell ⟨w0.heap.size, 2, none⟩ (.int .i64 d2)).setCell ⟨w0.heap.size, 3, none⟩ (.int .i64 d3)).setCell ⟨w0.heap.size, 4, none⟩ (.int .i64 d4)).setCell ⟨w0.heap.size, 5, none⟩ (.int .i64 d5)).setCell ⟨w0.heap.size, 6, none⟩ (.int .i64 d6) = wy5 at hs hbs ⊢
      have F5_base := Lib.hid hbs
      have F5_lab := Lib.hid hs
      clear hs hbs
      refine hK.out _ _ ?_ (fun hHeld => ?_)
      · exact (HX0.out.on F5_base.out).cells
      clear hK K
      try simp only [zA, zB, zC, Act.put, zD, zE, zF]
      refine wpAnyH_take (i := 16) (v := .bool z) rfl (by kernel_rfl) (by kernel_rfl) (by kernel_rfl) (fun _ _ _ h => h) (Or.inl ⟨by rfl, fun W hSW => ?_⟩) hHeld ?_
      · ((try dsimp only at hSW); go_split_ands; go_simp <;> with_reducible rfl)
      try simp only [zA, zB, zC, Act.put, zD, zE, zF]
      refine wpAnyH_done (by kernel_rfl) ?_ _
      clear hHeld
      go_wp2_with fail
      go_meet
      case rel => exact ⟨_, rfl, rfl, (HX0.out.on F5_base.out), F5_lab.out, Nat.le_trans HX0.out.2.1 F4_ge_lab.out⟩
    exact AllReadyH.nil
  case rest =>
    obtain ⟨lb, rfl, rfl, hx9, hl9, hlb⟩ := hcut
    have HX1 := Lib.hid hx9
    have HL1 := Lib.hid hl9
    clear hx9 hl9 HS0 HJ HJR hc0 hc1 hc2 hc3 hc4 hc5 hc6 hc7 hc8 hc9 hc10
    obtain ⟨hc0, hc1, hc2, hc3, hc4, hc5, hc6, hc7, hc8, hc9, hc10⟩ := HX1.out.cells
    have HFT := Lib.hid (show ∀ W, Calls Tryd.prog 24 #[.slice ua xs.length uc, .agg #[.int .i64 a, .int .u64 m], .int .i64 7] W fun e V => e = .returned (.bool (rfitB xs.length a m 7)) ∧ Below W.heap.size W V from fun W => rfits_any ua xs.length uc a m 7 W HM.out (by omega))
    obtain ⟨zr, ezr⟩ : ∃ zr, zr = LL.rightB xs := ⟨_, rfl⟩
    obtain ⟨zf, ezf⟩ : ∃ zf, zf = rfitB xs.length a m 7 := ⟨_, rfl⟩
    obtain ⟨zv, ezv⟩ : ∃ zv, zv = levB xs.length ([c0, c1, c2, c3, c4, c5, c6] ++ [bd]) := ⟨_, rfl⟩
    have HIS := Lib.hid (show z = (zr && (zf && zv)) by rw [HZ.out, caps_is, ezr, ezf, ezv])
    have HRR := Lib.hid ezr
    have HFF := Lib.hid ezf
    have HVV := Lib.hid ezv
    clear ezr ezf ezv
    go_upto_region 4 with fail
    go_cut [3, 4, 48] from 23 (fun s3 s4 s48 w9 => s3 = .pointer (some ⟨lb, 0, none⟩) ∧ s4 = .bool z ∧ s48 = .bool (!(zr && (zf && zv))) ∧ CapsB W (.slice ua xs.length uc) c0 c1 c2 c3 c4 c5 c6 a m bd w9 ∧ w9.heap[lb]? = some (.cells #[.int .i64 d0, .int .i64 d1, .int .i64 d2, .int .i64 d3, .int .i64 d4, .int .i64 d5, .int .i64 d6] 56))
    case first =>
      have HX2 := Lib.hid HX1.out.drew
      have HL2 := Lib.hid (show wc.drew.heap[lb]? = some (.cells #[.int .i64 d0, .int .i64 d1, .int .i64 d2, .int .i64 d3, .int .i64 d4, .int .i64 d5, .int .i64 d6] 56) from HL1.out)
      refine wp_region_held_drew (S := (fun V => V.cell? ⟨W.heap.size, 0, none⟩ = some (.slice ua xs.length uc) ∧ V.cell? ⟨W.heap.size, 1, none⟩ = some (.int .i64 c0) ∧ V.cell? ⟨W.heap.size, 2, none⟩ = some (.int .i64 c1) ∧ V.cell? ⟨W.heap.size, 3, none⟩ = some (.int .i64 c2) ∧ V.cell? ⟨W.heap.size, 4, none⟩ = some (.int .i64 c3) ∧ V.cell? ⟨W.heap.size, 5, none⟩ = some (.int .i64 c4) ∧ V.cell? ⟨W.heap.size, 6, none⟩ = some (.int .i64 c5) ∧ V.cell? ⟨W.heap.size, 7, none⟩ = some (.int .i64 c6) ∧ V.cell? ⟨W.heap.size, 8, none⟩ = some (.int .i64 a) ∧ V.cell? ⟨W.heap.size, 9, none⟩ = some (.int .u64 m) ∧ V.cell? ⟨W.heap.size, 10, none⟩ = some (.int .i64 bd))) (by kernel_rfl) ?_ (fun hHeld => ?_)
      · exact HX2.out.cells
      clear hc0 hc1 hc2 hc3 hc4 hc5 hc6 hc7 hc8 hc9 hc10 HX1 HL1
      generalize wc.drew = w0 at HX2 HL2 hHeld ⊢
      have HR0 := Lib.hid (Below.refl w0.heap.size w0)
      cases zr with
      | false =>
        refine wpAnyH_take (i := 0) (v := .pointer (some ⟨W.heap.size, 0, none⟩)) rfl (by kernel_rfl) (by kernel_rfl) (by kernel_rfl) (fun _ _ _ h => h) (Or.inl ⟨by rfl, fun W hSW => ?_⟩) hHeld ?_
        · ((try dsimp only at hSW); go_split_ands; go_simp <;> with_reducible rfl)
        try simp only [zA, zB, zC, Act.put, zD, zE, zF]
        refine wpAnyH_take (i := 1) (v := .slice ua xs.length uc) rfl (by kernel_rfl) (by kernel_rfl) (by kernel_rfl) (fun _ _ _ h => h) (Or.inl ⟨by rfl, fun W hSW => ?_⟩) hHeld ?_
        · ((try dsimp only at hSW); go_split_ands; go_simp <;> with_reducible rfl)
        try simp only [zA, zB, zC, Act.put, zD, zE, zF]
        refine wpAnyH_ready (rs := [2]) (by kernel_rfl) (by simp) ?_
        refine AllReadyH.cons rfl (fun K hK => ?_) AllReadyH.nil
        try simp only [zA, zB, zC]
        go_simp
        (go_at_call 18; refine (rright_any _ xs _ w0 ((HU.out.below (HX2.out.on HR0.out).1).mono (HX2.out.on HR0.out).1.size) HX.out b9).mono ?_; rintro e wy1 ⟨rfl, d, e2⟩; rw [← HRR.out]; have hb : Below w0.heap.size w0 wy1 := (by rw [e2]; exact bel_of_dN d); clear e2)
        have F1_base := Lib.hid (HR0.out.trans (hb.mono HR0.out.size))
        clear hb
        try go_wp2_with fail
        refine hK.out _ _ ?_ (fun hHeld => ?_)
        · exact (HX2.out.on F1_base.out).cells
        clear hK K
        try simp only [zA, zB, zC, Act.put, zD, zE, zF]
        refine wpAnyH_take (i := 3) (v := .bool true) rfl (by kernel_rfl) (by kernel_rfl) (by kernel_rfl) (fun _ _ _ h => h) (Or.inl ⟨by rfl, fun W hSW => ?_⟩) hHeld ?_
        · ((try dsimp only at hSW); go_split_ands; go_simp <;> with_reducible rfl)
        try simp only [zA, zB, zC, Act.put, zD, zE, zF]
        refine wpAnyH_take (i := 4) (v := .bool true) rfl (by kernel_rfl) (by kernel_rfl) (by kernel_rfl) (fun _ _ _ h => h) (Or.inl ⟨by rfl, fun W hSW => ?_⟩) hHeld ?_
        · ((try dsimp only at hSW); go_split_ands; go_simp <;> with_reducible rfl)
        try simp only [zA, zB, zC, Act.put, zD, zE, zF]
        refine wpAnyH_take (i := 5) (v := undef) rfl (by kernel_rfl) (by kernel_rfl) (by kernel_rfl) (fun _ _ _ h => h) (Or.inr ⟨by rfl, rfl⟩) hHeld ?_
        try simp only [zA, zB, zC, Act.put, zD, zE, zF]
        refine wpAnyH_take (i := 6) (v := undef) rfl (by kernel_rfl) (by kernel_rfl) (by kernel_rfl) (fun _ _ _ h => h) (Or.inr ⟨by rfl, rfl⟩) hHeld ?_
        try simp only [zA, zB, zC, Act.put, zD, zE, zF]
        refine wpAnyH_take (i := 7) (v := undef) rfl (by kernel_rfl) (by kernel_rfl) (by kernel_rfl) (fun _ _ _ h => h) (Or.inr ⟨by rfl, rfl⟩) hHeld ?_
        try simp only [zA, zB, zC, Act.put, zD, zE, zF]
        refine wpAnyH_take (i := 8) (v := undef) rfl (by kernel_rfl) (by kernel_rfl) (by kernel_rfl) (fun _ _ _ h => h) (Or.inr ⟨by rfl, rfl⟩) hHeld ?_
        try simp only [zA, zB, zC, Act.put, zD, zE, zF]
        refine wpAnyH_ready (rs := [9]) (by kernel_rfl) (by simp) ?_
        refine AllReadyH.cons rfl (fun K hK => ?_) AllReadyH.nil
        try simp only [zA, zB, zC]
        go_simp
        refine hK.out _ _ ?_ (fun hHeld => ?_)
        · exact (HX2.out.on F1_base.out).cells
        clear hK K
        try simp only [zA, zB, zC, Act.put, zD, zE, zF]
        refine wpAnyH_take (i := 10) (v := undef) rfl (by kernel_rfl) (by kernel_rfl) (by kernel_rfl) (fun _ _ _ h => h) (Or.inr ⟨by rfl, rfl⟩) hHeld ?_
        try simp only [zA, zB, zC, Act.put, zD, zE, zF]
        refine wpAnyH_take (i := 11) (v := .bool true) rfl (by kernel_rfl) (by kernel_rfl) (by kernel_rfl) (fun _ _ _ h => h) (Or.inl ⟨by rfl, fun W hSW => ?_⟩) hHeld ?_
        · ((try dsimp only at hSW); go_split_ands; go_simp <;> with_reducible rfl)
        try simp only [zA, zB, zC, Act.put, zD, zE, zF]
        refine wpAnyH_take (i := 12) (v := .bool true) rfl (by kernel_rfl) (by kernel_rfl) (by kernel_rfl) (fun _ _ _ h => h) (Or.inl ⟨by rfl, fun W hSW => ?_⟩) hHeld ?_
        · ((try dsimp only at hSW); go_split_ands; go_simp <;> with_reducible rfl)
        try simp only [zA, zB, zC, Act.put, zD, zE, zF]
        refine wpAnyH_take (i := 13) (v := undef) rfl (by kernel_rfl) (by kernel_rfl) (by kernel_rfl) (fun _ _ _ h => h) (Or.inr ⟨by rfl, rfl⟩) hHeld ?_
        try simp only [zA, zB, zC, Act.put, zD, zE, zF]
        refine wpAnyH_take (i := 14) (v := undef) rfl (by kernel_rfl) (by kernel_rfl) (by kernel_rfl) (fun _ _ _ h => h) (Or.inr ⟨by rfl, rfl⟩) hHeld ?_
        try simp only [zA, zB, zC, Act.put, zD, zE, zF]
        refine wpAnyH_take (i := 16) (v := undef) rfl (by kernel_rfl) (by kernel_rfl) (by kernel_rfl) (fun _ _ _ h => h) (Or.inr ⟨by rfl, rfl⟩) hHeld ?_
        try simp only [zA, zB, zC, Act.put, zD, zE, zF]
        refine wpAnyH_take (i := 17) (v := undef) rfl (by kernel_rfl) (by kernel_rfl) (by kernel_rfl) (fun _ _ _ h => h) (Or.inr ⟨by rfl, rfl⟩) hHeld ?_
        try simp only [zA, zB, zC, Act.put, zD, zE, zF]
        refine wpAnyH_take (i := 19) (v := undef) rfl (by kernel_rfl) (by kernel_rfl) (by kernel_rfl) (fun _ _ _ h => h) (Or.inr ⟨by rfl, rfl⟩) hHeld ?_
        try simp only [zA, zB, zC, Act.put, zD, zE, zF]
        refine wpAnyH_take (i := 20) (v := undef) rfl (by kernel_rfl) (by kernel_rfl) (by kernel_rfl) (fun _ _ _ h => h) (Or.inr ⟨by rfl, rfl⟩) hHeld ?_
        try simp only [zA, zB, zC, Act.put, zD, zE, zF]
        refine wpAnyH_ready (rs := [15, 21]) (by kernel_rfl) (by simp) ?_
        refine AllReadyH.cons rfl (fun K hK => ?_) ?_
        · try simp only [zA, zB, zC]
          go_simp
          refine hK.out _ _ ?_ (fun hHeld => ?_)
          · exact (HX2.out.on F1_base.out).cells
          clear hK K
          try simp only [zA, zB, zC, Act.put, zD, zE, zF]
          refine wpAnyH_ready (rs := [18, 21]) (by kernel_rfl) (by simp) ?_
          refine AllReadyH.cons rfl (fun K hK => ?_) ?_
          · try simp only [zA, zB, zC]
            go_simp
            refine hK.out _ _ ?_ (fun hHeld => ?_)
            · exact (HX2.out.on F1_base.out).cells
            clear hK K
            try simp only [zA, zB, zC, Act.put, zD, zE, zF]
            refine wpAnyH_ready (rs := [21]) (by kernel_rfl) (by simp) ?_
            refine AllReadyH.cons rfl (fun K hK => ?_) AllReadyH.nil
            try simp only [zA, zB, zC]
            go_simp
            refine hK.out _ _ ?_ (fun hHeld => ?_)
            · exact (HX2.out.on F1_base.out).cells
            clear hK K
            try simp only [zA, zB, zC, Act.put, zD, zE, zF]
            refine wpAnyH_ready (rs := [22]) (by kernel_rfl) (by simp) ?_
            refine AllReadyH.cons rfl (fun K hK => ?_) AllReadyH.nil
            try simp only [zA, zB, zC]
            go_simp
            refine hK.out _ _ ?_ (fun hHeld => ?_)
            · exact (HX2.out.on F1_base.out).cells
            clear hK K
            try simp only [zA, zB, zC, Act.put, zD, zE, zF]
            refine wpAnyH_ready (rs := [23]) (by kernel_rfl) (by simp) ?_
            refine AllReadyH.cons rfl (fun K hK => ?_) AllReadyH.nil
            try simp only [zA, zB, zC]
            go_simp
            refine hK.out _ _ ?_ (fun hHeld => ?_)
            · exact (HX2.out.on F1_base.out).cells
            clear hK K
            try simp only [zA, zB, zC, Act.put, zD, zE, zF]
            refine wpAnyH_take (i := 24) (v := undef) rfl (by kernel_rfl) (by kernel_rfl) (by kernel_rfl) (fun _ _ _ h => h) (Or.inr ⟨by rfl, rfl⟩) hHeld ?_
            try simp only [zA, zB, zC, Act.put, zD, zE, zF]
            refine wpAnyH_take (i := 25) (v := .bool true) rfl (by kernel_rfl) (by kernel_rfl) (by kernel_rfl) (fun _ _ _ h => h) (Or.inl ⟨by rfl, fun W hSW => ?_⟩) hHeld ?_
            · ((try dsimp only at hSW); go_split_ands; go_simp <;> with_reducible rfl)
            try simp only [zA, zB, zC, Act.put, zD, zE, zF]
            refine wpAnyH_done (by kernel_rfl) ?_ _
            clear hHeld
            go_wp2_with fail
            go_meet
            case rel => exact ⟨rfl, rfl, rfl, (HX2.out.on F1_base.out), (F1_base.out.block _ (Array.getElem?_eq_some_iff.1 HL2.out).1).trans HL2.out⟩
          refine AllReadyH.cons rfl (fun K hK => ?_) ?_
          · try simp only [zA, zB, zC]
            go_simp
            refine hK.out _ _ ?_ (fun hHeld => ?_)
            · exact (HX2.out.on F1_base.out).cells
            clear hK K
            try simp only [zA, zB, zC, Act.put, zD, zE, zF]
            refine wpAnyH_ready (rs := [18]) (by kernel_rfl) (by simp) ?_
            refine AllReadyH.cons rfl (fun K hK => ?_) AllReadyH.nil
            try simp only [zA, zB, zC]
            go_simp
            refine hK.out _ _ ?_ (fun hHeld => ?_)
            · exact (HX2.out.on F1_base.out).cells
            clear hK K
            try simp only [zA, zB, zC, Act.put, zD, zE, zF]
            refine wpAnyH_ready (rs := [22]) (by kernel_rfl) (by simp) ?_
            refine AllReadyH.cons rfl (fun K hK => ?_) AllReadyH.nil
            try simp only [zA, zB, zC]
            go_simp
            refine hK.out _ _ ?_ (fun hHeld => ?_)
            · exact (HX2.out.on F1_base.out).cells
            clear hK K
            try simp only [zA, zB, zC, Act.put, zD, zE, zF]
            refine wpAnyH_ready (rs := [23]) (by kernel_rfl) (by simp) ?_
            refine AllReadyH.cons rfl (fun K hK => ?_) AllReadyH.nil
            try simp only [zA, zB, zC]
            go_simp
            refine hK.out _ _ ?_ (fun hHeld => ?_)
            · exact (HX2.out.on F1_base.out).cells
            clear hK K
            try simp only [zA, zB, zC, Act.put, zD, zE, zF]
            refine wpAnyH_take (i := 24) (v := undef) rfl (by kernel_rfl) (by kernel_rfl) (by kernel_rfl) (fun _ _ _ h => h) (Or.inr ⟨by rfl, rfl⟩) hHeld ?_
            try simp only [zA, zB, zC, Act.put, zD, zE, zF]
            refine wpAnyH_take (i := 25) (v := .bool true) rfl (by kernel_rfl) (by kernel_rfl) (by kernel_rfl) (fun _ _ _ h => h) (Or.inl ⟨by rfl, fun W hSW => ?_⟩) hHeld ?_
            · ((try dsimp only at hSW); go_split_ands; go_simp <;> with_reducible rfl)
            try simp only [zA, zB, zC, Act.put, zD, zE, zF]
            refine wpAnyH_done (by kernel_rfl) ?_ _
            clear hHeld
            go_wp2_with fail
            go_meet
            case rel => exact ⟨rfl, rfl, rfl, (HX2.out.on F1_base.out), (F1_base.out.block _ (Array.getElem?_eq_some_iff.1 HL2.out).1).trans HL2.out⟩
          exact AllReadyH.nil
        refine AllReadyH.cons rfl (fun K hK => ?_) ?_
        · try simp only [zA, zB, zC]
          go_simp
          refine hK.out _ _ ?_ (fun hHeld => ?_)
          · exact (HX2.out.on F1_base.out).cells
          clear hK K
          try simp only [zA, zB, zC, Act.put, zD, zE, zF]
          refine wpAnyH_ready (rs := [15]) (by kernel_rfl) (by simp) ?_
          refine AllReadyH.cons rfl (fun K hK => ?_) AllReadyH.nil
          try simp only [zA, zB, zC]
          go_simp
          refine hK.out _ _ ?_ (fun hHeld => ?_)
          · exact (HX2.out.on F1_base.out).cells
          clear hK K
          try simp only [zA, zB, zC, Act.put, zD, zE, zF]
          refine wpAnyH_ready (rs := [18]) (by kernel_rfl) (by simp) ?_
          refine AllReadyH.cons rfl (fun K hK => ?_) AllReadyH.nil
          try simp only [zA, zB, zC]
          go_simp
          refine hK.out _ _ ?_ (fun hHeld => ?_)
          · exact (HX2.out.on F1_base.out).cells
          clear hK K
          try simp only [zA, zB, zC, Act.put, zD, zE, zF]
          refine wpAnyH_ready (rs := [22]) (by kernel_rfl) (by simp) ?_
          refine AllReadyH.cons rfl (fun K hK => ?_) AllReadyH.nil
          try simp only [zA, zB, zC]
          go_simp
          refine hK.out _ _ ?_ (fun hHeld => ?_)
          · exact (HX2.out.on F1_base.out).cells
          clear hK K
          try simp only [zA, zB, zC, Act.put, zD, zE, zF]
          refine wpAnyH_ready (rs := [23]) (by kernel_rfl) (by simp) ?_
          refine AllReadyH.cons rfl (fun K hK => ?_) AllReadyH.nil
          try simp only [zA, zB, zC]
          go_simp
          refine hK.out _ _ ?_ (fun hHeld => ?_)
          · exact (HX2.out.on F1_base.out).cells
          clear hK K
          try simp only [zA, zB, zC, Act.put, zD, zE, zF]
          refine wpAnyH_take (i := 24) (v := undef) rfl (by kernel_rfl) (by kernel_rfl) (by kernel_rfl) (fun _ _ _ h => h) (Or.inr ⟨by rfl, rfl⟩) hHeld ?_
          try simp only [zA, zB, zC, Act.put, zD, zE, zF]
          refine wpAnyH_take (i := 25) (v := .bool true) rfl (by kernel_rfl) (by kernel_rfl) (by kernel_rfl) (fun _ _ _ h => h) (Or.inl ⟨by rfl, fun W hSW => ?_⟩) hHeld ?_
          · ((try dsimp only at hSW); go_split_ands; go_simp <;> with_reducible rfl)
          try simp only [zA, zB, zC, Act.put, zD, zE, zF]
          refine wpAnyH_done (by kernel_rfl) ?_ _
          clear hHeld
          go_wp2_with fail
          go_meet
          case rel => exact ⟨rfl, rfl, rfl, (HX2.out.on F1_base.out), (F1_base.out.block _ (Array.getElem?_eq_some_iff.1 HL2.out).1).trans HL2.out⟩
        exact AllReadyH.nil
      | true =>
        cases zf with
        | false =>
          refine wpAnyH_take (i := 0) (v := .pointer (some ⟨W.heap.size, 0, none⟩)) rfl (by kernel_rfl) (by kernel_rfl) (by kernel_rfl) (fun _ _ _ h => h) (Or.inl ⟨by rfl, fun W hSW => ?_⟩) hHeld ?_
          · ((try dsimp only at hSW); go_split_ands; go_simp <;> with_reducible rfl)
          try simp only [zA, zB, zC, Act.put, zD, zE, zF]
          refine wpAnyH_take (i := 1) (v := .slice ua xs.length uc) rfl (by kernel_rfl) (by kernel_rfl) (by kernel_rfl) (fun _ _ _ h => h) (Or.inl ⟨by rfl, fun W hSW => ?_⟩) hHeld ?_
          · ((try dsimp only at hSW); go_split_ands; go_simp <;> with_reducible rfl)
          try simp only [zA, zB, zC, Act.put, zD, zE, zF]
          refine wpAnyH_ready (rs := [2]) (by kernel_rfl) (by simp) ?_
          refine AllReadyH.cons rfl (fun K hK => ?_) AllReadyH.nil
          try simp only [zA, zB, zC]
          go_simp
          (go_at_call 18; refine (rright_any _ xs _ w0 ((HU.out.below (HX2.out.on HR0.out).1).mono (HX2.out.on HR0.out).1.size) HX.out b9).mono ?_; rintro e wy1 ⟨rfl, d, e2⟩; rw [← HRR.out]; have hb : Below w0.heap.size w0 wy1 := (by rw [e2]; exact bel_of_dN d); clear e2)
          have F1_base := Lib.hid (HR0.out.trans (hb.mono HR0.out.size))
          clear hb
          try go_wp2_with fail
          refine hK.out _ _ ?_ (fun hHeld => ?_)
          · exact (HX2.out.on F1_base.out).cells
          clear hK K
          try simp only [zA, zB, zC, Act.put, zD, zE, zF]
          refine wpAnyH_take (i := 3) (v := .bool false) rfl (by kernel_rfl) (by kernel_rfl) (by kernel_rfl) (fun _ _ _ h => h) (Or.inl ⟨by rfl, fun W hSW => ?_⟩) hHeld ?_
          · ((try dsimp only at hSW); go_split_ands; go_simp <;> with_reducible rfl)
          try simp only [zA, zB, zC, Act.put, zD, zE, zF]
          refine wpAnyH_take (i := 4) (v := .bool false) rfl (by kernel_rfl) (by kernel_rfl) (by kernel_rfl) (fun _ _ _ h => h) (Or.inl ⟨by rfl, fun W hSW => ?_⟩) hHeld ?_
          · ((try dsimp only at hSW); go_split_ands; go_simp <;> with_reducible rfl)
          try simp only [zA, zB, zC, Act.put, zD, zE, zF]
          refine wpAnyH_take (i := 5) (v := .pointer (some ⟨W.heap.size, 0, none⟩)) rfl (by kernel_rfl) (by kernel_rfl) (by kernel_rfl) (fun _ _ _ h => h) (Or.inl ⟨by rfl, fun W hSW => ?_⟩) hHeld ?_
          · ((try dsimp only at hSW); go_split_ands; go_simp <;> with_reducible rfl)
          try simp only [zA, zB, zC, Act.put, zD, zE, zF]
          refine wpAnyH_take (i := 6) (v := .slice ua xs.length uc) rfl (by kernel_rfl) (by kernel_rfl) (by kernel_rfl) (fun _ _ _ h => h) (Or.inl ⟨by rfl, fun W hSW => ?_⟩) hHeld ?_
          · ((try dsimp only at hSW); go_split_ands; go_simp <;> with_reducible rfl)
          try simp only [zA, zB, zC, Act.put, zD, zE, zF]
          refine wpAnyH_take (i := 7) (v := .pointer (some ⟨W.heap.size, 8, none⟩)) rfl (by kernel_rfl) (by kernel_rfl) (by kernel_rfl) (fun _ _ _ h => h) (Or.inl ⟨by rfl, fun W hSW => ?_⟩) hHeld ?_
          · ((try dsimp only at hSW); go_split_ands; go_simp <;> with_reducible rfl)
          try simp only [zA, zB, zC, Act.put, zD, zE, zF]
          refine wpAnyH_take (i := 8) (v := .agg #[.int .i64 a, .int .u64 m]) rfl (by kernel_rfl) (by kernel_rfl) (by kernel_rfl) (fun _ _ _ h => h) (Or.inl ⟨by rfl, fun W hSW => ?_⟩) hHeld ?_
          · ((try dsimp only at hSW); go_split_ands; go_simp <;> with_reducible rfl)
          try simp only [zA, zB, zC, Act.put, zD, zE, zF]
          refine wpAnyH_ready (rs := [9]) (by kernel_rfl) (by simp) ?_
          refine AllReadyH.cons rfl (fun K hK => ?_) AllReadyH.nil
          try simp only [zA, zB, zC]
          go_simp
          (go_at_call 24; refine (HFT.out wy1).mono ?_; rintro e wy2 ⟨rfl, hb⟩; rw [← HFF.out])
          have F2_base := Lib.hid (F1_base.out.trans (hb.mono F1_base.out.size))
          clear hb
          try go_wp2_with fail
          refine hK.out _ _ ?_ (fun hHeld => ?_)
          · exact (HX2.out.on F2_base.out).cells
          clear hK K
          try simp only [zA, zB, zC, Act.put, zD, zE, zF]
          refine wpAnyH_take (i := 10) (v := .bool true) rfl (by kernel_rfl) (by kernel_rfl) (by kernel_rfl) (fun _ _ _ h => h) (Or.inl ⟨by rfl, fun W hSW => ?_⟩) hHeld ?_
          · ((try dsimp only at hSW); go_split_ands; go_simp <;> with_reducible rfl)
          try simp only [zA, zB, zC, Act.put, zD, zE, zF]
          refine wpAnyH_take (i := 11) (v := .bool true) rfl (by kernel_rfl) (by kernel_rfl) (by kernel_rfl) (fun _ _ _ h => h) (Or.inl ⟨by rfl, fun W hSW => ?_⟩) hHeld ?_
          · ((try dsimp only at hSW); go_split_ands; go_simp <;> with_reducible rfl)
          try simp only [zA, zB, zC, Act.put, zD, zE, zF]
          refine wpAnyH_take (i := 12) (v := .bool true) rfl (by kernel_rfl) (by kernel_rfl) (by kernel_rfl) (fun _ _ _ h => h) (Or.inl ⟨by rfl, fun W hSW => ?_⟩) hHeld ?_
          · ((try dsimp only at hSW); go_split_ands; go_simp <;> with_reducible rfl)
          try simp only [zA, zB, zC, Act.put, zD, zE, zF]
          refine wpAnyH_take (i := 13) (v := undef) rfl (by kernel_rfl) (by kernel_rfl) (by kernel_rfl) (fun _ _ _ h => h) (Or.inr ⟨by rfl, rfl⟩) hHeld ?_
          try simp only [zA, zB, zC, Act.put, zD, zE, zF]
          refine wpAnyH_take (i := 14) (v := undef) rfl (by kernel_rfl) (by kernel_rfl) (by kernel_rfl) (fun _ _ _ h => h) (Or.inr ⟨by rfl, rfl⟩) hHeld ?_
          try simp only [zA, zB, zC, Act.put, zD, zE, zF]
          refine wpAnyH_take (i := 16) (v := undef) rfl (by kernel_rfl) (by kernel_rfl) (by kernel_rfl) (fun _ _ _ h => h) (Or.inr ⟨by rfl, rfl⟩) hHeld ?_
          try simp only [zA, zB, zC, Act.put, zD, zE, zF]
          refine wpAnyH_take (i := 17) (v := undef) rfl (by kernel_rfl) (by kernel_rfl) (by kernel_rfl) (fun _ _ _ h => h) (Or.inr ⟨by rfl, rfl⟩) hHeld ?_
          try simp only [zA, zB, zC, Act.put, zD, zE, zF]
          refine wpAnyH_take (i := 19) (v := undef) rfl (by kernel_rfl) (by kernel_rfl) (by kernel_rfl) (fun _ _ _ h => h) (Or.inr ⟨by rfl, rfl⟩) hHeld ?_
          try simp only [zA, zB, zC, Act.put, zD, zE, zF]
          refine wpAnyH_take (i := 20) (v := undef) rfl (by kernel_rfl) (by kernel_rfl) (by kernel_rfl) (fun _ _ _ h => h) (Or.inr ⟨by rfl, rfl⟩) hHeld ?_
          try simp only [zA, zB, zC, Act.put, zD, zE, zF]
          refine wpAnyH_ready (rs := [15, 21]) (by kernel_rfl) (by simp) ?_
          refine AllReadyH.cons rfl (fun K hK => ?_) ?_
          · try simp only [zA, zB, zC]
            go_simp
            refine hK.out _ _ ?_ (fun hHeld => ?_)
            · exact (HX2.out.on F2_base.out).cells
            clear hK K
            try simp only [zA, zB, zC, Act.put, zD, zE, zF]
            refine wpAnyH_ready (rs := [18, 21]) (by kernel_rfl) (by simp) ?_
            refine AllReadyH.cons rfl (fun K hK => ?_) ?_
            · try simp only [zA, zB, zC]
              go_simp
              refine hK.out _ _ ?_ (fun hHeld => ?_)
              · exact (HX2.out.on F2_base.out).cells
              clear hK K
              try simp only [zA, zB, zC, Act.put, zD, zE, zF]
              refine wpAnyH_ready (rs := [21]) (by kernel_rfl) (by simp) ?_
              refine AllReadyH.cons rfl (fun K hK => ?_) AllReadyH.nil
              try simp only [zA, zB, zC]
              go_simp
              refine hK.out _ _ ?_ (fun hHeld => ?_)
              · exact (HX2.out.on F2_base.out).cells
              clear hK K
              try simp only [zA, zB, zC, Act.put, zD, zE, zF]
              refine wpAnyH_ready (rs := [22]) (by kernel_rfl) (by simp) ?_
              refine AllReadyH.cons rfl (fun K hK => ?_) AllReadyH.nil
              try simp only [zA, zB, zC]
              go_simp
              refine hK.out _ _ ?_ (fun hHeld => ?_)
              · exact (HX2.out.on F2_base.out).cells
              clear hK K
              try simp only [zA, zB, zC, Act.put, zD, zE, zF]
              refine wpAnyH_ready (rs := [23]) (by kernel_rfl) (by simp) ?_
              refine AllReadyH.cons rfl (fun K hK => ?_) AllReadyH.nil
              try simp only [zA, zB, zC]
              go_simp
              refine hK.out _ _ ?_ (fun hHeld => ?_)
              · exact (HX2.out.on F2_base.out).cells
              clear hK K
              try simp only [zA, zB, zC, Act.put, zD, zE, zF]
              refine wpAnyH_take (i := 24) (v := undef) rfl (by kernel_rfl) (by kernel_rfl) (by kernel_rfl) (fun _ _ _ h => h) (Or.inr ⟨by rfl, rfl⟩) hHeld ?_
              try simp only [zA, zB, zC, Act.put, zD, zE, zF]
              refine wpAnyH_take (i := 25) (v := .bool true) rfl (by kernel_rfl) (by kernel_rfl) (by kernel_rfl) (fun _ _ _ h => h) (Or.inl ⟨by rfl, fun W hSW => ?_⟩) hHeld ?_
              · ((try dsimp only at hSW); go_split_ands; go_simp <;> with_reducible rfl)
              try simp only [zA, zB, zC, Act.put, zD, zE, zF]
              refine wpAnyH_done (by kernel_rfl) ?_ _
              clear hHeld
              go_wp2_with fail
              go_meet
              case rel => exact ⟨rfl, rfl, rfl, (HX2.out.on F2_base.out), (F2_base.out.block _ (Array.getElem?_eq_some_iff.1 HL2.out).1).trans HL2.out⟩
            refine AllReadyH.cons rfl (fun K hK => ?_) ?_
            · try simp only [zA, zB, zC]
              go_simp
              refine hK.out _ _ ?_ (fun hHeld => ?_)
              · exact (HX2.out.on F2_base.out).cells
              clear hK K
              try simp only [zA, zB, zC, Act.put, zD, zE, zF]
              refine wpAnyH_ready (rs := [18]) (by kernel_rfl) (by simp) ?_
              refine AllReadyH.cons rfl (fun K hK => ?_) AllReadyH.nil
              try simp only [zA, zB, zC]
              go_simp
              refine hK.out _ _ ?_ (fun hHeld => ?_)
              · exact (HX2.out.on F2_base.out).cells
              clear hK K
              try simp only [zA, zB, zC, Act.put, zD, zE, zF]
              refine wpAnyH_ready (rs := [22]) (by kernel_rfl) (by simp) ?_
              refine AllReadyH.cons rfl (fun K hK => ?_) AllReadyH.nil
              try simp only [zA, zB, zC]
              go_simp
              refine hK.out _ _ ?_ (fun hHeld => ?_)
              · exact (HX2.out.on F2_base.out).cells
              clear hK K
              try simp only [zA, zB, zC, Act.put, zD, zE, zF]
              refine wpAnyH_ready (rs := [23]) (by kernel_rfl) (by simp) ?_
              refine AllReadyH.cons rfl (fun K hK => ?_) AllReadyH.nil
              try simp only [zA, zB, zC]
              go_simp
              refine hK.out _ _ ?_ (fun hHeld => ?_)
              · exact (HX2.out.on F2_base.out).cells
              clear hK K
              try simp only [zA, zB, zC, Act.put, zD, zE, zF]
              refine wpAnyH_take (i := 24) (v := undef) rfl (by kernel_rfl) (by kernel_rfl) (by kernel_rfl) (fun _ _ _ h => h) (Or.inr ⟨by rfl, rfl⟩) hHeld ?_
              try simp only [zA, zB, zC, Act.put, zD, zE, zF]
              refine wpAnyH_take (i := 25) (v := .bool true) rfl (by kernel_rfl) (by kernel_rfl) (by kernel_rfl) (fun _ _ _ h => h) (Or.inl ⟨by rfl, fun W hSW => ?_⟩) hHeld ?_
              · ((try dsimp only at hSW); go_split_ands; go_simp <;> with_reducible rfl)
              try simp only [zA, zB, zC, Act.put, zD, zE, zF]
              refine wpAnyH_done (by kernel_rfl) ?_ _
              clear hHeld
              go_wp2_with fail
              go_meet
              case rel => exact ⟨rfl, rfl, rfl, (HX2.out.on F2_base.out), (F2_base.out.block _ (Array.getElem?_eq_some_iff.1 HL2.out).1).trans HL2.out⟩
            exact AllReadyH.nil
          refine AllReadyH.cons rfl (fun K hK => ?_) ?_
          · try simp only [zA, zB, zC]
            go_simp
            refine hK.out _ _ ?_ (fun hHeld => ?_)
            · exact (HX2.out.on F2_base.out).cells
            clear hK K
            try simp only [zA, zB, zC, Act.put, zD, zE, zF]
            refine wpAnyH_ready (rs := [15]) (by kernel_rfl) (by simp) ?_
            refine AllReadyH.cons rfl (fun K hK => ?_) AllReadyH.nil
            try simp only [zA, zB, zC]
            go_simp
            refine hK.out _ _ ?_ (fun hHeld => ?_)
            · exact (HX2.out.on F2_base.out).cells
            clear hK K
            try simp only [zA, zB, zC, Act.put, zD, zE, zF]
            refine wpAnyH_ready (rs := [18]) (by kernel_rfl) (by simp) ?_
            refine AllReadyH.cons rfl (fun K hK => ?_) AllReadyH.nil
            try simp only [zA, zB, zC]
            go_simp
            refine hK.out _ _ ?_ (fun hHeld => ?_)
            · exact (HX2.out.on F2_base.out).cells
            clear hK K
            try simp only [zA, zB, zC, Act.put, zD, zE, zF]
            refine wpAnyH_ready (rs := [22]) (by kernel_rfl) (by simp) ?_
            refine AllReadyH.cons rfl (fun K hK => ?_) AllReadyH.nil
            try simp only [zA, zB, zC]
            go_simp
            refine hK.out _ _ ?_ (fun hHeld => ?_)
            · exact (HX2.out.on F2_base.out).cells
            clear hK K
            try simp only [zA, zB, zC, Act.put, zD, zE, zF]
            refine wpAnyH_ready (rs := [23]) (by kernel_rfl) (by simp) ?_
            refine AllReadyH.cons rfl (fun K hK => ?_) AllReadyH.nil
            try simp only [zA, zB, zC]
            go_simp
            refine hK.out _ _ ?_ (fun hHeld => ?_)
            · exact (HX2.out.on F2_base.out).cells
            clear hK K
            try simp only [zA, zB, zC, Act.put, zD, zE, zF]
            refine wpAnyH_take (i := 24) (v := undef) rfl (by kernel_rfl) (by kernel_rfl) (by kernel_rfl) (fun _ _ _ h => h) (Or.inr ⟨by rfl, rfl⟩) hHeld ?_
            try simp only [zA, zB, zC, Act.put, zD, zE, zF]
            refine wpAnyH_take (i := 25) (v := .bool true) rfl (by kernel_rfl) (by kernel_rfl) (by kernel_rfl) (fun _ _ _ h => h) (Or.inl ⟨by rfl, fun W hSW => ?_⟩) hHeld ?_
            · ((try dsimp only at hSW); go_split_ands; go_simp <;> with_reducible rfl)
            try simp only [zA, zB, zC, Act.put, zD, zE, zF]
            refine wpAnyH_done (by kernel_rfl) ?_ _
            clear hHeld
            go_wp2_with fail
            go_meet
            case rel => exact ⟨rfl, rfl, rfl, (HX2.out.on F2_base.out), (F2_base.out.block _ (Array.getElem?_eq_some_iff.1 HL2.out).1).trans HL2.out⟩
          exact AllReadyH.nil
        | true =>
          refine wpAnyH_take (i := 0) (v := .pointer (some ⟨W.heap.size, 0, none⟩)) rfl (by kernel_rfl) (by kernel_rfl) (by kernel_rfl) (fun _ _ _ h => h) (Or.inl ⟨by rfl, fun W hSW => ?_⟩) hHeld ?_
          · ((try dsimp only at hSW); go_split_ands; go_simp <;> with_reducible rfl)
          try simp only [zA, zB, zC, Act.put, zD, zE, zF]
          refine wpAnyH_take (i := 1) (v := .slice ua xs.length uc) rfl (by kernel_rfl) (by kernel_rfl) (by kernel_rfl) (fun _ _ _ h => h) (Or.inl ⟨by rfl, fun W hSW => ?_⟩) hHeld ?_
          · ((try dsimp only at hSW); go_split_ands; go_simp <;> with_reducible rfl)
          try simp only [zA, zB, zC, Act.put, zD, zE, zF]
          refine wpAnyH_ready (rs := [2]) (by kernel_rfl) (by simp) ?_
          refine AllReadyH.cons rfl (fun K hK => ?_) AllReadyH.nil
          try simp only [zA, zB, zC]
          go_simp
          (go_at_call 18; refine (rright_any _ xs _ w0 ((HU.out.below (HX2.out.on HR0.out).1).mono (HX2.out.on HR0.out).1.size) HX.out b9).mono ?_; rintro e wy1 ⟨rfl, d, e2⟩; rw [← HRR.out]; have hb : Below w0.heap.size w0 wy1 := (by rw [e2]; exact bel_of_dN d); clear e2)
          have F1_base := Lib.hid (HR0.out.trans (hb.mono HR0.out.size))
          clear hb
          try go_wp2_with fail
          refine hK.out _ _ ?_ (fun hHeld => ?_)
          · exact (HX2.out.on F1_base.out).cells
          clear hK K
          try simp only [zA, zB, zC, Act.put, zD, zE, zF]
          refine wpAnyH_take (i := 3) (v := .bool false) rfl (by kernel_rfl) (by kernel_rfl) (by kernel_rfl) (fun _ _ _ h => h) (Or.inl ⟨by rfl, fun W hSW => ?_⟩) hHeld ?_
          · ((try dsimp only at hSW); go_split_ands; go_simp <;> with_reducible rfl)
          try simp only [zA, zB, zC, Act.put, zD, zE, zF]
          refine wpAnyH_take (i := 4) (v := .bool false) rfl (by kernel_rfl) (by kernel_rfl) (by kernel_rfl) (fun _ _ _ h => h) (Or.inl ⟨by rfl, fun W hSW => ?_⟩) hHeld ?_
          · ((try dsimp only at hSW); go_split_ands; go_simp <;> with_reducible rfl)
          try simp only [zA, zB, zC, Act.put, zD, zE, zF]
          refine wpAnyH_take (i := 5) (v := .pointer (some ⟨W.heap.size, 0, none⟩)) rfl (by kernel_rfl) (by kernel_rfl) (by kernel_rfl) (fun _ _ _ h => h) (Or.inl ⟨by rfl, fun W hSW => ?_⟩) hHeld ?_
          · ((try dsimp only at hSW); go_split_ands; go_simp <;> with_reducible rfl)
          try simp only [zA, zB, zC, Act.put, zD, zE, zF]
          refine wpAnyH_take (i := 6) (v := .slice ua xs.length uc) rfl (by kernel_rfl) (by kernel_rfl) (by kernel_rfl) (fun _ _ _ h => h) (Or.inl ⟨by rfl, fun W hSW => ?_⟩) hHeld ?_
          · ((try dsimp only at hSW); go_split_ands; go_simp <;> with_reducible rfl)
          try simp only [zA, zB, zC, Act.put, zD, zE, zF]
          refine wpAnyH_take (i := 7) (v := .pointer (some ⟨W.heap.size, 8, none⟩)) rfl (by kernel_rfl) (by kernel_rfl) (by kernel_rfl) (fun _ _ _ h => h) (Or.inl ⟨by rfl, fun W hSW => ?_⟩) hHeld ?_
          · ((try dsimp only at hSW); go_split_ands; go_simp <;> with_reducible rfl)
          try simp only [zA, zB, zC, Act.put, zD, zE, zF]
          refine wpAnyH_take (i := 8) (v := .agg #[.int .i64 a, .int .u64 m]) rfl (by kernel_rfl) (by kernel_rfl) (by kernel_rfl) (fun _ _ _ h => h) (Or.inl ⟨by rfl, fun W hSW => ?_⟩) hHeld ?_
          · ((try dsimp only at hSW); go_split_ands; go_simp <;> with_reducible rfl)
          try simp only [zA, zB, zC, Act.put, zD, zE, zF]
          refine wpAnyH_ready (rs := [9]) (by kernel_rfl) (by simp) ?_
          refine AllReadyH.cons rfl (fun K hK => ?_) AllReadyH.nil
          try simp only [zA, zB, zC]
          go_simp
          (go_at_call 24; refine (HFT.out wy1).mono ?_; rintro e wy2 ⟨rfl, hb⟩; rw [← HFF.out])
          have F2_base := Lib.hid (F1_base.out.trans (hb.mono F1_base.out.size))
          clear hb
          try go_wp2_with fail
          refine hK.out _ _ ?_ (fun hHeld => ?_)
          · exact (HX2.out.on F2_base.out).cells
          clear hK K
          try simp only [zA, zB, zC, Act.put, zD, zE, zF]
          refine wpAnyH_take (i := 10) (v := .bool false) rfl (by kernel_rfl) (by kernel_rfl) (by kernel_rfl) (fun _ _ _ h => h) (Or.inl ⟨by rfl, fun W hSW => ?_⟩) hHeld ?_
          · ((try dsimp only at hSW); go_split_ands; go_simp <;> with_reducible rfl)
          try simp only [zA, zB, zC, Act.put, zD, zE, zF]
          refine wpAnyH_take (i := 11) (v := .bool false) rfl (by kernel_rfl) (by kernel_rfl) (by kernel_rfl) (fun _ _ _ h => h) (Or.inl ⟨by rfl, fun W hSW => ?_⟩) hHeld ?_
          · ((try dsimp only at hSW); go_split_ands; go_simp <;> with_reducible rfl)
          try simp only [zA, zB, zC, Act.put, zD, zE, zF]
          refine wpAnyH_take (i := 12) (v := .bool false) rfl (by kernel_rfl) (by kernel_rfl) (by kernel_rfl) (fun _ _ _ h => h) (Or.inl ⟨by rfl, fun W hSW => ?_⟩) hHeld ?_
          · ((try dsimp only at hSW); go_split_ands; go_simp <;> with_reducible rfl)
          try simp only [zA, zB, zC, Act.put, zD, zE, zF]
          refine wpAnyH_take (i := 13) (v := .pointer (some ⟨W.heap.size, 0, none⟩)) rfl (by kernel_rfl) (by kernel_rfl) (by kernel_rfl) (fun _ _ _ h => h) (Or.inl ⟨by rfl, fun W hSW => ?_⟩) hHeld ?_
          · ((try dsimp only at hSW); go_split_ands; go_simp <;> with_reducible rfl)
          try simp only [zA, zB, zC, Act.put, zD, zE, zF]
          refine wpAnyH_take (i := 14) (v := .slice ua xs.length uc) rfl (by kernel_rfl) (by kernel_rfl) (by kernel_rfl) (fun _ _ _ h => h) (Or.inl ⟨by rfl, fun W hSW => ?_⟩) hHeld ?_
          · ((try dsimp only at hSW); go_split_ands; go_simp <;> with_reducible rfl)
          try simp only [zA, zB, zC, Act.put, zD, zE, zF]
          refine wpAnyH_take (i := 16) (v := .pointer (some ⟨W.heap.size, 1, none⟩)) rfl (by kernel_rfl) (by kernel_rfl) (by kernel_rfl) (fun _ _ _ h => h) (Or.inl ⟨by rfl, fun W hSW => ?_⟩) hHeld ?_
          · ((try dsimp only at hSW); go_split_ands; go_simp <;> with_reducible rfl)
          try simp only [zA, zB, zC, Act.put, zD, zE, zF]
          refine wpAnyH_take (i := 17) (v := .slice (some ⟨W.heap.size, 1, none⟩) 7 7) rfl (by kernel_rfl) (by kernel_rfl) (by kernel_rfl) (fun _ _ _ h => h) (Or.inl ⟨by rfl, fun W hSW => ?_⟩) hHeld ?_
          · ((try dsimp only at hSW); go_split_ands; go_simp <;> with_reducible rfl)
          try simp only [zA, zB, zC, Act.put, zD, zE, zF]
          refine wpAnyH_take (i := 19) (v := .pointer (some ⟨W.heap.size, 10, none⟩)) rfl (by kernel_rfl) (by kernel_rfl) (by kernel_rfl) (fun _ _ _ h => h) (Or.inl ⟨by rfl, fun W hSW => ?_⟩) hHeld ?_
          · ((try dsimp only at hSW); go_split_ands; go_simp <;> with_reducible rfl)
          try simp only [zA, zB, zC, Act.put, zD, zE, zF]
          refine wpAnyH_take (i := 20) (v := .int .i64 bd) rfl (by kernel_rfl) (by kernel_rfl) (by kernel_rfl) (fun _ _ _ h => h) (Or.inl ⟨by rfl, fun W hSW => ?_⟩) hHeld ?_
          · ((try dsimp only at hSW); go_split_ands; go_simp <;> with_reducible rfl)
          try simp only [zA, zB, zC, Act.put, zD, zE, zF]
          refine wpAnyH_ready (rs := [15, 21]) (by kernel_rfl) (by simp) ?_
          refine AllReadyH.cons rfl (fun K hK => ?_) ?_
          · try simp only [zA, zB, zC]
            go_simp
            obtain ⟨wy3, ey⟩ : ∃ y, y = wy2.alloc (.cells #[] 3) := ⟨_, rfl⟩
            rw [← ey]
            have hb : Below wy2.heap.size wy2 wy3 := by rw [ey]; exact (Below.refl _ _).alloc (Nat.le_refl _) _
            have F3_base := Lib.hid (F2_base.out.trans (hb.mono F2_base.out.size))
            have F3_li := Lib.hid (show wy3.heap[wy2.heap.size]? = some (.cells #[] 3) by rw [ey]; exact heap_alloc_new _ _)
            have G3_li := Lib.hid (show w0.heap.size ≤ wy2.heap.size from F2_base.out.size)
            clear ey hb
            refine hK.out _ _ ?_ (fun hHeld => ?_)
            · exact (HX2.out.on F3_base.out).cells
            clear hK K
            try simp only [zA, zB, zC, Act.put, zD, zE, zF]
            refine wpAnyH_ready (rs := [18, 21]) (by kernel_rfl) (by simp) ?_
            refine AllReadyH.cons rfl (fun K hK => ?_) ?_
            · refine step_append_anyG (by rfl) (.tmp 38) (.tmp 40) 29 rfl w0.heap.size 3 j0 (.int .i64 0) 1 8 Tryd.underlying29 hj0 hw0 hw1 hw2 rfl (by decide) (.slice (some ⟨wy2.heap.size, 0, none⟩) 0 0) 0 [] (by rfl) (lit_rowS F3_li.out G3_li.out) (.slice (some ⟨W.heap.size, 1, none⟩) 7 7) 7 (intsV [c0, c1, c2, c3, c4, c5, c6]) (by rfl) (by rw [intsV_len]; rfl) ((HX2.out.on F3_base.out).src) (GG.oneCell_ints [c0, c1, c2, c3, c4, c5, c6]) (by unfold maxLen; omega) (by omega) F3_base.out.size ?_
              intro vai wy4 ho hg
              have F4_base := Lib.hid (F3_base.out.grown hg F3_base.out.size (fun k e => by cases e; exact G3_li.out))
              have F4_ai := Lib.hid (own0S ho)
              obtain ⟨aai, cai, rfl⟩ := SS.ownOf F4_ai.out
              clear ho hg
              refine hK.out _ _ ?_ (fun hHeld => ?_)
              · exact (HX2.out.on F4_base.out).cells
              clear hK K
              try simp only [zA, zB, zC, Act.put, zD, zE, zF]
              refine wpAnyH_ready (rs := [21]) (by kernel_rfl) (by simp) ?_
              refine AllReadyH.cons rfl (fun K hK => ?_) AllReadyH.nil
              try simp only [zA, zB, zC]
              go_simp
              obtain ⟨wy5, ey⟩ : ∃ y, y = wy4.alloc (.cells #[.int .i64 bd] 3) := ⟨_, rfl⟩
              rw [← ey]
              have hb : Below wy4.heap.size wy4 wy5 := by rw [ey]; exact (Below.refl _ _).alloc (Nat.le_refl _) _
              have F5_base := Lib.hid (F4_base.out.trans (hb.mono F4_base.out.size))
              have F5_ai := Lib.hid (SS.own_of_block F4_ai.out (fun k e => hb.block k (F4_ai.out.lt k e).2))
              have F5_l1 := Lib.hid (show wy5.heap[wy4.heap.size]? = some (.cells #[.int .i64 bd] 3) by rw [ey]; exact heap_alloc_new _ _)
              have G5_l1 := Lib.hid (show w0.heap.size ≤ wy4.heap.size from F4_base.out.size)
              clear ey hb
              refine hK.out _ _ ?_ (fun hHeld => ?_)
              · exact (HX2.out.on F5_base.out).cells
              clear hK K
              try simp only [zA, zB, zC, Act.put, zD, zE, zF]
              refine wpAnyH_ready (rs := [22]) (by kernel_rfl) (by simp) ?_
              refine AllReadyH.cons rfl (fun K hK => ?_) AllReadyH.nil
              refine step_append_anyG (by rfl) (.tmp 41) (.tmp 44) 29 rfl w0.heap.size 3 j0 (.int .i64 0) 1 8 Tryd.underlying29 hj0 hw0 hw1 hw2 rfl (by decide) (.slice aai 7 cai) 7 (intsV [c0, c1, c2, c3, c4, c5, c6]) (by rfl) F5_ai.out (.slice (some ⟨wy4.heap.size, 0, none⟩) 1 1) 1 [.int .i64 bd] (by rfl) (by simp) (Or.inr ⟨_, _, rfl, World.news_of_block F5_l1.out⟩) (by simp [Value.oneCell']) (by unfold maxLen; omega) (by omega) F5_base.out.size ?_
              intro val wy6 ho hg
              have F6_base := Lib.hid (F5_base.out.grown hg F5_base.out.size (fun k e => (F5_ai.out.lt k e).1))
              have F6_al := Lib.hid ho
              clear ho hg
              refine hK.out _ _ ?_ (fun hHeld => ?_)
              · exact (HX2.out.on F6_base.out).cells
              clear hK K
              try simp only [zA, zB, zC, Act.put, zD, zE, zF]
              refine wpAnyH_ready (rs := [23]) (by kernel_rfl) (by simp) ?_
              refine AllReadyH.cons rfl (fun K hK => ?_) AllReadyH.nil
              try simp only [zA, zB, zC]
              go_simp
              (go_at_call 27; refine (rlevels_any _ _ _ (l := [c0, c1, c2, c3, c4, c5, c6] ++ [bd]) wy6 (row_ofS (l := [c0, c1, c2, c3, c4, c5, c6] ++ [bd]) F6_al.out) (by omega) (by simp)).mono ?_; rintro e wy7 ⟨rfl, hb⟩; rw [← HVV.out]; have hb : Below wy6.heap.size wy6 wy7 := (by rw [← hb]; exact Below.refl _ _))
              have F7_base := Lib.hid (F6_base.out.trans (hb.mono F6_base.out.size))
              have F7_al := Lib.hid (SS.own_of_block F6_al.out (fun k e => hb.block k (F6_al.out.lt k e).2))
              clear hb
              try go_wp2_with fail
              refine hK.out _ _ ?_ (fun hHeld => ?_)
              · exact (HX2.out.on F7_base.out).cells
              clear hK K
              try simp only [zA, zB, zC, Act.put, zD, zE, zF]
              refine wpAnyH_take (i := 24) (v := .bool (!zv)) rfl (by kernel_rfl) (by kernel_rfl) (by kernel_rfl) (fun _ _ _ h => h) (Or.inl ⟨by rfl, fun W hSW => ?_⟩) hHeld ?_
              · ((try dsimp only at hSW); go_split_ands; go_simp <;> with_reducible rfl)
              try simp only [zA, zB, zC, Act.put, zD, zE, zF]
              refine wpAnyH_take (i := 25) (v := .bool (!zv)) rfl (by kernel_rfl) (by kernel_rfl) (by kernel_rfl) (fun _ _ _ h => h) (Or.inl ⟨by rfl, fun W hSW => ?_⟩) hHeld ?_
              · ((try dsimp only at hSW); go_split_ands; go_simp <;> with_reducible rfl)
              try simp only [zA, zB, zC, Act.put, zD, zE, zF]
              refine wpAnyH_done (by kernel_rfl) ?_ _
              clear hHeld
              go_wp2_with fail
              go_meet
              case rel => exact ⟨rfl, rfl, rfl, (HX2.out.on F7_base.out), (F7_base.out.block _ (Array.getElem?_eq_some_iff.1 HL2.out).1).trans HL2.out⟩
            refine AllReadyH.cons rfl (fun K hK => ?_) ?_
            · try simp only [zA, zB, zC]
              go_simp
              obtain ⟨wy4, ey⟩ : ∃ y, y = wy3.alloc (.cells #[.int .i64 bd] 3) := ⟨_, rfl⟩
              rw [← ey]
              have hb : Below wy3.heap.size wy3 wy4 := by rw [ey]; exact (Below.refl _ _).alloc (Nat.le_refl _) _
              have F4_base := Lib.hid (F3_base.out.trans (hb.mono F3_base.out.size))
              have F4_li := Lib.hid ((hb.block _ (Array.getElem?_eq_some_iff.1 F3_li.out).1).trans F3_li.out)
              have F4_ge_li := Lib.hid (G3_li.out)
              have F4_l1 := Lib.hid (show wy4.heap[wy3.heap.size]? = some (.cells #[.int .i64 bd] 3) by rw [ey]; exact heap_alloc_new _ _)
              have G4_l1 := Lib.hid (show w0.heap.size ≤ wy3.heap.size from F3_base.out.size)
              clear ey hb
              refine hK.out _ _ ?_ (fun hHeld => ?_)
              · exact (HX2.out.on F4_base.out).cells
              clear hK K
              try simp only [zA, zB, zC, Act.put, zD, zE, zF]
              refine wpAnyH_ready (rs := [18]) (by kernel_rfl) (by simp) ?_
              refine AllReadyH.cons rfl (fun K hK => ?_) AllReadyH.nil
              refine step_append_anyG (by rfl) (.tmp 38) (.tmp 40) 29 rfl w0.heap.size 3 j0 (.int .i64 0) 1 8 Tryd.underlying29 hj0 hw0 hw1 hw2 rfl (by decide) (.slice (some ⟨wy2.heap.size, 0, none⟩) 0 0) 0 [] (by rfl) (lit_rowS F4_li.out F4_ge_li.out) (.slice (some ⟨W.heap.size, 1, none⟩) 7 7) 7 (intsV [c0, c1, c2, c3, c4, c5, c6]) (by rfl) (by rw [intsV_len]; rfl) ((HX2.out.on F4_base.out).src) (GG.oneCell_ints [c0, c1, c2, c3, c4, c5, c6]) (by unfold maxLen; omega) (by omega) F4_base.out.size ?_
              intro vai wy5 ho hg
              have F5_base := Lib.hid (F4_base.out.grown hg F4_base.out.size (fun k e => by cases e; exact F4_ge_li.out))
              have F5_l1 := Lib.hid (lab_keep hg F4_li.out F4_l1.out (by simp))
              have F5_ge_l1 := Lib.hid (G4_l1.out)
              have F5_ai := Lib.hid (own0S ho)
              obtain ⟨aai, cai, rfl⟩ := SS.ownOf F5_ai.out
              clear ho hg
              refine hK.out _ _ ?_ (fun hHeld => ?_)
              · exact (HX2.out.on F5_base.out).cells
              clear hK K
              try simp only [zA, zB, zC, Act.put, zD, zE, zF]
              refine wpAnyH_ready (rs := [22]) (by kernel_rfl) (by simp) ?_
              refine AllReadyH.cons rfl (fun K hK => ?_) AllReadyH.nil
              refine step_append_anyG (by rfl) (.tmp 41) (.tmp 44) 29 rfl w0.heap.size 3 j0 (.int .i64 0) 1 8 Tryd.underlying29 hj0 hw0 hw1 hw2 rfl (by decide) (.slice aai 7 cai) 7 (intsV [c0, c1, c2, c3, c4, c5, c6]) (by rfl) F5_ai.out (.slice (some ⟨wy3.heap.size, 0, none⟩) 1 1) 1 [.int .i64 bd] (by rfl) (by simp) (Or.inr ⟨_, _, rfl, World.news_of_block F5_l1.out⟩) (by simp [Value.oneCell']) (by unfold maxLen; omega) (by omega) F5_base.out.size ?_
              intro val wy6 ho hg
              have F6_base := Lib.hid (F5_base.out.grown hg F5_base.out.size (fun k e => (F5_ai.out.lt k e).1))
              have F6_al := Lib.hid ho
              clear ho hg
              refine hK.out _ _ ?_ (fun hHeld => ?_)
              · exact (HX2.out.on F6_base.out).cells
              clear hK K
              try simp only [zA, zB, zC, Act.put, zD, zE, zF]
              refine wpAnyH_ready (rs := [23]) (by kernel_rfl) (by simp) ?_
              refine AllReadyH.cons rfl (fun K hK => ?_) AllReadyH.nil
              try simp only [zA, zB, zC]
              go_simp
              (go_at_call 27; refine (rlevels_any _ _ _ (l := [c0, c1, c2, c3, c4, c5, c6] ++ [bd]) wy6 (row_ofS (l := [c0, c1, c2, c3, c4, c5, c6] ++ [bd]) F6_al.out) (by omega) (by simp)).mono ?_; rintro e wy7 ⟨rfl, hb⟩; rw [← HVV.out]; have hb : Below wy6.heap.size wy6 wy7 := (by rw [← hb]; exact Below.refl _ _))
              have F7_base := Lib.hid (F6_base.out.trans (hb.mono F6_base.out.size))
              have F7_al := Lib.hid (SS.own_of_block F6_al.out (fun k e => hb.block k (F6_al.out.lt k e).2))
              clear hb
              try go_wp2_with fail
              refine hK.out _ _ ?_ (fun hHeld => ?_)
              · exact (HX2.out.on F7_base.out).cells
              clear hK K
              try simp only [zA, zB, zC, Act.put, zD, zE, zF]
              refine wpAnyH_take (i := 24) (v := .bool (!zv)) rfl (by kernel_rfl) (by kernel_rfl) (by kernel_rfl) (fun _ _ _ h => h) (Or.inl ⟨by rfl, fun W hSW => ?_⟩) hHeld ?_
              · ((try dsimp only at hSW); go_split_ands; go_simp <;> with_reducible rfl)
              try simp only [zA, zB, zC, Act.put, zD, zE, zF]
              refine wpAnyH_take (i := 25) (v := .bool (!zv)) rfl (by kernel_rfl) (by kernel_rfl) (by kernel_rfl) (fun _ _ _ h => h) (Or.inl ⟨by rfl, fun W hSW => ?_⟩) hHeld ?_
              · ((try dsimp only at hSW); go_split_ands; go_simp <;> with_reducible rfl)
              try simp only [zA, zB, zC, Act.put, zD, zE, zF]
              refine wpAnyH_done (by kernel_rfl) ?_ _
              clear hHeld
              go_wp2_with fail
              go_meet
              case rel => exact ⟨rfl, rfl, rfl, (HX2.out.on F7_base.out), (F7_base.out.block _ (Array.getElem?_eq_some_iff.1 HL2.out).1).trans HL2.out⟩
            exact AllReadyH.nil
          refine AllReadyH.cons rfl (fun K hK => ?_) ?_
          · try simp only [zA, zB, zC]
            go_simp
            obtain ⟨wy3, ey⟩ : ∃ y, y = wy2.alloc (.cells #[.int .i64 bd] 3) := ⟨_, rfl⟩
            rw [← ey]
            have hb : Below wy2.heap.size wy2 wy3 := by rw [ey]; exact (Below.refl _ _).alloc (Nat.le_refl _) _
            have F3_base := Lib.hid (F2_base.out.trans (hb.mono F2_base.out.size))
            have F3_l1 := Lib.hid (show wy3.heap[wy2.heap.size]? = some (.cells #[.int .i64 bd] 3) by rw [ey]; exact heap_alloc_new _ _)
            have G3_l1 := Lib.hid (show w0.heap.size ≤ wy2.heap.size from F2_base.out.size)
            clear ey hb
            refine hK.out _ _ ?_ (fun hHeld => ?_)
            · exact (HX2.out.on F3_base.out).cells
            clear hK K
            try simp only [zA, zB, zC, Act.put, zD, zE, zF]
            refine wpAnyH_ready (rs := [15]) (by kernel_rfl) (by simp) ?_
            refine AllReadyH.cons rfl (fun K hK => ?_) AllReadyH.nil
            try simp only [zA, zB, zC]
            go_simp
            obtain ⟨wy4, ey⟩ : ∃ y, y = wy3.alloc (.cells #[] 3) := ⟨_, rfl⟩
            rw [← ey]
            have hb : Below wy3.heap.size wy3 wy4 := by rw [ey]; exact (Below.refl _ _).alloc (Nat.le_refl _) _
            have F4_base := Lib.hid (F3_base.out.trans (hb.mono F3_base.out.size))
            have F4_l1 := Lib.hid ((hb.block _ (Array.getElem?_eq_some_iff.1 F3_l1.out).1).trans F3_l1.out)
            have F4_ge_l1 := Lib.hid (G3_l1.out)
            have F4_li := Lib.hid (show wy4.heap[wy3.heap.size]? = some (.cells #[] 3) by rw [ey]; exact heap_alloc_new _ _)
            have G4_li := Lib.hid (show w0.heap.size ≤ wy3.heap.size from F3_base.out.size)
            clear ey hb
            refine hK.out _ _ ?_ (fun hHeld => ?_)
            · exact (HX2.out.on F4_base.out).cells
            clear hK K
            try simp only [zA, zB, zC, Act.put, zD, zE, zF]
            refine wpAnyH_ready (rs := [18]) (by kernel_rfl) (by simp) ?_
            refine AllReadyH.cons rfl (fun K hK => ?_) AllReadyH.nil
            refine step_append_anyG (by rfl) (.tmp 38) (.tmp 40) 29 rfl w0.heap.size 3 j0 (.int .i64 0) 1 8 Tryd.underlying29 hj0 hw0 hw1 hw2 rfl (by decide) (.slice (some ⟨wy3.heap.size, 0, none⟩) 0 0) 0 [] (by rfl) (lit_rowS F4_li.out G4_li.out) (.slice (some ⟨W.heap.size, 1, none⟩) 7 7) 7 (intsV [c0, c1, c2, c3, c4, c5, c6]) (by rfl) (by rw [intsV_len]; rfl) ((HX2.out.on F4_base.out).src) (GG.oneCell_ints [c0, c1, c2, c3, c4, c5, c6]) (by unfold maxLen; omega) (by omega) F4_base.out.size ?_
            intro vai wy5 ho hg
            have F5_base := Lib.hid (F4_base.out.grown hg F4_base.out.size (fun k e => by cases e; exact G4_li.out))
            have F5_l1 := Lib.hid (lab_keep hg F4_li.out F4_l1.out (by simp))
            have F5_ge_l1 := Lib.hid (F4_ge_l1.out)
            have F5_ai := Lib.hid (own0S ho)
            obtain ⟨aai, cai, rfl⟩ := SS.ownOf F5_ai.out
            clear ho hg
            refine hK.out _ _ ?_ (fun hHeld => ?_)
            · exact (HX2.out.on F5_base.out).cells
            clear hK K
            try simp only [zA, zB, zC, Act.put, zD, zE, zF]
            refine wpAnyH_ready (rs := [22]) (by kernel_rfl) (by simp) ?_
            refine AllReadyH.cons rfl (fun K hK => ?_) AllReadyH.nil
            refine step_append_anyG (by rfl) (.tmp 41) (.tmp 44) 29 rfl w0.heap.size 3 j0 (.int .i64 0) 1 8 Tryd.underlying29 hj0 hw0 hw1 hw2 rfl (by decide) (.slice aai 7 cai) 7 (intsV [c0, c1, c2, c3, c4, c5, c6]) (by rfl) F5_ai.out (.slice (some ⟨wy2.heap.size, 0, none⟩) 1 1) 1 [.int .i64 bd] (by rfl) (by simp) (Or.inr ⟨_, _, rfl, World.news_of_block F5_l1.out⟩) (by simp [Value.oneCell']) (by unfold maxLen; omega) (by omega) F5_base.out.size ?_
            intro val wy6 ho hg
            have F6_base := Lib.hid (F5_base.out.grown hg F5_base.out.size (fun k e => (F5_ai.out.lt k e).1))
            have F6_al := Lib.hid ho
            clear ho hg
            refine hK.out _ _ ?_ (fun hHeld => ?_)
            · exact (HX2.out.on F6_base.out).cells
            clear hK K
            try simp only [zA, zB, zC, Act.put, zD, zE, zF]
            refine wpAnyH_ready (rs := [23]) (by kernel_rfl) (by simp) ?_
            refine AllReadyH.cons rfl (fun K hK => ?_) AllReadyH.nil
            try simp only [zA, zB, zC]
            go_simp
            (go_at_call 27; refine (rlevels_any _ _ _ (l := [c0, c1, c2, c3, c4, c5, c6] ++ [bd]) wy6 (row_ofS (l := [c0, c1, c2, c3, c4, c5, c6] ++ [bd]) F6_al.out) (by omega) (by simp)).mono ?_; rintro e wy7 ⟨rfl, hb⟩; rw [← HVV.out]; have hb : Below wy6.heap.size wy6 wy7 := (by rw [← hb]; exact Below.refl _ _))
            have F7_base := Lib.hid (F6_base.out.trans (hb.mono F6_base.out.size))
            have F7_al := Lib.hid (SS.own_of_block F6_al.out (fun k e => hb.block k (F6_al.out.lt k e).2))
            clear hb
            try go_wp2_with fail
            refine hK.out _ _ ?_ (fun hHeld => ?_)
            · exact (HX2.out.on F7_base.out).cells
            clear hK K
            try simp only [zA, zB, zC, Act.put, zD, zE, zF]
            refine wpAnyH_take (i := 24) (v := .bool (!zv)) rfl (by kernel_rfl) (by kernel_rfl) (by kernel_rfl) (fun _ _ _ h => h) (Or.inl ⟨by rfl, fun W hSW => ?_⟩) hHeld ?_
            · ((try dsimp only at hSW); go_split_ands; go_simp <;> with_reducible rfl)
            try simp only [zA, zB, zC, Act.put, zD, zE, zF]
            refine wpAnyH_take (i := 25) (v := .bool (!zv)) rfl (by kernel_rfl) (by kernel_rfl) (by kernel_rfl) (fun _ _ _ h => h) (Or.inl ⟨by rfl, fun W hSW => ?_⟩) hHeld ?_
            · ((try dsimp only at hSW); go_split_ands; go_simp <;> with_reducible rfl)
            try simp only [zA, zB, zC, Act.put, zD, zE, zF]
            refine wpAnyH_done (by kernel_rfl) ?_ _
            clear hHeld
            go_wp2_with fail
            go_meet
            case rel => exact ⟨rfl, rfl, rfl, (HX2.out.on F7_base.out), (F7_base.out.block _ (Array.getElem?_eq_some_iff.1 HL2.out).1).trans HL2.out⟩
          exact AllReadyH.nil
    case rest =>
      obtain ⟨rfl, rfl, rfl, hx9, hl9⟩ := hcut
      have HX3 := Lib.hid hx9
      have HL3 := Lib.hid hl9
      clear hx9 hl9 HX1 HL1 hc0 hc1 hc2 hc3 hc4 hc5 hc6 hc7 hc8 hc9 hc10
      rw [← HIS.out]
      cases z with
      | false =>
        have hl := HL.out
        simp only [zero7, Bool.false_eq_true, if_false, List.cons.injEq, and_true] at hl
        obtain ⟨rfl, rfl, rfl, rfl, rfl, rfl, rfl⟩ := hl
        obtain ⟨⟨_, _, _, _, _, _, _⟩, _⟩ := one7 HL3.out
        have hE := eq_seven 0 0 0 0 0 0 0 (by decide)
        clear HL HZ HIS
        go_wp2_with (go_at_call 20; refine (HAW.out _ HX3.out.1).mono ?_; rintro e w9 ⟨rfl, hb⟩; have HF := Lib.hid (HX3.out.on hb); clear hb)
        go_ret
        exact ⟨rfl, HF.out.1⟩
      | true =>
        have hz := HIS.out.symm
        rw [Bool.and_eq_true, Bool.and_eq_true] at hz
        have HRB := Lib.hid (HRR.out.symm.trans hz.1)
        have hcb := HZ.out.symm
        unfold capB at hcb
        rw [Bool.and_eq_true, Bool.and_eq_true] at hcb
        have HFI := Lib.hid hcb.1
        have hlv := levB_iff.1 hcb.2.2
        have HLC := Lib.hid (show levB xs.length [c0, c1, c2, c3, c4, c5, c6] = true from levB_iff.2 fun c hc => hlv c (List.mem_append_left _ hc))
        have HBD := Lib.hid (show 0 ≤ bd ∧ bd < xs.length from hlv bd (by simp))
        have hl := HL.out
        rw [if_pos rfl] at hl
        have HRC := Lib.hid (fun w (hb : Below W.heap.size W w) => (by
          have h := rcap_any (cs := [c0, c1, c2, c3, c4, c5, c6]) (a := a) (m := m) (bd := bd) w ((HU.out.below hb).mono hb.size) HX.out HBIG.out rfl HM.out HRB.out HLC.out HBD.out HFI.out
          rw [hl] at h
          exact h : Calls Tryd.prog 30 #[.slice ua xs.length uc, .agg #[.int .i64 c0, .int .i64 c1, .int .i64 c2, .int .i64 c3, .int .i64 c4, .int .i64 c5, .int .i64 c6], .agg #[.int .i64 a, .int .u64 m], .int .i64 bd] w fun e V => e = .returned (.agg #[.int .i64 d0, .int .i64 d1, .int .i64 d2, .int .i64 d3, .int .i64 d4, .int .i64 d5, .int .i64 d6]) ∧ Below w.heap.size w V))
        have hE := eq_seven d0 d1 d2 d3 d4 d5 d6 (by rw [← hl]; exact fun c hc => wf_levC HBIG.out (levB_iff.1 (capF_lev _ HRB.out HBD.out HLC.out) c hc))
        clear hz hcb hlv hl HL HZ HIS
        go_upto_region 6 with fail
        have HX4 := Lib.hid HX3.out.drew
        have HL4 := Lib.hid (show wc.drew.heap[lb]? = some (.cells #[.int .i64 d0, .int .i64 d1, .int .i64 d2, .int .i64 d3, .int .i64 d4, .int .i64 d5, .int .i64 d6] 56) from HL3.out)
        refine wp_region_held_drew (S := (fun V => V.cell? ⟨W.heap.size, 0, none⟩ = some (.slice ua xs.length uc) ∧ V.cell? ⟨W.heap.size, 1, none⟩ = some (.int .i64 c0) ∧ V.cell? ⟨W.heap.size, 2, none⟩ = some (.int .i64 c1) ∧ V.cell? ⟨W.heap.size, 3, none⟩ = some (.int .i64 c2) ∧ V.cell? ⟨W.heap.size, 4, none⟩ = some (.int .i64 c3) ∧ V.cell? ⟨W.heap.size, 5, none⟩ = some (.int .i64 c4) ∧ V.cell? ⟨W.heap.size, 6, none⟩ = some (.int .i64 c5) ∧ V.cell? ⟨W.heap.size, 7, none⟩ = some (.int .i64 c6) ∧ V.cell? ⟨W.heap.size, 8, none⟩ = some (.int .i64 a) ∧ V.cell? ⟨W.heap.size, 9, none⟩ = some (.int .u64 m) ∧ V.cell? ⟨W.heap.size, 10, none⟩ = some (.int .i64 bd) ∧ (V.cell? ⟨lb, 0, none⟩ = some (.int .i64 d0) ∧ V.cell? ⟨lb, 1, none⟩ = some (.int .i64 d1) ∧ V.cell? ⟨lb, 2, none⟩ = some (.int .i64 d2) ∧ V.cell? ⟨lb, 3, none⟩ = some (.int .i64 d3) ∧ V.cell? ⟨lb, 4, none⟩ = some (.int .i64 d4) ∧ V.cell? ⟨lb, 5, none⟩ = some (.int .i64 d5) ∧ V.cell? ⟨lb, 6, none⟩ = some (.int .i64 d6)))) (by kernel_rfl) ?_ (fun hHeld => ?_)
        · obtain ⟨g0, g1, g2, g3, g4, g5, g6, g7, g8, g9, g10⟩ := HX4.out.cells
          exact ⟨g0, g1, g2, g3, g4, g5, g6, g7, g8, g9, g10, (one7 HL4.out).1⟩
        generalize wc.drew = w0 at HX4 HL4 hHeld ⊢
        have HR0 := Lib.hid (Below.refl w0.heap.size w0)
        refine wpAnyH_take (i := 0) (v := .bool true) rfl (by kernel_rfl) (by kernel_rfl) (by kernel_rfl) (fun _ _ _ h => h) (Or.inl ⟨by rfl, fun W hSW => ?_⟩) hHeld ?_
        · ((try dsimp only at hSW); go_split_ands; go_simp <;> with_reducible rfl)
        try simp only [zA, zB, zC, Act.put, zD, zE, zF]
        refine wpAnyH_take (i := 1) (v := .bool true) rfl (by kernel_rfl) (by kernel_rfl) (by kernel_rfl) (fun _ _ _ h => h) (Or.inl ⟨by rfl, fun W hSW => ?_⟩) hHeld ?_
        · ((try dsimp only at hSW); go_split_ands; go_simp <;> with_reducible rfl)
        try simp only [zA, zB, zC, Act.put, zD, zE, zF]
        refine wpAnyH_take (i := 2) (v := .agg #[.int .i64 d0, .int .i64 d1, .int .i64 d2, .int .i64 d3, .int .i64 d4, .int .i64 d5, .int .i64 d6]) rfl (by kernel_rfl) (by kernel_rfl) (by kernel_rfl) (fun _ _ _ h => h) (Or.inl ⟨by rfl, fun W hSW => ?_⟩) hHeld ?_
        · ((try dsimp only at hSW); go_split_ands; go_simp <;> with_reducible rfl)
        try simp only [zA, zB, zC, Act.put, zD, zE, zF]
        refine wpAnyH_take (i := 3) (v := .pointer (some ⟨W.heap.size, 0, none⟩)) rfl (by kernel_rfl) (by kernel_rfl) (by kernel_rfl) (fun _ _ _ h => h) (Or.inl ⟨by rfl, fun W hSW => ?_⟩) hHeld ?_
        · ((try dsimp only at hSW); go_split_ands; go_simp <;> with_reducible rfl)
        try simp only [zA, zB, zC, Act.put, zD, zE, zF]
        refine wpAnyH_take (i := 4) (v := .slice ua xs.length uc) rfl (by kernel_rfl) (by kernel_rfl) (by kernel_rfl) (fun _ _ _ h => h) (Or.inl ⟨by rfl, fun W hSW => ?_⟩) hHeld ?_
        · ((try dsimp only at hSW); go_split_ands; go_simp <;> with_reducible rfl)
        try simp only [zA, zB, zC, Act.put, zD, zE, zF]
        refine wpAnyH_take (i := 5) (v := .pointer (some ⟨W.heap.size, 1, none⟩)) rfl (by kernel_rfl) (by kernel_rfl) (by kernel_rfl) (fun _ _ _ h => h) (Or.inl ⟨by rfl, fun W hSW => ?_⟩) hHeld ?_
        · ((try dsimp only at hSW); go_split_ands; go_simp <;> with_reducible rfl)
        try simp only [zA, zB, zC, Act.put, zD, zE, zF]
        refine wpAnyH_take (i := 6) (v := .agg #[.int .i64 c0, .int .i64 c1, .int .i64 c2, .int .i64 c3, .int .i64 c4, .int .i64 c5, .int .i64 c6]) rfl (by kernel_rfl) (by kernel_rfl) (by kernel_rfl) (fun _ _ _ h => h) (Or.inl ⟨by rfl, fun W hSW => ?_⟩) hHeld ?_
        · ((try dsimp only at hSW); go_split_ands; go_simp <;> with_reducible rfl)
        try simp only [zA, zB, zC, Act.put, zD, zE, zF]
        refine wpAnyH_take (i := 7) (v := .pointer (some ⟨W.heap.size, 8, none⟩)) rfl (by kernel_rfl) (by kernel_rfl) (by kernel_rfl) (fun _ _ _ h => h) (Or.inl ⟨by rfl, fun W hSW => ?_⟩) hHeld ?_
        · ((try dsimp only at hSW); go_split_ands; go_simp <;> with_reducible rfl)
        try simp only [zA, zB, zC, Act.put, zD, zE, zF]
        refine wpAnyH_take (i := 8) (v := .agg #[.int .i64 a, .int .u64 m]) rfl (by kernel_rfl) (by kernel_rfl) (by kernel_rfl) (fun _ _ _ h => h) (Or.inl ⟨by rfl, fun W hSW => ?_⟩) hHeld ?_
        · ((try dsimp only at hSW); go_split_ands; go_simp <;> with_reducible rfl)
        try simp only [zA, zB, zC, Act.put, zD, zE, zF]
        refine wpAnyH_take (i := 9) (v := .pointer (some ⟨W.heap.size, 10, none⟩)) rfl (by kernel_rfl) (by kernel_rfl) (by kernel_rfl) (fun _ _ _ h => h) (Or.inl ⟨by rfl, fun W hSW => ?_⟩) hHeld ?_
        · ((try dsimp only at hSW); go_split_ands; go_simp <;> with_reducible rfl)
        try simp only [zA, zB, zC, Act.put, zD, zE, zF]
        refine wpAnyH_take (i := 10) (v := .int .i64 bd) rfl (by kernel_rfl) (by kernel_rfl) (by kernel_rfl) (fun _ _ _ h => h) (Or.inl ⟨by rfl, fun W hSW => ?_⟩) hHeld ?_
        · ((try dsimp only at hSW); go_split_ands; go_simp <;> with_reducible rfl)
        try simp only [zA, zB, zC, Act.put, zD, zE, zF]
        refine wpAnyH_ready (rs := [11]) (by kernel_rfl) (by simp) ?_
        refine AllReadyH.cons rfl (fun K hK => ?_) AllReadyH.nil
        try simp only [zA, zB, zC]
        go_simp
        (go_at_call 30; refine (HRC.out w0 (HX4.out.on HR0.out).1).mono ?_; rintro e wy1 ⟨rfl, hb⟩)
        have F1_base := Lib.hid (HR0.out.trans (hb.mono HR0.out.size))
        clear hb
        try go_wp2_with fail
        refine hK.out _ _ ?_ (fun hHeld => ?_)
        · (obtain ⟨g0, g1, g2, g3, g4, g5, g6, g7, g8, g9, g10⟩ := (HX4.out.on F1_base.out).cells; exact ⟨g0, g1, g2, g3, g4, g5, g6, g7, g8, g9, g10, (one7 ((F1_base.out.block _ (Array.getElem?_eq_some_iff.1 HL4.out).1).trans HL4.out)).1⟩)
        clear hK K
        try simp only [zA, zB, zC, Act.put, zD, zE, zF]
        refine wpAnyH_take (i := 12) (v := .bool true) rfl (by kernel_rfl) (by kernel_rfl) (by kernel_rfl) (fun _ _ _ h => h) (Or.inl ⟨by rfl, fun W hSW => ?_⟩) hHeld ?_
        · ((try dsimp only at hSW); go_split_ands; go_simp <;> with_reducible rfl)
        try simp only [zA, zB, zC, Act.put, zD, zE, zF]
        refine wpAnyH_take (i := 13) (v := .bool true) rfl (by kernel_rfl) (by kernel_rfl) (by kernel_rfl) (fun _ _ _ h => h) (Or.inl ⟨by rfl, fun W hSW => ?_⟩) hHeld ?_
        · ((try dsimp only at hSW); go_split_ands; go_simp <;> with_reducible rfl)
        try simp only [zA, zB, zC, Act.put, zD, zE, zF]
        refine wpAnyH_take (i := 14) (v := .bool true) rfl (by kernel_rfl) (by kernel_rfl) (by kernel_rfl) (fun _ _ _ h => h) (Or.inl ⟨by rfl, fun W hSW => ?_⟩) hHeld ?_
        · ((try dsimp only at hSW); go_split_ands; go_simp <;> with_reducible rfl)
        try simp only [zA, zB, zC, Act.put, zD, zE, zF]
        refine wpAnyH_ready (rs := [15]) (by kernel_rfl) (by simp) ?_
        refine AllReadyH.cons rfl (fun K hK => ?_) AllReadyH.nil
        try simp only [zA, zB, zC]
        go_simp
        (go_at_call 20; refine (HAW.out wy1 (HX4.out.on F1_base.out).1).mono ?_; rintro e wy2 ⟨rfl, hb⟩)
        have F2_base := Lib.hid (F1_base.out.trans (hb.mono F1_base.out.size))
        clear hb
        try go_wp2_with fail
        refine hK.out _ _ ?_ (fun hHeld => ?_)
        · (obtain ⟨g0, g1, g2, g3, g4, g5, g6, g7, g8, g9, g10⟩ := (HX4.out.on F2_base.out).cells; exact ⟨g0, g1, g2, g3, g4, g5, g6, g7, g8, g9, g10, (one7 ((F2_base.out.block _ (Array.getElem?_eq_some_iff.1 HL4.out).1).trans HL4.out)).1⟩)
        clear hK K
        try simp only [zA, zB, zC, Act.put, zD, zE, zF]
        refine wpAnyH_take (i := 16) (v := .bool true) rfl (by kernel_rfl) (by kernel_rfl) (by kernel_rfl) (fun _ _ _ h => h) (Or.inl ⟨by rfl, fun W hSW => ?_⟩) hHeld ?_
        · ((try dsimp only at hSW); go_split_ands; go_simp <;> with_reducible rfl)
        try simp only [zA, zB, zC, Act.put, zD, zE, zF]
        refine wpAnyH_take (i := 17) (v := .bool true) rfl (by kernel_rfl) (by kernel_rfl) (by kernel_rfl) (fun _ _ _ h => h) (Or.inl ⟨by rfl, fun W hSW => ?_⟩) hHeld ?_
        · ((try dsimp only at hSW); go_split_ands; go_simp <;> with_reducible rfl)
        try simp only [zA, zB, zC, Act.put, zD, zE, zF]
        refine wpAnyH_done (by kernel_rfl) ?_ _
        clear hHeld
        go_wp2_with fail
        go_ret
        exact ⟨rfl, (HX4.out.on F2_base.out).1⟩
theorem symCaps_all {uv : Value} {xs : List Int} {a m bd c0 c1 c2 c3 c4 c5 c6 : Int} (W : World) (h : Nums .u64 W.heap.size W uv xs ∧ Wide xs ∧ xs.length ≤ big5 ∧ ∀ n c, uv = .slice none n c → c = 0) (hT : Tz W) (hm : 0 ≤ m ∧ m ≤ 18446744073709551615) :
    Calls Tryd.prog 7 #[.agg #[uv, .int .i64 c0, .int .i64 c1, .int .i64 c2, .int .i64 c3, .int .i64 c4, .int .i64 c5, .int .i64 c6, .int .i64 a, .int .u64 m, .int .i64 bd]] W fun e V => e = .returned (.bool true) ∧ Below W.heap.size W V := by
  obtain ⟨ua, uc, rfl⟩ := h.1.form
  exact symCaps_walk W h.1 (fun e => h.2.2.2 _ _ (by rw [e])) h.2.1 h.2.2.1 hT hm
end Go.Proofs.YtodhoplchficpaaDoor
