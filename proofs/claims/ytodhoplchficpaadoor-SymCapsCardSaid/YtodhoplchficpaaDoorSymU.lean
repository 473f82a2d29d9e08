import Derived.Test.YtodhoplchficpaaDoorSymG
import Derived.Test.YtodhoplchficpaaDoorMaskAll
set_option linter.unusedSimpArgs false
set_option linter.unusedVariables false
/-! sym: Put -/
namespace Go.Proofs.YtodhoplchficpaaDoor
open Go.RowKit Go.Shelf
attribute [local go_sem] Oper.semAt_some
open SV (Lab SysOk Least labs sumOf mu sumP at' natsL askT askI fanN lok ljoin val le Bnd)
/-- an append in a region that draws, inside a fence -/
theorem step_append_in {F : Fence} {n : Nat} {P : Program} {w : World} {ops : Array Oper} {o : Oper} {a : Act} {K : Act → World → Prop} {Q : Exit → Act → World → Prop} {E : Prop} (hg : o.guard = none) (s x : Operand) (t : TypeId)
    (hop : o.op = .call { callee := .builtin .append, args := #[s, x], argTypes := #[t, t] })
    (base : Nat) (e : TypeId) (i : TypeInfo) (z : Value) (size bytes : Nat) (h1 : P.underlying t = some (.slice e)) (h2 : P.info? e = some i) (h3 : i.zero = some z) (h4 : i.size = size) (h5 : i.bytes = bytes) (h6 : z.cells.size = size) (h7 : 0 < size)
    (v : Value) (k : Nat) (xs : List Value) (hs : a.eval s = v) (hown : w.ownsRow base e size v k xs) (ad : Addr) (m c : Nat) (news : List Value) (hx : a.eval x = .slice (some ad) m c) (hn : news.length = m * size)
    (hc : ∀ j u, news[j]? = some u → w.cell? (ad.add j) = some u) (h1c : ∀ u ∈ news, u.oneCell' = true) (b1 : k + m ≤ maxLen) (b2 : (k + m) * bytes ≤ 140737488355328) (b3 : base ≤ w.heap.size)
    (h : ∀ v' w', w'.ownsRow base e size v' (k + m) (xs ++ news) → w.grownBy w' v.ownBlock → K (a.put o.dst v') w') :
    if Region.wanted o (yielded ops a.tmps) = true then Oper.wpIn F n P o a w K Q else E := by
  rw [if_pos (by simp [Region.wanted, hg])]
  obtain ⟨v', w', hrun, r1, r2, r3⟩ := run_append_own (P := P) w base t o.type e i z size bytes h1 h2 h3 h4 h5 h6 h7 v k xs hown ad m c news hn hc h1c b1 b2 b3
  unfold Oper.wpIn
  refine ⟨?_, ?_⟩
  · simp [Oper.about, hop, resolve, Target.leads, Sem.run_pure]
  · rw [Oper.semAt_plain F _ _ (by rw [hop]; intro c hc'; cases hc')]
    simp [execOp, hop, resolve, invoke, builtin, hs, hx, hrun, Result.andThen]
    exact h v' w' r1 r2
set_option maxHeartbeats 400000 in
theorem sput1_any (x : Nat) (W : World) (hx : x < 64) : Calls Tryd.prog 47 #[.int .i64 (x : Int)] W fun e V => e = .returned (.int .i64 (stI x : Int)) ∧ W = V := by
  have b0 : (x : Int) < 64 := by omega
  by_cases h : x = 6
  · have hs := Lib.hid (show (stI x : Int) = 1 by unfold stI; rw [if_pos h]; rfl)
    have hq : ((x : Int) == 6) = true := by rw [h]; rfl
    clear h
    go_enter Tryd.func47, Tryd.ntmps47
    go_wp2
    go_ret
    exact ⟨ret_int hs.out.symm, rfl⟩
  · have hs := Lib.hid (show (stI x : Int) = 2 + (x : Int) by unfold stI; rw [if_neg h]; omega)
    have hq : ((x : Int) == 6) = false := by simp; omega
    clear h
    go_enter Tryd.func47, Tryd.ntmps47
    go_wp2
    go_ret
    exact ⟨ret_int hs.out.symm, rfl⟩
/-- where the bits' labels stand -/
def stV {m : Int} (pre : List (InS m)) : List Int := pre.map fun z => (stI z.1 : Int)
theorem stV_len {m : Int} (pre : List (InS m)) : (stV pre).length = pre.length := by simp [stV]
theorem stV_snoc {m : Int} (pre : List (InS m)) (z : InS m) : stV (pre ++ [z]) = stV pre ++ [(stI z.1 : Int)] := by simp [stV]
def PutE (xs : List Int) (a m : Int) (args : List (Int × Int)) (pc : Int × Int) (W : World) (e : Ending) (V : World) : Prop := e = .returned (jRet (putB xs a m args pc) (putJ xs a m args pc)) ∧ Below W.heap.size W V
def PutI (Bw : Nat) (W5 : World) {m : Int} (pre : List (InS m)) (Wr : World) : Prop :=
  (∃ v, Boxed Wr Bw 29 v ∧ Wr.ownsRow (Bw + 1) 3 1 v (stV pre).length ((stV pre).map (Value.int .i64)) ∧ True) ∧ Below W5.heap.size W5 Wr
theorem row_ofS {W : World} {base e : Nat} {v : Value} {l : List Int} (h : W.ownsRow base e 1 v l.length (l.map (Value.int .i64))) : Row W.heap.size W v l := by
  rcases h.2 with ⟨rfl, h0⟩ | ⟨g, cap, cur, rfl, hg, hb, hle, hm, hsz, ht⟩
  · have e : l = [] := List.length_eq_zero_iff.1 h0
    subst e
    exact cells_empty _ _ _ _ (fun _ => rfl)
  · refine .inr ⟨g, 0, cap, by rw [intsV_len], (Array.getElem?_eq_some_iff.1 hb).1, by rw [intsV_len]; exact hle, fun j u hj => ?_⟩
    simp only [World.cell?, hb, Nat.zero_add]
    have hj2 : (cur.toList.take (l.length * 1))[j]? = some u := by rw [ht]; exact hj
    rw [List.getElem?_take] at hj2
    split at hj2
    · simpa using hj2
    · cases hj2
theorem putAll_wide {a p1 p2 : Int} {args : List (Int × Int)} (h : WideL args) (hp : 0 ≤ p2 ∧ p2 ≤ 18446744073709551615) : WideL ([(a, 0), (p1, p2)] ++ args) := by
  intro p hq
  simp at hq
  rcases hq with rfl | rfl | hq
  · exact ⟨Int.le_refl 0, by show (0 : Int) ≤ _; decide⟩
  · exact hp
  · exact h p hq
theorem stV_in {m a p1 p2 : Int} {args : List (Int × Int)} {ys : List (InS m)} (h : ys.map (fun z => z.1) = MM.bitsOf m) (hf : ∀ i ∈ MM.bitsOf m, i < args.length ∨ i = 6) : ∀ w ∈ stV ys, 0 < w ∧ w < (([(a, 0), (p1, p2)] ++ args).length : Nat) := by
  intro w hw
  obtain ⟨z, hz, rfl⟩ := List.mem_map.1 hw
  have h1 := hf z.1 (by rw [← h]; exact List.mem_map.2 ⟨z, hz, rfl⟩)
  have h2 : 0 < stI z.1 ∧ stI z.1 < args.length + 2 := by
    unfold stI
    by_cases e : z.1 = 6
    · rw [if_pos e]; omega
    · rw [if_neg e]; omega
  have h3 : ([(a, 0), (p1, p2)] ++ args).length = args.length + 2 := by simp
  rw [h3]
  omega
theorem put_val (xs : List Int) (a m : Int) (pc : Int × Int) (args : List (Int × Int)) (hf : fitB m args.length = true) {ys : List (InS m)} (h : ys.map (fun z => z.1) = MM.bitsOf m) : jRet (jB xs ([(a, 0), pc] ++ args)) (joinVal xs ([(a, 0), pc] ++ args) (stV ys)) = jRet (putB xs a m args pc) (putJ xs a m args pc) := by
  have e1 : jB xs ([(a, 0), pc] ++ args) = putB xs a m args pc := by
    unfold putB jB putAll
    rw [hf, Bool.true_and]
    rfl
  have e2 : joinVal xs ([(a, 0), pc] ++ args) (stV ys) = putJ xs a m args pc := by
    unfold joinVal putJ
    have e3 : (stV ys).map Int.toNat = (MM.bitsOf m).map stI := by
      rw [← h]
      unfold stV
      rw [List.map_map, List.map_map]
      rfl
    rw [e3]
    rfl
  rw [e1, e2]
theorem concat_mem (w1 : World) (a p1 p2 : Int) (av : Value) {W2 : World} (e : W2 = (w1.alloc (.cells #[.int .i64 a, .int .u64 0, .int .i64 p1, .int .u64 p2] 38)).alloc (.cells #[.slice (some ⟨w1.heap.size, 0, none⟩) 2 2, av] 23)) :
    W2.heap[w1.heap.size + 1]? = some (.cells #[.slice (some ⟨w1.heap.size, 0, none⟩) 2 2, av] 23) ∧ LabRow W2.heap.size W2 (.slice (some ⟨w1.heap.size, 0, none⟩) 2 2) [(a, 0), (p1, p2)] ∧ Below w1.heap.size w1 W2 := by
  subst e
  refine ⟨SS.new_at (by simp), lab_block (l := [(a, 0), (p1, p2)]) (t := 38) (fr := (0, 0)) ?_, ((Below.refl _ _).alloc (Nat.le_refl _) _).alloc (by simp) _⟩
  rw [heap_alloc_old _ _ (by simp), heap_alloc_new]
  rfl
/-- the blocks of Put's own: the label, the place, the answer -/
def PutB (w : World) (a m p1 p2 : Int) (W : World) : Prop := Below w.heap.size w W ∧ w.heap.size + 3 ≤ W.heap.size ∧ W.heap[w.heap.size]? = some (.cells #[.int .i64 a, .int .u64 m] 38) ∧ W.heap[w.heap.size + 1]? = some (.cells #[.int .i64 p1, .int .u64 p2] 38) ∧ W.heap[w.heap.size + 1 + 1]? = some (.cells #[.int .i64 0, .int .u64 0] 38)
theorem PutB.on {w W V : World} {a m p1 p2 : Int} (h : PutB w a m p1 p2 W) (hb : Below W.heap.size W V) : PutB w a m p1 p2 V :=
  ⟨h.1.trans (hb.mono h.1.size), Nat.le_trans h.2.1 hb.size, (hb.block _ (by have := h.2.1; omega)).trans h.2.2.1, (hb.block _ (by have := h.2.1; omega)).trans h.2.2.2.1, (hb.block _ (by have := h.2.1; omega)).trans h.2.2.2.2⟩
theorem putB_start (w : World) (a m p1 p2 : Int) : PutB w a m p1 p2 (((w.alloc (.cells #[.int .i64 a, .int .u64 m] 38)).alloc (.cells #[.int .i64 p1, .int .u64 p2] 38)).alloc (.cells #[.int .i64 0, .int .u64 0] 38)) :=
  ⟨(((Below.refl _ _).alloc (Nat.le_refl _) _).alloc (by simp) _).alloc (by simp <;> omega) _, by simp, by rw [heap_alloc_old _ _ (by simp <;> omega), heap_alloc_old _ _ (by simp), heap_alloc_new], by rw [heap_alloc_old _ _ (by simp)]; exact SS.new_at (by simp), SS.new_at (by simp)⟩
theorem PutB.cells {w W : World} {a m p1 p2 : Int} (h : PutB w a m p1 p2 W) : W.cell? ⟨w.heap.size, 0, none⟩ = some (.int .i64 a) ∧ W.cell? ⟨w.heap.size, 1, none⟩ = some (.int .u64 m) ∧ W.cell? ⟨w.heap.size + 1, 0, none⟩ = some (.int .i64 p1) ∧ W.cell? ⟨w.heap.size + 1, 1, none⟩ = some (.int .u64 p2) :=
  ⟨(two_lab h.2.2.1).1, (two_lab h.2.2.1).2, (two_lab h.2.2.2.1).1, (two_lab h.2.2.2.1).2⟩
set_option maxRecDepth 100000 in
set_option maxHeartbeats 6400000 in
theorem sput_yes {uv av : Value} {xs : List Int} {a m : Int} {args : List (Int × Int)} {pc : Int × Int} (w : World) (hu : Nums .u64 w.heap.size w uv xs) (hx : Wide xs) (hxl : xs.length ≤ big5) (hT : Tz w) (hav : LabRow w.heap.size w av args) (hwa : WideL args) (hm : 0 ≤ m ∧ m ≤ 18446744073709551615) (hpm : 0 ≤ pc.2 ∧ pc.2 ≤ 18446744073709551615) (hal : args.length ≤ 17592186044416) (hfit : fitB m args.length = true) :
    Calls Tryd.prog 23 #[uv, .agg #[.int .i64 a, .int .u64 m], av, .agg #[.int .i64 pc.1, .int .u64 pc.2]] w fun e V => PutE xs a m args pc w e V := by
  obtain ⟨p1, p2⟩ := pc
  simp only at hpm
  obtain ⟨ua, uc, rfl⟩ := hu.form
  obtain ⟨aa, ac, rfl⟩ := hav.form
  have HFT := Lib.hid hfit
  have hfp := hfit
  unfold fitB at hfp
  rw [Bool.and_eq_true, decide_eq_true_eq, bitsIn_iff] at hfp
  have HF6 := Lib.hid hfp
  obtain ⟨i0, hi, hz0, hz1, hz2⟩ := info_parts Tryd.infoInt
  have HFIT := Lib.hid (fun W => sfits_any a m args.length W hm.1 hm.2 hal)
  have b0 : (args.length : Int) ≤ 6 := by have := hfp.1; omega
  have HM := Lib.hid hm
  have HAV := Lib.hid hav
  have HU := Lib.hid hu
  have HX := Lib.hid hx
  have HXL := Lib.hid hxl
  have HT := Lib.hid hT
  have HWA := Lib.hid hwa
  have HPM := Lib.hid hpm
  obtain ⟨zz, ezz⟩ : ∃ zz, zz = putB xs a m args (p1, p2) := ⟨_, rfl⟩
  obtain ⟨y1, ey1⟩ : ∃ y1 : Int, y1 = if zz = true then ((putJ xs a m args (p1, p2)).1 : Int) else 0 := ⟨_, rfl⟩
  obtain ⟨y2, ey2⟩ : ∃ y2 : Int, y2 = if zz = true then (putJ xs a m args (p1, p2)).2 else 0 := ⟨_, rfl⟩
  have HJR := Lib.hid (show jRet (putB xs a m args (p1, p2)) (putJ xs a m args (p1, p2)) = .tuple #[.agg #[.int .i64 y1, .int .u64 y2], .bool zz] by unfold jRet; rw [ey1, ey2, ezz])
  clear hfit hfp hu hxl hpm hwa hx ezz ey1 ey2
  refine (callsIn_wide (n := 5)).1 ?_
  refine callsIn_of_wp_marks Tryd.func23 rfl trivial ?_ rfl
  simp only [Tryd.ntmps23, List.size_toArray, List.length_cons, List.length_nil, Nat.reduceAdd, Nat.reduceSub, Array.replicate_succ, Array.replicate_zero, List.push_toArray, List.append_toArray, List.nil_append, List.cons_append]
  have HB0 := Lib.hid (putB_start w a m p1 p2)
  obtain ⟨W0, eW0⟩ : ∃ W0, W0 = (((w.alloc (.cells #[.int .i64 a, .int .u64 m] 38)).alloc (.cells #[.int .i64 p1, .int .u64 p2] 38)).alloc (.cells #[.int .i64 0, .int .u64 0] 38)) := ⟨_, rfl⟩
  rw [← eW0] at HB0
  gi_wp2_with (first
    | (refine ⟨trivial, ?_⟩; gi_at_call 45; rw [← eW0]; refine (callsIn_wide.2 (HFIT.out _)).mono ?_; rintro e w1 ⟨rfl, hb1⟩; rw [HFT.out]; have HB1 := Lib.hid (HB0.out.on hb1); obtain ⟨hc0, hc1, hc2, hc3⟩ := HB1.out.cells; clear hb1)
    | (refine ⟨trivial, ?_⟩; gi_at_call 46
       obtain ⟨W2, eW2⟩ : ∃ W2, W2 = (w1.alloc (.cells #[.int .i64 a, .int .u64 0, .int .i64 p1, .int .u64 p2] 38)).alloc (.cells #[.slice (some ⟨w1.heap.size, 0, none⟩) 2 2, .slice aa args.length ac] 23) := ⟨_, rfl⟩
       rw [← eW2]
       obtain ⟨hcm, hcl, hcb⟩ := concat_mem w1 a p1 p2 _ eW2
       have HB2 := Lib.hid (HB1.out.on hcb)
       refine (callsIn_wide.2 (sconcat_any W2 hcm hcl ((HAV.out.below HB2.out.1).mono HB2.out.1.size) (by simp) (by simp) (by omega))).mono ?_
       rintro e w3 ⟨v3, rfl, ho3, hb3⟩
       obtain ⟨va, vc, rfl⟩ := SS.ownOf ho3
       have HB3 := Lib.hid (HB2.out.on hb3)
       have HO3 := Lib.hid ho3
       clear hcm hcl hcb hb3 ho3 eW2 hc0 hc1 hc2 hc3
       have hd1 : ((w3.alloc (.cells #[.func (.func 47) #[] #[]] 85)).alloc (.cells #[.slice none 0 0] 29)).cell? ⟨w.heap.size, 1, none⟩ = some (.int .u64 m) := cell_alloc_l _ (cell_alloc_l _ HB3.out.cells.2.1)))
  have HLR := Lib.hid (lab_ownV HO3.out)
  have bS : Boxed (w3.alloc (.cells #[.func (.func 47) #[] #[]] 85)) w3.heap.size 85 (.func (.func 47) #[] #[]) := Boxed.new w3 _ _
  have HB5 := Lib.hid (HB3.out.on ((Below.refl w3.heap.size w3).alloc (Nat.le_refl _) (.cells #[.func (.func 47) #[] #[]] 85)))
  have HLR5 := Lib.hid ((HLR.out.below ((Below.refl w3.heap.size w3).alloc (Nat.le_refl _) (.cells #[.func (.func 47) #[] #[]] 85))).mono (by simp : w3.heap.size ≤ (w3.alloc (.cells #[.func (.func 47) #[] #[]] 85)).heap.size))
  have hs5 : (w3.alloc (.cells #[.func (.func 47) #[] #[]] 85)).heap.size = w3.heap.size + 1 := World.size_alloc ..
  have hw3 : w.heap.size + 3 ≤ w3.heap.size := HB3.out.2.1
  clear hd1 HLR HO3 HB1 HB2
  obtain ⟨Bs, eBs⟩ : ∃ Bs, Bs = w3.heap.size := ⟨_, rfl⟩
  rw [← eBs] at bS hs5 hw3 ⊢
  generalize w3.alloc (.cells #[.func (.func 47) #[] #[]] 85) = W5 at bS HB5 HLR5 hs5 ⊢
  clear HB3 eBs
  have bO := Boxed.new W5 29 (.slice none 0 0)
  rw [hs5] at bO
  refine ⟨trivial, (callsIn_wide.2 (all_any _ _)).mono ?_⟩
  rintro e w6 ⟨rfl, rfl⟩
  have hs6 : (W5.alloc (.cells #[.slice none 0 0] 29)).heap.size = Bs + 1 + 1 := by rw [World.size_alloc, hs5]
  have bN := Boxed.new (W5.alloc (.cells #[.slice none 0 0] 29)) 36 (.int .u64 m)
  have bO6 := bO.alloc (.cells #[.int .u64 m] 36)
  have hB6 : Below W5.heap.size W5 ((W5.alloc (.cells #[.slice none 0 0] 29)).alloc (.cells #[.int .u64 m] 36)) := ((Below.refl _ _).alloc (Nat.le_refl _) _).alloc (by simp) _
  have hs7 : ((W5.alloc (.cells #[.slice none 0 0] 29)).alloc (.cells #[.int .u64 m] 36)).heap.size = Bs + 1 + 1 + 1 := by rw [World.size_alloc, hs6]
  rw [hs6] at bN ⊢
  generalize (W5.alloc (.cells #[.slice none 0 0] 29)).alloc (.cells #[.int .u64 m] 36) = W6 at bN bO6 hB6 hs7 ⊢
  clear bO hs6
  have hTL := hT.lt
  have hT6 : Tz W6 := hT.on (HB5.out.1.trans (hB6.mono HB5.out.1.size))
  have HBS := Lib.hid bS
  gi_wp2
  refine wpIn_rangeFunc_ownF rfl (by omega) (gf := 69) (lb := #[.pointer (some ⟨Bs + 1 + 1, 0, none⟩)]) rfl trivial (enters_of Tryd.func69 (by kernel_rfl) rfl)
    (all_stopsS _ (by omega) (Bs + 1 + 1) m HM.out.1 HM.out.2 W6 (by omega) bN.cell hT6) (fun h k => h.trans k) (keptAt_b (by have := hT.lt; omega)) (Below.refl _ _) (fun _ => rfl)
    (fun pre Wr => PutI (Bs + 1) W5 pre Wr)
    (fun _ _ _ => False)
    (OwnFrom.and ((holdsRow_own (Bs + 1 + 1) (Bs + 1) 29 3 1 (fun pre : List (InS m) => (stV pre).length) (fun pre => (stV pre).map (Value.int .i64)) (fun _ _ => True)).from _) (ownFrom_below (Nat.le_refl _) (by omega)))
    (fun _ _ _ _ _ hs _ _ => hs)
    ⟨⟨_, bO6, World.ownsRow_nil _ _ _ _, trivial⟩, hB6⟩
    (fun z => { tmps := #[.slice ua xs.length uc, .agg #[.int .i64 a, .int .u64 m], .slice aa args.length ac, .agg #[.int .i64 p1, .int .u64 p2], undef, .pointer (some ⟨w.heap.size, 0, none⟩), undef, .pointer (some ⟨w.heap.size + 1, 0, none⟩), .pointer (some ⟨w.heap.size + 1 + 1, 0, none⟩), .bool false, .slice va (args.length + 1 + 1) vc, .pointer (some ⟨Bs, 0, none⟩), .pointer (some ⟨Bs + 1, 0, none⟩), .int .i64 ((z.1 : Nat) : Int), .agg #[.int .i64 a, .int .u64 m], .slice aa args.length ac, .int .i64 args.length, .bool true, .bool false, undef, .pointer (some ⟨w.heap.size, 0, none⟩), .int .i64 a, .agg #[.int .i64 a, .int .u64 0], .agg #[.int .i64 p1, .int .u64 p2], .slice (some ⟨w1.heap.size, 0, none⟩) 2 2, .slice aa args.length ac, .slice (some ⟨w1.heap.size + 1, 0, none⟩) 2 2, .slice va (args.length + 1 + 1) vc, .pointer (some ⟨w.heap.size, 1, none⟩), .int .u64 m, .func (.func 69) #[] #[.pointer (some ⟨Bs + 1 + 1, 0, none⟩)], .int .i64 ((z.1 : Nat) : Int), undef, undef, undef, undef, undef, undef, undef, undef, undef, undef, undef, undef], defers := [] }) ?assign ?body ?done ?stop
  case assign =>
    intro l z W K hK
    gi_wp2
    exact hK
  case body =>
    rintro l pre z Wr ⟨⟨v, hv, hrow, _⟩, hB⟩ hlt
    obtain ⟨z, hzm⟩ := z
    have hzl := LL.has_lt hzm
    have hvc := hv.cell
    have hvf := hv.frozen
    have hbc : Wr.cell? ⟨Bs, 0, none⟩ = some (.func (.func 47) #[] #[]) := (hB.cell (p := ⟨Bs, 0, none⟩) (by show Bs < W5.heap.size; omega)).trans HBS.out.cell
    rw [stV_len] at hrow
    obtain ⟨av, cv, rfl⟩ := SS.ownOf hrow
    have HROW := Lib.hid hrow
    have HBR := Lib.hid hB
    clear hrow hB
    gi_wp2
    have HRS := Lib.hid (show Bs + 1 + 1 ≤ Wr.heap.size from hv.lt)
    have HBX := Lib.hid hv
    have HLE := Lib.hid (show W5.heap.size ≤ Bs + 1 + 1 by omega)
    refine wpIn_region_any (by kernel_rfl) ?_
    change wpAnyIn _ _ _ _ _ _ _ _ _ (World.drew _)
    have hvc1 : Wr.drew.cell? ⟨Bs + 1, 0, none⟩ = some (.slice av pre.length cv) := hvc
    have hvf1 : Wr.drew.frozen? ⟨Bs + 1, 0, none⟩ = false := hvf
    have hbc1 : Wr.drew.cell? ⟨Bs, 0, none⟩ = some (.func (.func 47) #[] #[]) := hbc
    have HROW1 := Lib.hid (show Wr.drew.ownsRow (Bs + 1 + 1) 3 1 (.slice av pre.length cv) pre.length ((stV pre).map (Value.int .i64)) from HROW.out)
    have HBR1 := Lib.hid (show Below W5.heap.size W5 Wr.drew from HBR.out.drew)
    have HRS1 := Lib.hid (show Bs + 1 + 1 ≤ Wr.drew.heap.size from HRS.out)
    have HBX1 := Lib.hid (show Boxed Wr.drew (Bs + 1) 29 (.slice av pre.length cv) from HBX.out)
    have HKO := Lib.hid (KeepsOthers.drew Wr)
    have HKA := Lib.hid (show KeptAt tzG Wr Wr.drew from rfl)
    clear hvc hvf hbc HROW HBR HRS HBX
    have hvc := hvc1
    have hvf := hvf1
    have hbc := hbc1
    have HROW := HROW1
    have HBR := HBR1
    have HRS := HRS1
    have HBX := HBX1
    clear hvc1 hvf1 hbc1 HROW1 HBR1 HRS1 HBX1
    generalize Wr.drew = W1 at hvc hvf hbc HROW HBR HRS HBX HKO HKA ⊢
    have hRS := HRS.out
    try simp only [List.getElem_toArray, List.getElem_cons_succ, List.getElem_cons_zero, Act.put, List.setIfInBounds_toArray, List.set_cons_zero, List.set_cons_succ]
    refine wpAnyIn_ready (rs := [0, 1, 2]) (by kernel_rfl) (by simp) ?_
    refine AllReadyIn.cons rfl (fun K hK => ?_) ?_
    · try simp only [List.getElem_toArray, List.getElem_cons_succ, List.getElem_cons_zero]
      go_simp
      refine hK _ _ ?_
      clear hK K
      try simp only [List.getElem_toArray, List.getElem_cons_succ, List.getElem_cons_zero, Act.put, List.setIfInBounds_toArray, List.set_cons_zero, List.set_cons_succ]
      refine wpAnyIn_ready (rs := [1, 2]) (by kernel_rfl) (by simp) ?_
      refine AllReadyIn.cons rfl (fun K hK => ?_) ?_
      · try simp only [List.getElem_toArray, List.getElem_cons_succ, List.getElem_cons_zero]
        go_simp
        refine hK _ _ ?_
        clear hK K
        try simp only [List.getElem_toArray, List.getElem_cons_succ, List.getElem_cons_zero, Act.put, List.setIfInBounds_toArray, List.set_cons_zero, List.set_cons_succ]
        refine wpAnyIn_ready (rs := [2]) (by kernel_rfl) (by simp) ?_
        refine AllReadyIn.cons rfl (fun K hK => ?_) ?_
        · try simp only [List.getElem_toArray, List.getElem_cons_succ, List.getElem_cons_zero]
          go_simp
          refine hK _ _ ?_
          clear hK K
          try simp only [List.getElem_toArray, List.getElem_cons_succ, List.getElem_cons_zero, Act.put, List.setIfInBounds_toArray, List.set_cons_zero, List.set_cons_succ]
          refine wpAnyIn_ready (rs := [3]) (by kernel_rfl) (by simp) ?_
          refine AllReadyIn.cons rfl (fun K hK => ?_) ?_
          · try simp only [List.getElem_toArray, List.getElem_cons_succ, List.getElem_cons_zero]
            go_simp
            refine ⟨trivial, ?_⟩
            gi_at_call 47
            refine (CallsIn.inRound l (callsIn_wide.2 (sput1_any z _ hzl))).mono ?_
            rintro e w' ⟨rfl, rfl⟩
            dsimp only
            refine hK _ _ ?_
            clear hK K
            try simp only [List.getElem_toArray, List.getElem_cons_succ, List.getElem_cons_zero, Act.put, List.setIfInBounds_toArray, List.set_cons_zero, List.set_cons_succ]
            refine wpAnyIn_ready (rs := [4]) (by kernel_rfl) (by simp) ?_
            refine AllReadyIn.cons rfl (fun K hK => ?_) ?_
            · try simp only [List.getElem_toArray, List.getElem_cons_succ, List.getElem_cons_zero]
              go_simp
              have hvc2 := cell_alloc_l (.cells #[.int .i64 (stI z : Int)] 3) hvc
              refine hK _ _ ?_
              clear hK K
              try simp only [List.getElem_toArray, List.getElem_cons_succ, List.getElem_cons_zero, Act.put, List.setIfInBounds_toArray, List.set_cons_zero, List.set_cons_succ]
              refine wpAnyIn_ready (rs := [5]) (by kernel_rfl) (by simp) ?_
              refine AllReadyIn.cons rfl (fun K hK => ?_) ?_
              · refine step_append_in rfl (.tmp 32) (.tmp 36) 29 rfl (Bs + 1 + 1) 3 i0 (.int .i64 0) 1 8 Tryd.underlying29 hi hz0 hz1 hz2 rfl (by decide) (.slice av pre.length cv) pre.length ((stV pre).map (Value.int .i64)) (by rfl) (HROW.out.alloc _) ⟨W1.heap.size, 0, none⟩ 1 1 [.int .i64 (stI z : Int)] (by rfl) rfl (cell_one_new _ _ _) (by simp [Value.oneCell']) (by unfold maxLen; omega) (by omega) (by simp; omega) ?_
                intro v' w5 hown' hgrow
                obtain ⟨g', cap', rfl⟩ := ownsRow_succ hown'
                obtain ⟨hb5, hk5⟩ := row_grown HROW.out HRS.out hgrow
                have hv5 := Boxed.below HBX.out hb5 (by omega)
                have hc5 := hv5.cell
                have hf5 := hv5.frozen
                have HB5R := Lib.hid (HBR.out.trans (hb5.mono HLE.out))
                refine hK _ _ ?_
                clear hK K
                try simp only [List.getElem_toArray, List.getElem_cons_succ, List.getElem_cons_zero, Act.put, List.setIfInBounds_toArray, List.set_cons_zero, List.set_cons_succ]
                refine wpAnyIn_ready (rs := [6]) (by kernel_rfl) (by simp) ?_
                refine AllReadyIn.cons rfl (fun K hK => ?_) ?_
                · try simp only [List.getElem_toArray, List.getElem_cons_succ, List.getElem_cons_zero]
                  go_simp
                  refine hK _ _ ?_
                  clear hK K
                  try simp only [List.getElem_toArray, List.getElem_cons_succ, List.getElem_cons_zero, Act.put, List.setIfInBounds_toArray, List.set_cons_zero, List.set_cons_succ]
                  refine wpAnyIn_done (by kernel_rfl) ?_ _
                  gi_wp2
                  have hrow6 : w5.ownsRow (Bs + 1 + 1) 3 1 (.slice (some ⟨g', 0, none⟩) (pre.length + 1) cap') (stV (pre ++ [(⟨z, hzm⟩ : InS m)])).length ((stV (pre ++ [(⟨z, hzm⟩ : InS m)])).map (Value.int .i64)) := by
                    rw [stV_len, stV_snoc, List.map_append, List.length_append]
                    exact hown'
                  exact ⟨HKO.out.trans (hk5.trans (KeepsOthers.setCell _ _ _)), HKA.out.trans ((KeptAt.of_below hb5 (by omega)).trans (KeptAt.setCell _ _ _ (by show Bs + 1 ≠ tzG; omega))), ⟨_, hv5.set _, row_setCell hrow6 (by omega) _, trivial⟩, HB5R.out.setCell (p := ⟨Bs + 1, 0, none⟩) (by show W5.heap.size ≤ Bs + 1; omega) _⟩
                exact AllReadyIn.nil
              exact AllReadyIn.nil
            exact AllReadyIn.nil
          exact AllReadyIn.nil
        exact AllReadyIn.nil
      refine AllReadyIn.cons rfl (fun K hK => ?_) ?_
      · try simp only [List.getElem_toArray, List.getElem_cons_succ, List.getElem_cons_zero]
        go_simp
        refine hK _ _ ?_
        clear hK K
        try simp only [List.getElem_toArray, List.getElem_cons_succ, List.getElem_cons_zero, Act.put, List.setIfInBounds_toArray, List.set_cons_zero, List.set_cons_succ]
        refine wpAnyIn_ready (rs := [1]) (by kernel_rfl) (by simp) ?_
        refine AllReadyIn.cons rfl (fun K hK => ?_) ?_
        · try simp only [List.getElem_toArray, List.getElem_cons_succ, List.getElem_cons_zero]
          go_simp
          refine hK _ _ ?_
          clear hK K
          try simp only [List.getElem_toArray, List.getElem_cons_succ, List.getElem_cons_zero, Act.put, List.setIfInBounds_toArray, List.set_cons_zero, List.set_cons_succ]
          refine wpAnyIn_ready (rs := [3]) (by kernel_rfl) (by simp) ?_
          refine AllReadyIn.cons rfl (fun K hK => ?_) ?_
          · try simp only [List.getElem_toArray, List.getElem_cons_succ, List.getElem_cons_zero]
            go_simp
            refine ⟨trivial, ?_⟩
            gi_at_call 47
            refine (CallsIn.inRound l (callsIn_wide.2 (sput1_any z _ hzl))).mono ?_
            rintro e w' ⟨rfl, rfl⟩
            dsimp only
            refine hK _ _ ?_
            clear hK K
            try simp only [List.getElem_toArray, List.getElem_cons_succ, List.getElem_cons_zero, Act.put, List.setIfInBounds_toArray, List.set_cons_zero, List.set_cons_succ]
            refine wpAnyIn_ready (rs := [4]) (by kernel_rfl) (by simp) ?_
            refine AllReadyIn.cons rfl (fun K hK => ?_) ?_
            · try simp only [List.getElem_toArray, List.getElem_cons_succ, List.getElem_cons_zero]
              go_simp
              have hvc2 := cell_alloc_l (.cells #[.int .i64 (stI z : Int)] 3) hvc
              refine hK _ _ ?_
              clear hK K
              try simp only [List.getElem_toArray, List.getElem_cons_succ, List.getElem_cons_zero, Act.put, List.setIfInBounds_toArray, List.set_cons_zero, List.set_cons_succ]
              refine wpAnyIn_ready (rs := [5]) (by kernel_rfl) (by simp) ?_
              refine AllReadyIn.cons rfl (fun K hK => ?_) ?_
              · refine step_append_in rfl (.tmp 32) (.tmp 36) 29 rfl (Bs + 1 + 1) 3 i0 (.int .i64 0) 1 8 Tryd.underlying29 hi hz0 hz1 hz2 rfl (by decide) (.slice av pre.length cv) pre.length ((stV pre).map (Value.int .i64)) (by rfl) (HROW.out.alloc _) ⟨W1.heap.size, 0, none⟩ 1 1 [.int .i64 (stI z : Int)] (by rfl) rfl (cell_one_new _ _ _) (by simp [Value.oneCell']) (by unfold maxLen; omega) (by omega) (by simp; omega) ?_
                intro v' w5 hown' hgrow
                obtain ⟨g', cap', rfl⟩ := ownsRow_succ hown'
                obtain ⟨hb5, hk5⟩ := row_grown HROW.out HRS.out hgrow
                have hv5 := Boxed.below HBX.out hb5 (by omega)
                have hc5 := hv5.cell
                have hf5 := hv5.frozen
                have HB5R := Lib.hid (HBR.out.trans (hb5.mono HLE.out))
                refine hK _ _ ?_
                clear hK K
                try simp only [List.getElem_toArray, List.getElem_cons_succ, List.getElem_cons_zero, Act.put, List.setIfInBounds_toArray, List.set_cons_zero, List.set_cons_succ]
                refine wpAnyIn_ready (rs := [6]) (by kernel_rfl) (by simp) ?_
                refine AllReadyIn.cons rfl (fun K hK => ?_) ?_
                · try simp only [List.getElem_toArray, List.getElem_cons_succ, List.getElem_cons_zero]
                  go_simp
                  refine hK _ _ ?_
                  clear hK K
                  try simp only [List.getElem_toArray, List.getElem_cons_succ, List.getElem_cons_zero, Act.put, List.setIfInBounds_toArray, List.set_cons_zero, List.set_cons_succ]
                  refine wpAnyIn_done (by kernel_rfl) ?_ _
                  gi_wp2
                  have hrow6 : w5.ownsRow (Bs + 1 + 1) 3 1 (.slice (some ⟨g', 0, none⟩) (pre.length + 1) cap') (stV (pre ++ [(⟨z, hzm⟩ : InS m)])).length ((stV (pre ++ [(⟨z, hzm⟩ : InS m)])).map (Value.int .i64)) := by
                    rw [stV_len, stV_snoc, List.map_append, List.length_append]
                    exact hown'
                  exact ⟨HKO.out.trans (hk5.trans (KeepsOthers.setCell _ _ _)), HKA.out.trans ((KeptAt.of_below hb5 (by omega)).trans (KeptAt.setCell _ _ _ (by show Bs + 1 ≠ tzG; omega))), ⟨_, hv5.set _, row_setCell hrow6 (by omega) _, trivial⟩, HB5R.out.setCell (p := ⟨Bs + 1, 0, none⟩) (by show W5.heap.size ≤ Bs + 1; omega) _⟩
                exact AllReadyIn.nil
              exact AllReadyIn.nil
            exact AllReadyIn.nil
          exact AllReadyIn.nil
        exact AllReadyIn.nil
      exact AllReadyIn.nil
    refine AllReadyIn.cons rfl (fun K hK => ?_) ?_
    · try simp only [List.getElem_toArray, List.getElem_cons_succ, List.getElem_cons_zero]
      go_simp
      refine hK _ _ ?_
      clear hK K
      try simp only [List.getElem_toArray, List.getElem_cons_succ, List.getElem_cons_zero, Act.put, List.setIfInBounds_toArray, List.set_cons_zero, List.set_cons_succ]
      refine wpAnyIn_ready (rs := [0, 2]) (by kernel_rfl) (by simp) ?_
      refine AllReadyIn.cons rfl (fun K hK => ?_) ?_
      · try simp only [List.getElem_toArray, List.getElem_cons_succ, List.getElem_cons_zero]
        go_simp
        refine hK _ _ ?_
        clear hK K
        try simp only [List.getElem_toArray, List.getElem_cons_succ, List.getElem_cons_zero, Act.put, List.setIfInBounds_toArray, List.set_cons_zero, List.set_cons_succ]
        refine wpAnyIn_ready (rs := [2]) (by kernel_rfl) (by simp) ?_
        refine AllReadyIn.cons rfl (fun K hK => ?_) ?_
        · try simp only [List.getElem_toArray, List.getElem_cons_succ, List.getElem_cons_zero]
          go_simp
          refine hK _ _ ?_
          clear hK K
          try simp only [List.getElem_toArray, List.getElem_cons_succ, List.getElem_cons_zero, Act.put, List.setIfInBounds_toArray, List.set_cons_zero, List.set_cons_succ]
          refine wpAnyIn_ready (rs := [3]) (by kernel_rfl) (by simp) ?_
          refine AllReadyIn.cons rfl (fun K hK => ?_) ?_
          · try simp only [List.getElem_toArray, List.getElem_cons_succ, List.getElem_cons_zero]
            go_simp
            refine ⟨trivial, ?_⟩
            gi_at_call 47
            refine (CallsIn.inRound l (callsIn_wide.2 (sput1_any z _ hzl))).mono ?_
            rintro e w' ⟨rfl, rfl⟩
            dsimp only
            refine hK _ _ ?_
            clear hK K
            try simp only [List.getElem_toArray, List.getElem_cons_succ, List.getElem_cons_zero, Act.put, List.setIfInBounds_toArray, List.set_cons_zero, List.set_cons_succ]
            refine wpAnyIn_ready (rs := [4]) (by kernel_rfl) (by simp) ?_
            refine AllReadyIn.cons rfl (fun K hK => ?_) ?_
            · try simp only [List.getElem_toArray, List.getElem_cons_succ, List.getElem_cons_zero]
              go_simp
              have hvc2 := cell_alloc_l (.cells #[.int .i64 (stI z : Int)] 3) hvc
              refine hK _ _ ?_
              clear hK K
              try simp only [List.getElem_toArray, List.getElem_cons_succ, List.getElem_cons_zero, Act.put, List.setIfInBounds_toArray, List.set_cons_zero, List.set_cons_succ]
              refine wpAnyIn_ready (rs := [5]) (by kernel_rfl) (by simp) ?_
              refine AllReadyIn.cons rfl (fun K hK => ?_) ?_
              · refine step_append_in rfl (.tmp 32) (.tmp 36) 29 rfl (Bs + 1 + 1) 3 i0 (.int .i64 0) 1 8 Tryd.underlying29 hi hz0 hz1 hz2 rfl (by decide) (.slice av pre.length cv) pre.length ((stV pre).map (Value.int .i64)) (by rfl) (HROW.out.alloc _) ⟨W1.heap.size, 0, none⟩ 1 1 [.int .i64 (stI z : Int)] (by rfl) rfl (cell_one_new _ _ _) (by simp [Value.oneCell']) (by unfold maxLen; omega) (by omega) (by simp; omega) ?_
                intro v' w5 hown' hgrow
                obtain ⟨g', cap', rfl⟩ := ownsRow_succ hown'
                obtain ⟨hb5, hk5⟩ := row_grown HROW.out HRS.out hgrow
                have hv5 := Boxed.below HBX.out hb5 (by omega)
                have hc5 := hv5.cell
                have hf5 := hv5.frozen
                have HB5R := Lib.hid (HBR.out.trans (hb5.mono HLE.out))
                refine hK _ _ ?_
                clear hK K
                try simp only [List.getElem_toArray, List.getElem_cons_succ, List.getElem_cons_zero, Act.put, List.setIfInBounds_toArray, List.set_cons_zero, List.set_cons_succ]
                refine wpAnyIn_ready (rs := [6]) (by kernel_rfl) (by simp) ?_
                refine AllReadyIn.cons rfl (fun K hK => ?_) ?_
                · try simp only [List.getElem_toArray, List.getElem_cons_succ, List.getElem_cons_zero]
                  go_simp
                  refine hK _ _ ?_
                  clear hK K
                  try simp only [List.getElem_toArray, List.getElem_cons_succ, List.getElem_cons_zero, Act.put, List.setIfInBounds_toArray, List.set_cons_zero, List.set_cons_succ]
                  refine wpAnyIn_done (by kernel_rfl) ?_ _
                  gi_wp2
                  have hrow6 : w5.ownsRow (Bs + 1 + 1) 3 1 (.slice (some ⟨g', 0, none⟩) (pre.length + 1) cap') (stV (pre ++ [(⟨z, hzm⟩ : InS m)])).length ((stV (pre ++ [(⟨z, hzm⟩ : InS m)])).map (Value.int .i64)) := by
                    rw [stV_len, stV_snoc, List.map_append, List.length_append]
                    exact hown'
                  exact ⟨HKO.out.trans (hk5.trans (KeepsOthers.setCell _ _ _)), HKA.out.trans ((KeptAt.of_below hb5 (by omega)).trans (KeptAt.setCell _ _ _ (by show Bs + 1 ≠ tzG; omega))), ⟨_, hv5.set _, row_setCell hrow6 (by omega) _, trivial⟩, HB5R.out.setCell (p := ⟨Bs + 1, 0, none⟩) (by show W5.heap.size ≤ Bs + 1; omega) _⟩
                exact AllReadyIn.nil
              exact AllReadyIn.nil
            exact AllReadyIn.nil
          exact AllReadyIn.nil
        exact AllReadyIn.nil
      refine AllReadyIn.cons rfl (fun K hK => ?_) ?_
      · try simp only [List.getElem_toArray, List.getElem_cons_succ, List.getElem_cons_zero]
        go_simp
        refine hK _ _ ?_
        clear hK K
        try simp only [List.getElem_toArray, List.getElem_cons_succ, List.getElem_cons_zero, Act.put, List.setIfInBounds_toArray, List.set_cons_zero, List.set_cons_succ]
        refine wpAnyIn_ready (rs := [0, 3]) (by kernel_rfl) (by simp) ?_
        refine AllReadyIn.cons rfl (fun K hK => ?_) ?_
        · try simp only [List.getElem_toArray, List.getElem_cons_succ, List.getElem_cons_zero]
          go_simp
          refine hK _ _ ?_
          clear hK K
          try simp only [List.getElem_toArray, List.getElem_cons_succ, List.getElem_cons_zero, Act.put, List.setIfInBounds_toArray, List.set_cons_zero, List.set_cons_succ]
          refine wpAnyIn_ready (rs := [3]) (by kernel_rfl) (by simp) ?_
          refine AllReadyIn.cons rfl (fun K hK => ?_) ?_
          · try simp only [List.getElem_toArray, List.getElem_cons_succ, List.getElem_cons_zero]
            go_simp
            refine ⟨trivial, ?_⟩
            gi_at_call 47
            refine (CallsIn.inRound l (callsIn_wide.2 (sput1_any z _ hzl))).mono ?_
            rintro e w' ⟨rfl, rfl⟩
            dsimp only
            refine hK _ _ ?_
            clear hK K
            try simp only [List.getElem_toArray, List.getElem_cons_succ, List.getElem_cons_zero, Act.put, List.setIfInBounds_toArray, List.set_cons_zero, List.set_cons_succ]
            refine wpAnyIn_ready (rs := [4]) (by kernel_rfl) (by simp) ?_
            refine AllReadyIn.cons rfl (fun K hK => ?_) ?_
            · try simp only [List.getElem_toArray, List.getElem_cons_succ, List.getElem_cons_zero]
              go_simp
              have hvc2 := cell_alloc_l (.cells #[.int .i64 (stI z : Int)] 3) hvc
              refine hK _ _ ?_
              clear hK K
              try simp only [List.getElem_toArray, List.getElem_cons_succ, List.getElem_cons_zero, Act.put, List.setIfInBounds_toArray, List.set_cons_zero, List.set_cons_succ]
              refine wpAnyIn_ready (rs := [5]) (by kernel_rfl) (by simp) ?_
              refine AllReadyIn.cons rfl (fun K hK => ?_) ?_
              · refine step_append_in rfl (.tmp 32) (.tmp 36) 29 rfl (Bs + 1 + 1) 3 i0 (.int .i64 0) 1 8 Tryd.underlying29 hi hz0 hz1 hz2 rfl (by decide) (.slice av pre.length cv) pre.length ((stV pre).map (Value.int .i64)) (by rfl) (HROW.out.alloc _) ⟨W1.heap.size, 0, none⟩ 1 1 [.int .i64 (stI z : Int)] (by rfl) rfl (cell_one_new _ _ _) (by simp [Value.oneCell']) (by unfold maxLen; omega) (by omega) (by simp; omega) ?_
                intro v' w5 hown' hgrow
                obtain ⟨g', cap', rfl⟩ := ownsRow_succ hown'
                obtain ⟨hb5, hk5⟩ := row_grown HROW.out HRS.out hgrow
                have hv5 := Boxed.below HBX.out hb5 (by omega)
                have hc5 := hv5.cell
                have hf5 := hv5.frozen
                have HB5R := Lib.hid (HBR.out.trans (hb5.mono HLE.out))
                refine hK _ _ ?_
                clear hK K
                try simp only [List.getElem_toArray, List.getElem_cons_succ, List.getElem_cons_zero, Act.put, List.setIfInBounds_toArray, List.set_cons_zero, List.set_cons_succ]
                refine wpAnyIn_ready (rs := [6]) (by kernel_rfl) (by simp) ?_
                refine AllReadyIn.cons rfl (fun K hK => ?_) ?_
                · try simp only [List.getElem_toArray, List.getElem_cons_succ, List.getElem_cons_zero]
                  go_simp
                  refine hK _ _ ?_
                  clear hK K
                  try simp only [List.getElem_toArray, List.getElem_cons_succ, List.getElem_cons_zero, Act.put, List.setIfInBounds_toArray, List.set_cons_zero, List.set_cons_succ]
                  refine wpAnyIn_done (by kernel_rfl) ?_ _
                  gi_wp2
                  have hrow6 : w5.ownsRow (Bs + 1 + 1) 3 1 (.slice (some ⟨g', 0, none⟩) (pre.length + 1) cap') (stV (pre ++ [(⟨z, hzm⟩ : InS m)])).length ((stV (pre ++ [(⟨z, hzm⟩ : InS m)])).map (Value.int .i64)) := by
                    rw [stV_len, stV_snoc, List.map_append, List.length_append]
                    exact hown'
                  exact ⟨HKO.out.trans (hk5.trans (KeepsOthers.setCell _ _ _)), HKA.out.trans ((KeptAt.of_below hb5 (by omega)).trans (KeptAt.setCell _ _ _ (by show Bs + 1 ≠ tzG; omega))), ⟨_, hv5.set _, row_setCell hrow6 (by omega) _, trivial⟩, HB5R.out.setCell (p := ⟨Bs + 1, 0, none⟩) (by show W5.heap.size ≤ Bs + 1; omega) _⟩
                exact AllReadyIn.nil
              exact AllReadyIn.nil
            exact AllReadyIn.nil
          exact AllReadyIn.nil
        refine AllReadyIn.cons rfl (fun K hK => ?_) ?_
        · try simp only [List.getElem_toArray, List.getElem_cons_succ, List.getElem_cons_zero]
          go_simp
          refine ⟨trivial, ?_⟩
          gi_at_call 47
          refine (CallsIn.inRound l (callsIn_wide.2 (sput1_any z _ hzl))).mono ?_
          rintro e w' ⟨rfl, rfl⟩
          dsimp only
          refine hK _ _ ?_
          clear hK K
          try simp only [List.getElem_toArray, List.getElem_cons_succ, List.getElem_cons_zero, Act.put, List.setIfInBounds_toArray, List.set_cons_zero, List.set_cons_succ]
          refine wpAnyIn_ready (rs := [0, 4]) (by kernel_rfl) (by simp) ?_
          refine AllReadyIn.cons rfl (fun K hK => ?_) ?_
          · try simp only [List.getElem_toArray, List.getElem_cons_succ, List.getElem_cons_zero]
            go_simp
            refine hK _ _ ?_
            clear hK K
            try simp only [List.getElem_toArray, List.getElem_cons_succ, List.getElem_cons_zero, Act.put, List.setIfInBounds_toArray, List.set_cons_zero, List.set_cons_succ]
            refine wpAnyIn_ready (rs := [4]) (by kernel_rfl) (by simp) ?_
            refine AllReadyIn.cons rfl (fun K hK => ?_) ?_
            · try simp only [List.getElem_toArray, List.getElem_cons_succ, List.getElem_cons_zero]
              go_simp
              have hvc2 := cell_alloc_l (.cells #[.int .i64 (stI z : Int)] 3) hvc
              refine hK _ _ ?_
              clear hK K
              try simp only [List.getElem_toArray, List.getElem_cons_succ, List.getElem_cons_zero, Act.put, List.setIfInBounds_toArray, List.set_cons_zero, List.set_cons_succ]
              refine wpAnyIn_ready (rs := [5]) (by kernel_rfl) (by simp) ?_
              refine AllReadyIn.cons rfl (fun K hK => ?_) ?_
              · refine step_append_in rfl (.tmp 32) (.tmp 36) 29 rfl (Bs + 1 + 1) 3 i0 (.int .i64 0) 1 8 Tryd.underlying29 hi hz0 hz1 hz2 rfl (by decide) (.slice av pre.length cv) pre.length ((stV pre).map (Value.int .i64)) (by rfl) (HROW.out.alloc _) ⟨W1.heap.size, 0, none⟩ 1 1 [.int .i64 (stI z : Int)] (by rfl) rfl (cell_one_new _ _ _) (by simp [Value.oneCell']) (by unfold maxLen; omega) (by omega) (by simp; omega) ?_
                intro v' w5 hown' hgrow
                obtain ⟨g', cap', rfl⟩ := ownsRow_succ hown'
                obtain ⟨hb5, hk5⟩ := row_grown HROW.out HRS.out hgrow
                have hv5 := Boxed.below HBX.out hb5 (by omega)
                have hc5 := hv5.cell
                have hf5 := hv5.frozen
                have HB5R := Lib.hid (HBR.out.trans (hb5.mono HLE.out))
                refine hK _ _ ?_
                clear hK K
                try simp only [List.getElem_toArray, List.getElem_cons_succ, List.getElem_cons_zero, Act.put, List.setIfInBounds_toArray, List.set_cons_zero, List.set_cons_succ]
                refine wpAnyIn_ready (rs := [6]) (by kernel_rfl) (by simp) ?_
                refine AllReadyIn.cons rfl (fun K hK => ?_) ?_
                · try simp only [List.getElem_toArray, List.getElem_cons_succ, List.getElem_cons_zero]
                  go_simp
                  refine hK _ _ ?_
                  clear hK K
                  try simp only [List.getElem_toArray, List.getElem_cons_succ, List.getElem_cons_zero, Act.put, List.setIfInBounds_toArray, List.set_cons_zero, List.set_cons_succ]
                  refine wpAnyIn_done (by kernel_rfl) ?_ _
                  gi_wp2
                  have hrow6 : w5.ownsRow (Bs + 1 + 1) 3 1 (.slice (some ⟨g', 0, none⟩) (pre.length + 1) cap') (stV (pre ++ [(⟨z, hzm⟩ : InS m)])).length ((stV (pre ++ [(⟨z, hzm⟩ : InS m)])).map (Value.int .i64)) := by
                    rw [stV_len, stV_snoc, List.map_append, List.length_append]
                    exact hown'
                  exact ⟨HKO.out.trans (hk5.trans (KeepsOthers.setCell _ _ _)), HKA.out.trans ((KeptAt.of_below hb5 (by omega)).trans (KeptAt.setCell _ _ _ (by show Bs + 1 ≠ tzG; omega))), ⟨_, hv5.set _, row_setCell hrow6 (by omega) _, trivial⟩, HB5R.out.setCell (p := ⟨Bs + 1, 0, none⟩) (by show W5.heap.size ≤ Bs + 1; omega) _⟩
                exact AllReadyIn.nil
              exact AllReadyIn.nil
            exact AllReadyIn.nil
          refine AllReadyIn.cons rfl (fun K hK => ?_) ?_
          · try simp only [List.getElem_toArray, List.getElem_cons_succ, List.getElem_cons_zero]
            go_simp
            have hvc2 := cell_alloc_l (.cells #[.int .i64 (stI z : Int)] 3) hvc
            refine hK _ _ ?_
            clear hK K
            try simp only [List.getElem_toArray, List.getElem_cons_succ, List.getElem_cons_zero, Act.put, List.setIfInBounds_toArray, List.set_cons_zero, List.set_cons_succ]
            refine wpAnyIn_ready (rs := [0]) (by kernel_rfl) (by simp) ?_
            refine AllReadyIn.cons rfl (fun K hK => ?_) ?_
            · try simp only [List.getElem_toArray, List.getElem_cons_succ, List.getElem_cons_zero]
              go_simp
              refine hK _ _ ?_
              clear hK K
              try simp only [List.getElem_toArray, List.getElem_cons_succ, List.getElem_cons_zero, Act.put, List.setIfInBounds_toArray, List.set_cons_zero, List.set_cons_succ]
              refine wpAnyIn_ready (rs := [5]) (by kernel_rfl) (by simp) ?_
              refine AllReadyIn.cons rfl (fun K hK => ?_) ?_
              · refine step_append_in rfl (.tmp 32) (.tmp 36) 29 rfl (Bs + 1 + 1) 3 i0 (.int .i64 0) 1 8 Tryd.underlying29 hi hz0 hz1 hz2 rfl (by decide) (.slice av pre.length cv) pre.length ((stV pre).map (Value.int .i64)) (by rfl) (HROW.out.alloc _) ⟨W1.heap.size, 0, none⟩ 1 1 [.int .i64 (stI z : Int)] (by rfl) rfl (cell_one_new _ _ _) (by simp [Value.oneCell']) (by unfold maxLen; omega) (by omega) (by simp; omega) ?_
                intro v' w5 hown' hgrow
                obtain ⟨g', cap', rfl⟩ := ownsRow_succ hown'
                obtain ⟨hb5, hk5⟩ := row_grown HROW.out HRS.out hgrow
                have hv5 := Boxed.below HBX.out hb5 (by omega)
                have hc5 := hv5.cell
                have hf5 := hv5.frozen
                have HB5R := Lib.hid (HBR.out.trans (hb5.mono HLE.out))
                refine hK _ _ ?_
                clear hK K
                try simp only [List.getElem_toArray, List.getElem_cons_succ, List.getElem_cons_zero, Act.put, List.setIfInBounds_toArray, List.set_cons_zero, List.set_cons_succ]
                refine wpAnyIn_ready (rs := [6]) (by kernel_rfl) (by simp) ?_
                refine AllReadyIn.cons rfl (fun K hK => ?_) ?_
                · try simp only [List.getElem_toArray, List.getElem_cons_succ, List.getElem_cons_zero]
                  go_simp
                  refine hK _ _ ?_
                  clear hK K
                  try simp only [List.getElem_toArray, List.getElem_cons_succ, List.getElem_cons_zero, Act.put, List.setIfInBounds_toArray, List.set_cons_zero, List.set_cons_succ]
                  refine wpAnyIn_done (by kernel_rfl) ?_ _
                  gi_wp2
                  have hrow6 : w5.ownsRow (Bs + 1 + 1) 3 1 (.slice (some ⟨g', 0, none⟩) (pre.length + 1) cap') (stV (pre ++ [(⟨z, hzm⟩ : InS m)])).length ((stV (pre ++ [(⟨z, hzm⟩ : InS m)])).map (Value.int .i64)) := by
                    rw [stV_len, stV_snoc, List.map_append, List.length_append]
                    exact hown'
                  exact ⟨HKO.out.trans (hk5.trans (KeepsOthers.setCell _ _ _)), HKA.out.trans ((KeptAt.of_below hb5 (by omega)).trans (KeptAt.setCell _ _ _ (by show Bs + 1 ≠ tzG; omega))), ⟨_, hv5.set _, row_setCell hrow6 (by omega) _, trivial⟩, HB5R.out.setCell (p := ⟨Bs + 1, 0, none⟩) (by show W5.heap.size ≤ Bs + 1; omega) _⟩
                exact AllReadyIn.nil
              exact AllReadyIn.nil
            exact AllReadyIn.nil
          exact AllReadyIn.nil
        exact AllReadyIn.nil
      exact AllReadyIn.nil
    refine AllReadyIn.cons rfl (fun K hK => ?_) ?_
    · try simp only [List.getElem_toArray, List.getElem_cons_succ, List.getElem_cons_zero]
      go_simp
      refine hK _ _ ?_
      clear hK K
      try simp only [List.getElem_toArray, List.getElem_cons_succ, List.getElem_cons_zero, Act.put, List.setIfInBounds_toArray, List.set_cons_zero, List.set_cons_succ]
      refine wpAnyIn_ready (rs := [0, 1]) (by kernel_rfl) (by simp) ?_
      refine AllReadyIn.cons rfl (fun K hK => ?_) ?_
      · try simp only [List.getElem_toArray, List.getElem_cons_succ, List.getElem_cons_zero]
        go_simp
        refine hK _ _ ?_
        clear hK K
        try simp only [List.getElem_toArray, List.getElem_cons_succ, List.getElem_cons_zero, Act.put, List.setIfInBounds_toArray, List.set_cons_zero, List.set_cons_succ]
        refine wpAnyIn_ready (rs := [1]) (by kernel_rfl) (by simp) ?_
        refine AllReadyIn.cons rfl (fun K hK => ?_) ?_
        · try simp only [List.getElem_toArray, List.getElem_cons_succ, List.getElem_cons_zero]
          go_simp
          refine hK _ _ ?_
          clear hK K
          try simp only [List.getElem_toArray, List.getElem_cons_succ, List.getElem_cons_zero, Act.put, List.setIfInBounds_toArray, List.set_cons_zero, List.set_cons_succ]
          refine wpAnyIn_ready (rs := [3]) (by kernel_rfl) (by simp) ?_
          refine AllReadyIn.cons rfl (fun K hK => ?_) ?_
          · try simp only [List.getElem_toArray, List.getElem_cons_succ, List.getElem_cons_zero]
            go_simp
            refine ⟨trivial, ?_⟩
            gi_at_call 47
            refine (CallsIn.inRound l (callsIn_wide.2 (sput1_any z _ hzl))).mono ?_
            rintro e w' ⟨rfl, rfl⟩
            dsimp only
            refine hK _ _ ?_
            clear hK K
            try simp only [List.getElem_toArray, List.getElem_cons_succ, List.getElem_cons_zero, Act.put, List.setIfInBounds_toArray, List.set_cons_zero, List.set_cons_succ]
            refine wpAnyIn_ready (rs := [4]) (by kernel_rfl) (by simp) ?_
            refine AllReadyIn.cons rfl (fun K hK => ?_) ?_
            · try simp only [List.getElem_toArray, List.getElem_cons_succ, List.getElem_cons_zero]
              go_simp
              have hvc2 := cell_alloc_l (.cells #[.int .i64 (stI z : Int)] 3) hvc
              refine hK _ _ ?_
              clear hK K
              try simp only [List.getElem_toArray, List.getElem_cons_succ, List.getElem_cons_zero, Act.put, List.setIfInBounds_toArray, List.set_cons_zero, List.set_cons_succ]
              refine wpAnyIn_ready (rs := [5]) (by kernel_rfl) (by simp) ?_
              refine AllReadyIn.cons rfl (fun K hK => ?_) ?_
              · refine step_append_in rfl (.tmp 32) (.tmp 36) 29 rfl (Bs + 1 + 1) 3 i0 (.int .i64 0) 1 8 Tryd.underlying29 hi hz0 hz1 hz2 rfl (by decide) (.slice av pre.length cv) pre.length ((stV pre).map (Value.int .i64)) (by rfl) (HROW.out.alloc _) ⟨W1.heap.size, 0, none⟩ 1 1 [.int .i64 (stI z : Int)] (by rfl) rfl (cell_one_new _ _ _) (by simp [Value.oneCell']) (by unfold maxLen; omega) (by omega) (by simp; omega) ?_
                intro v' w5 hown' hgrow
                obtain ⟨g', cap', rfl⟩ := ownsRow_succ hown'
                obtain ⟨hb5, hk5⟩ := row_grown HROW.out HRS.out hgrow
                have hv5 := Boxed.below HBX.out hb5 (by omega)
                have hc5 := hv5.cell
                have hf5 := hv5.frozen
                have HB5R := Lib.hid (HBR.out.trans (hb5.mono HLE.out))
                refine hK _ _ ?_
                clear hK K
                try simp only [List.getElem_toArray, List.getElem_cons_succ, List.getElem_cons_zero, Act.put, List.setIfInBounds_toArray, List.set_cons_zero, List.set_cons_succ]
                refine wpAnyIn_ready (rs := [6]) (by kernel_rfl) (by simp) ?_
                refine AllReadyIn.cons rfl (fun K hK => ?_) ?_
                · try simp only [List.getElem_toArray, List.getElem_cons_succ, List.getElem_cons_zero]
                  go_simp
                  refine hK _ _ ?_
                  clear hK K
                  try simp only [List.getElem_toArray, List.getElem_cons_succ, List.getElem_cons_zero, Act.put, List.setIfInBounds_toArray, List.set_cons_zero, List.set_cons_succ]
                  refine wpAnyIn_done (by kernel_rfl) ?_ _
                  gi_wp2
                  have hrow6 : w5.ownsRow (Bs + 1 + 1) 3 1 (.slice (some ⟨g', 0, none⟩) (pre.length + 1) cap') (stV (pre ++ [(⟨z, hzm⟩ : InS m)])).length ((stV (pre ++ [(⟨z, hzm⟩ : InS m)])).map (Value.int .i64)) := by
                    rw [stV_len, stV_snoc, List.map_append, List.length_append]
                    exact hown'
                  exact ⟨HKO.out.trans (hk5.trans (KeepsOthers.setCell _ _ _)), HKA.out.trans ((KeptAt.of_below hb5 (by omega)).trans (KeptAt.setCell _ _ _ (by show Bs + 1 ≠ tzG; omega))), ⟨_, hv5.set _, row_setCell hrow6 (by omega) _, trivial⟩, HB5R.out.setCell (p := ⟨Bs + 1, 0, none⟩) (by show W5.heap.size ≤ Bs + 1; omega) _⟩
                exact AllReadyIn.nil
              exact AllReadyIn.nil
            exact AllReadyIn.nil
          exact AllReadyIn.nil
        exact AllReadyIn.nil
      refine AllReadyIn.cons rfl (fun K hK => ?_) ?_
      · try simp only [List.getElem_toArray, List.getElem_cons_succ, List.getElem_cons_zero]
        go_simp
        refine hK _ _ ?_
        clear hK K
        try simp only [List.getElem_toArray, List.getElem_cons_succ, List.getElem_cons_zero, Act.put, List.setIfInBounds_toArray, List.set_cons_zero, List.set_cons_succ]
        refine wpAnyIn_ready (rs := [0, 3]) (by kernel_rfl) (by simp) ?_
        refine AllReadyIn.cons rfl (fun K hK => ?_) ?_
        · try simp only [List.getElem_toArray, List.getElem_cons_succ, List.getElem_cons_zero]
          go_simp
          refine hK _ _ ?_
          clear hK K
          try simp only [List.getElem_toArray, List.getElem_cons_succ, List.getElem_cons_zero, Act.put, List.setIfInBounds_toArray, List.set_cons_zero, List.set_cons_succ]
          refine wpAnyIn_ready (rs := [3]) (by kernel_rfl) (by simp) ?_
          refine AllReadyIn.cons rfl (fun K hK => ?_) ?_
          · try simp only [List.getElem_toArray, List.getElem_cons_succ, List.getElem_cons_zero]
            go_simp
            refine ⟨trivial, ?_⟩
            gi_at_call 47
            refine (CallsIn.inRound l (callsIn_wide.2 (sput1_any z _ hzl))).mono ?_
            rintro e w' ⟨rfl, rfl⟩
            dsimp only
            refine hK _ _ ?_
            clear hK K
            try simp only [List.getElem_toArray, List.getElem_cons_succ, List.getElem_cons_zero, Act.put, List.setIfInBounds_toArray, List.set_cons_zero, List.set_cons_succ]
            refine wpAnyIn_ready (rs := [4]) (by kernel_rfl) (by simp) ?_
            refine AllReadyIn.cons rfl (fun K hK => ?_) ?_
            · try simp only [List.getElem_toArray, List.getElem_cons_succ, List.getElem_cons_zero]
              go_simp
              have hvc2 := cell_alloc_l (.cells #[.int .i64 (stI z : Int)] 3) hvc
              refine hK _ _ ?_
              clear hK K
              try simp only [List.getElem_toArray, List.getElem_cons_succ, List.getElem_cons_zero, Act.put, List.setIfInBounds_toArray, List.set_cons_zero, List.set_cons_succ]
              refine wpAnyIn_ready (rs := [5]) (by kernel_rfl) (by simp) ?_
              refine AllReadyIn.cons rfl (fun K hK => ?_) ?_
              · refine step_append_in rfl (.tmp 32) (.tmp 36) 29 rfl (Bs + 1 + 1) 3 i0 (.int .i64 0) 1 8 Tryd.underlying29 hi hz0 hz1 hz2 rfl (by decide) (.slice av pre.length cv) pre.length ((stV pre).map (Value.int .i64)) (by rfl) (HROW.out.alloc _) ⟨W1.heap.size, 0, none⟩ 1 1 [.int .i64 (stI z : Int)] (by rfl) rfl (cell_one_new _ _ _) (by simp [Value.oneCell']) (by unfold maxLen; omega) (by omega) (by simp; omega) ?_
                intro v' w5 hown' hgrow
                obtain ⟨g', cap', rfl⟩ := ownsRow_succ hown'
                obtain ⟨hb5, hk5⟩ := row_grown HROW.out HRS.out hgrow
                have hv5 := Boxed.below HBX.out hb5 (by omega)
                have hc5 := hv5.cell
                have hf5 := hv5.frozen
                have HB5R := Lib.hid (HBR.out.trans (hb5.mono HLE.out))
                refine hK _ _ ?_
                clear hK K
                try simp only [List.getElem_toArray, List.getElem_cons_succ, List.getElem_cons_zero, Act.put, List.setIfInBounds_toArray, List.set_cons_zero, List.set_cons_succ]
                refine wpAnyIn_ready (rs := [6]) (by kernel_rfl) (by simp) ?_
                refine AllReadyIn.cons rfl (fun K hK => ?_) ?_
                · try simp only [List.getElem_toArray, List.getElem_cons_succ, List.getElem_cons_zero]
                  go_simp
                  refine hK _ _ ?_
                  clear hK K
                  try simp only [List.getElem_toArray, List.getElem_cons_succ, List.getElem_cons_zero, Act.put, List.setIfInBounds_toArray, List.set_cons_zero, List.set_cons_succ]
                  refine wpAnyIn_done (by kernel_rfl) ?_ _
                  gi_wp2
                  have hrow6 : w5.ownsRow (Bs + 1 + 1) 3 1 (.slice (some ⟨g', 0, none⟩) (pre.length + 1) cap') (stV (pre ++ [(⟨z, hzm⟩ : InS m)])).length ((stV (pre ++ [(⟨z, hzm⟩ : InS m)])).map (Value.int .i64)) := by
                    rw [stV_len, stV_snoc, List.map_append, List.length_append]
                    exact hown'
                  exact ⟨HKO.out.trans (hk5.trans (KeepsOthers.setCell _ _ _)), HKA.out.trans ((KeptAt.of_below hb5 (by omega)).trans (KeptAt.setCell _ _ _ (by show Bs + 1 ≠ tzG; omega))), ⟨_, hv5.set _, row_setCell hrow6 (by omega) _, trivial⟩, HB5R.out.setCell (p := ⟨Bs + 1, 0, none⟩) (by show W5.heap.size ≤ Bs + 1; omega) _⟩
                exact AllReadyIn.nil
              exact AllReadyIn.nil
            exact AllReadyIn.nil
          exact AllReadyIn.nil
        refine AllReadyIn.cons rfl (fun K hK => ?_) ?_
        · try simp only [List.getElem_toArray, List.getElem_cons_succ, List.getElem_cons_zero]
          go_simp
          refine ⟨trivial, ?_⟩
          gi_at_call 47
          refine (CallsIn.inRound l (callsIn_wide.2 (sput1_any z _ hzl))).mono ?_
          rintro e w' ⟨rfl, rfl⟩
          dsimp only
          refine hK _ _ ?_
          clear hK K
          try simp only [List.getElem_toArray, List.getElem_cons_succ, List.getElem_cons_zero, Act.put, List.setIfInBounds_toArray, List.set_cons_zero, List.set_cons_succ]
          refine wpAnyIn_ready (rs := [0, 4]) (by kernel_rfl) (by simp) ?_
          refine AllReadyIn.cons rfl (fun K hK => ?_) ?_
          · try simp only [List.getElem_toArray, List.getElem_cons_succ, List.getElem_cons_zero]
            go_simp
            refine hK _ _ ?_
            clear hK K
            try simp only [List.getElem_toArray, List.getElem_cons_succ, List.getElem_cons_zero, Act.put, List.setIfInBounds_toArray, List.set_cons_zero, List.set_cons_succ]
            refine wpAnyIn_ready (rs := [4]) (by kernel_rfl) (by simp) ?_
            refine AllReadyIn.cons rfl (fun K hK => ?_) ?_
            · try simp only [List.getElem_toArray, List.getElem_cons_succ, List.getElem_cons_zero]
              go_simp
              have hvc2 := cell_alloc_l (.cells #[.int .i64 (stI z : Int)] 3) hvc
              refine hK _ _ ?_
              clear hK K
              try simp only [List.getElem_toArray, List.getElem_cons_succ, List.getElem_cons_zero, Act.put, List.setIfInBounds_toArray, List.set_cons_zero, List.set_cons_succ]
              refine wpAnyIn_ready (rs := [5]) (by kernel_rfl) (by simp) ?_
              refine AllReadyIn.cons rfl (fun K hK => ?_) ?_
              · refine step_append_in rfl (.tmp 32) (.tmp 36) 29 rfl (Bs + 1 + 1) 3 i0 (.int .i64 0) 1 8 Tryd.underlying29 hi hz0 hz1 hz2 rfl (by decide) (.slice av pre.length cv) pre.length ((stV pre).map (Value.int .i64)) (by rfl) (HROW.out.alloc _) ⟨W1.heap.size, 0, none⟩ 1 1 [.int .i64 (stI z : Int)] (by rfl) rfl (cell_one_new _ _ _) (by simp [Value.oneCell']) (by unfold maxLen; omega) (by omega) (by simp; omega) ?_
                intro v' w5 hown' hgrow
                obtain ⟨g', cap', rfl⟩ := ownsRow_succ hown'
                obtain ⟨hb5, hk5⟩ := row_grown HROW.out HRS.out hgrow
                have hv5 := Boxed.below HBX.out hb5 (by omega)
                have hc5 := hv5.cell
                have hf5 := hv5.frozen
                have HB5R := Lib.hid (HBR.out.trans (hb5.mono HLE.out))
                refine hK _ _ ?_
                clear hK K
                try simp only [List.getElem_toArray, List.getElem_cons_succ, List.getElem_cons_zero, Act.put, List.setIfInBounds_toArray, List.set_cons_zero, List.set_cons_succ]
                refine wpAnyIn_ready (rs := [6]) (by kernel_rfl) (by simp) ?_
                refine AllReadyIn.cons rfl (fun K hK => ?_) ?_
                · try simp only [List.getElem_toArray, List.getElem_cons_succ, List.getElem_cons_zero]
                  go_simp
                  refine hK _ _ ?_
                  clear hK K
                  try simp only [List.getElem_toArray, List.getElem_cons_succ, List.getElem_cons_zero, Act.put, List.setIfInBounds_toArray, List.set_cons_zero, List.set_cons_succ]
                  refine wpAnyIn_done (by kernel_rfl) ?_ _
                  gi_wp2
                  have hrow6 : w5.ownsRow (Bs + 1 + 1) 3 1 (.slice (some ⟨g', 0, none⟩) (pre.length + 1) cap') (stV (pre ++ [(⟨z, hzm⟩ : InS m)])).length ((stV (pre ++ [(⟨z, hzm⟩ : InS m)])).map (Value.int .i64)) := by
                    rw [stV_len, stV_snoc, List.map_append, List.length_append]
                    exact hown'
                  exact ⟨HKO.out.trans (hk5.trans (KeepsOthers.setCell _ _ _)), HKA.out.trans ((KeptAt.of_below hb5 (by omega)).trans (KeptAt.setCell _ _ _ (by show Bs + 1 ≠ tzG; omega))), ⟨_, hv5.set _, row_setCell hrow6 (by omega) _, trivial⟩, HB5R.out.setCell (p := ⟨Bs + 1, 0, none⟩) (by show W5.heap.size ≤ Bs + 1; omega) _⟩
                exact AllReadyIn.nil
              exact AllReadyIn.nil
            exact AllReadyIn.nil
          refine AllReadyIn.cons rfl (fun K hK => ?_) ?_
          · try simp only [List.getElem_toArray, List.getElem_cons_succ, List.getElem_cons_zero]
            go_simp
            have hvc2 := cell_alloc_l (.cells #[.int .i64 (stI z : Int)] 3) hvc
            refine hK _ _ ?_
            clear hK K
            try simp only [List.getElem_toArray, List.getElem_cons_succ, List.getElem_cons_zero, Act.put, List.setIfInBounds_toArray, List.set_cons_zero, List.set_cons_succ]
            refine wpAnyIn_ready (rs := [0]) (by kernel_rfl) (by simp) ?_
            refine AllReadyIn.cons rfl (fun K hK => ?_) ?_
            · try simp only [List.getElem_toArray, List.getElem_cons_succ, List.getElem_cons_zero]
              go_simp
              refine hK _ _ ?_
              clear hK K
              try simp only [List.getElem_toArray, List.getElem_cons_succ, List.getElem_cons_zero, Act.put, List.setIfInBounds_toArray, List.set_cons_zero, List.set_cons_succ]
              refine wpAnyIn_ready (rs := [5]) (by kernel_rfl) (by simp) ?_
              refine AllReadyIn.cons rfl (fun K hK => ?_) ?_
              · refine step_append_in rfl (.tmp 32) (.tmp 36) 29 rfl (Bs + 1 + 1) 3 i0 (.int .i64 0) 1 8 Tryd.underlying29 hi hz0 hz1 hz2 rfl (by decide) (.slice av pre.length cv) pre.length ((stV pre).map (Value.int .i64)) (by rfl) (HROW.out.alloc _) ⟨W1.heap.size, 0, none⟩ 1 1 [.int .i64 (stI z : Int)] (by rfl) rfl (cell_one_new _ _ _) (by simp [Value.oneCell']) (by unfold maxLen; omega) (by omega) (by simp; omega) ?_
                intro v' w5 hown' hgrow
                obtain ⟨g', cap', rfl⟩ := ownsRow_succ hown'
                obtain ⟨hb5, hk5⟩ := row_grown HROW.out HRS.out hgrow
                have hv5 := Boxed.below HBX.out hb5 (by omega)
                have hc5 := hv5.cell
                have hf5 := hv5.frozen
                have HB5R := Lib.hid (HBR.out.trans (hb5.mono HLE.out))
                refine hK _ _ ?_
                clear hK K
                try simp only [List.getElem_toArray, List.getElem_cons_succ, List.getElem_cons_zero, Act.put, List.setIfInBounds_toArray, List.set_cons_zero, List.set_cons_succ]
                refine wpAnyIn_ready (rs := [6]) (by kernel_rfl) (by simp) ?_
                refine AllReadyIn.cons rfl (fun K hK => ?_) ?_
                · try simp only [List.getElem_toArray, List.getElem_cons_succ, List.getElem_cons_zero]
                  go_simp
                  refine hK _ _ ?_
                  clear hK K
                  try simp only [List.getElem_toArray, List.getElem_cons_succ, List.getElem_cons_zero, Act.put, List.setIfInBounds_toArray, List.set_cons_zero, List.set_cons_succ]
                  refine wpAnyIn_done (by kernel_rfl) ?_ _
                  gi_wp2
                  have hrow6 : w5.ownsRow (Bs + 1 + 1) 3 1 (.slice (some ⟨g', 0, none⟩) (pre.length + 1) cap') (stV (pre ++ [(⟨z, hzm⟩ : InS m)])).length ((stV (pre ++ [(⟨z, hzm⟩ : InS m)])).map (Value.int .i64)) := by
                    rw [stV_len, stV_snoc, List.map_append, List.length_append]
                    exact hown'
                  exact ⟨HKO.out.trans (hk5.trans (KeepsOthers.setCell _ _ _)), HKA.out.trans ((KeptAt.of_below hb5 (by omega)).trans (KeptAt.setCell _ _ _ (by show Bs + 1 ≠ tzG; omega))), ⟨_, hv5.set _, row_setCell hrow6 (by omega) _, trivial⟩, HB5R.out.setCell (p := ⟨Bs + 1, 0, none⟩) (by show W5.heap.size ≤ Bs + 1; omega) _⟩
                exact AllReadyIn.nil
              exact AllReadyIn.nil
            exact AllReadyIn.nil
          exact AllReadyIn.nil
        exact AllReadyIn.nil
      exact AllReadyIn.nil
    exact AllReadyIn.nil
  case done =>
    rintro D ys W hD hys ⟨⟨v, hv, hrow, _⟩, hB⟩ hK
    have HPW := Lib.hid (HB5.out.on hB)
    have HLW := Lib.hid ((HLR5.out.below hB).mono hB.size)
    have HRW := Lib.hid (row_ofS hrow)
    obtain ⟨av, cv, rfl⟩ := SS.ownOf hrow
    have hvc := hv.cell
    have HYS := Lib.hid hys
    have HKD := Lib.hid hK
    have hln : (stV ys).length ≤ 64 := by
      rw [stV_len, ← List.length_map (f := fun z : InS m => z.1), hys]
      exact MM.bits_len m
    have HJ := Lib.hid (joined_any W ((HU.out.below HPW.out.1).mono HPW.out.1.size) HX.out HXL.out (HT.out.on HPW.out.1) HLW.out (putAll_wide HWA.out HPM.out) HRW.out (by simp) (by simp; omega) (stV_in HYS.out HF6.out.2) (by omega))
    have HV := Lib.hid (put_val xs a m (p1, p2) args HFT.out HYS.out)
    clear hys hrow hK hv
    gi_wp2_with fail
    refine ⟨trivial, ?_⟩
    refine (callsIn_wide.2 HJ.out).mono ?_
    rintro e w9 ⟨rfl, hb9⟩
    rw [HV.out, HJR.out]
    have HP9 := Lib.hid (HPW.out.on hb9)
    obtain ⟨hr0, hr1, hr2, hr3⟩ := one_lab HP9.out.2.2.2.2
    have HK9 := Lib.hid ((hb9.block D ((Array.getElem?_eq_some_iff.1 HKD.out).1)).trans HKD.out)
    clear hb9 hvc
    gi_wp2
    have hs := (put_lab HP9.out.2.2.2.2 y1 y2).1
    have hK10 := ((KeepsOthers.setCell w9 ⟨w.heap.size + 1 + 1, 0, none⟩ (.int .i64 y1)).trans (KeepsOthers.setCell _ ⟨w.heap.size + 1 + 1, 1, none⟩ (.int .u64 y2))).same D _ HK9.out rfl
    have HF := Lib.hid (show Below w.heap.size w ((w9.setCell ⟨w.heap.size + 1 + 1, 0, none⟩ (.int .i64 y1)).setCell ⟨w.heap.size + 1 + 1, 1, none⟩ (.int .u64 y2)) from (HP9.out.1.setCell (p := ⟨w.heap.size + 1 + 1, 0, none⟩) (by show w.heap.size ≤ w.heap.size + 1 + 1; omega) _).setCell (p := ⟨w.heap.size + 1 + 1, 1, none⟩) (by show w.heap.size ≤ w.heap.size + 1 + 1; omega) _)
    generalize (w9.setCell ⟨w.heap.size + 1 + 1, 0, none⟩ (.int .i64 y1)).setCell ⟨w.heap.size + 1 + 1, 1, none⟩ (.int .u64 y2) = w10 at hs hK10 HF ⊢
    obtain ⟨q0, q1⟩ := two_lab hs
    have q0' := cell_kept q0 (grownBy_putObj' _ D (.deferred none)) (fun r e => (by cases e; exact ⟨_, hK10, rfl⟩))
    have q1' := cell_kept q1 (grownBy_putObj' _ D (.deferred none)) (fun r e => (by cases e; exact ⟨_, hK10, rfl⟩))
    refine ⟨by simp, .inl ⟨_, _, rfl, run_takeDeferred hK10, ?_⟩⟩
    refine ⟨.tuple #[.agg #[.int .i64 y1, .int .u64 y2], .bool zz], ?_, by rw [HJR.out], HF.out.trans (belowK_b (w := w) (Nat.le_refl _) _ D _ _ (by omega) hK10 rfl rfl)⟩
    simp [results, Tryd.f23, go_sem, q0', q1']
  case stop =>
    rintro D c pre W _ _ h _
    exact h.elim
end Go.Proofs.YtodhoplchficpaaDoor
