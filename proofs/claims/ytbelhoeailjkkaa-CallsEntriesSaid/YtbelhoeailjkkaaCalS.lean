import Derived.Test.YtbelhoeailjkkaaCalR
set_option linter.unusedSimpArgs false
set_option linter.unusedVariables false
/-! calls: the reference's Groups -/
namespace Go.Proofs.Ytbelhoeailjkkaa
open Go.RowKit CC
theorem filter_part {α : Type} (p q : α → Bool) (l : List α) : (l.filter p).length = (l.filter (fun x => p x && q x)).length + (l.filter (fun x => p x && !q x)).length := by
  induction l with
  | nil => rfl
  | cons a t ih =>
    simp only [List.filter_cons]
    cases p a <;> cases q a <;> simp [ih] <;> omega
theorem CC.put_count {n : Nat} {L : Nat → Nat → Bool} {T : Nat → Bool} {a : Nat} (hc : CC.Closed L n T) (e : CC.nextO L n T = some a) : GG.unv n (CC.putM L T a n) + (CC.grp L n a).length = GG.unv n T := by
  unfold GG.unv
  rw [filter_part (fun x => !T x) (CC.tog L a)]
  have h1 : (List.range n).filter (fun x => !T x && CC.tog L a x) = CC.grp L n a := by
    unfold CC.grp
    refine List.filter_congr (fun x hx => ?_)
    have hxn := List.mem_range.1 hx
    cases ht : CC.tog L a x
    · simp
    · rw [CC.grp_fresh hc e (CC.mem_grp.2 ⟨hxn, ht⟩)]; rfl
  have h2 : (List.range n).filter (fun x => !T x && !CC.tog L a x) = (List.range n).filter (fun x => !CC.putM L T a n x) := by
    refine List.filter_congr (fun x hx => ?_)
    have hxn := List.mem_range.1 hx
    unfold CC.putM
    rw [decide_eq_true hxn]
    cases T x <;> cases CC.tog L a x <;> rfl
  rw [h1, h2]
  omega
theorem grpI_mem {L : Nat → Nat → Bool} {a n b : Nat} (hb : b < n) : decide ((b : Int) ∈ grpI L a n) = CC.tog L a b := by
  have h : ((b : Int) ∈ grpI L a n) ↔ CC.tog L a b = true := by
    unfold grpI
    rw [List.mem_map]
    constructor
    · rintro ⟨x, hx, e⟩
      have : x = b := by have : (x : Int) = b := e; omega
      rw [← this]
      exact (List.mem_filter.1 hx).2
    · intro ht
      exact ⟨b, List.mem_filter.2 ⟨List.mem_range.2 hb, ht⟩, rfl⟩
  rw [Bool.eq_iff_iff, decide_eq_true_iff, h]
theorem grpI_at {L : Nat → Nat → Bool} {a n k : Nat} (hk : k < (grpI L a n).length) : ∃ x : Nat, (grpI L a n)[k]?.getD 0 = (x : Int) ∧ x < n := by
  have h := GG.getD_mem (d := (0 : Int)) hk
  unfold grpI at h ⊢
  obtain ⟨x, hx, e⟩ := List.mem_map.1 h
  exact ⟨x, e.symm, List.mem_range.1 (List.mem_filter.1 hx).1⟩
/-- what the reference's Groups has between two groups -/
structure RSt (W2 : World) (tb : Nat) (L : Nat → Nat → Bool) (n f : Nat) (all : List (List Nat)) (T : Nat → Bool) (g : Value) (V : World) : Prop where
  kept : Kept tb W2 V
  told : FlagsN V tb n T
  closed : CC.Closed L n T
  fuel : GG.unv n T ≤ f
  own : ∃ gs vs, gs ++ CC.groupsF L n f T = all ∧ V.ownsRow W2.heap.size 28 1 g gs.length vs ∧ GG.Rows W2.heap.size V vs (gsI gs) ∧ gs.length + GG.unv n T ≤ n
theorem RSt.next {W2 : World} {tb : Nat} {L : Nat → Nat → Bool} {n f : Nat} {all : List (List Nat)} {T : Nat → Bool} {g gv g' : Value} {wr V Z : World} {a : Nat} (hp : CC.Pre n L) (h : RSt W2 tb L n f all T g wr) (hs : tb < W2.heap.size) (e : CC.nextO L n T = some a)
    (k : Kept tb wr V) (hT : FlagsN V tb n (CC.putM L T a n)) (hg : V.ownsRow wr.heap.size 3 1 gv (grpI L a n).length (intsV (grpI L a n))) {gs : List (List Nat)} {vs : List Value} (h1 : gs ++ CC.groupsF L n f T = all) (h3 : GG.Rows W2.heap.size wr vs (gsI gs)) (h2 : wr.ownsRow W2.heap.size 28 1 g gs.length vs) (h4 : gs.length + GG.unv n T ≤ n)
    (ho : Z.ownsRow W2.heap.size 28 1 g' (gs.length + 1) (vs ++ [gv])) {ob : Obj} (hgr : (V.alloc ob).grownBy Z g.ownBlock) : RSt W2 tb L n (f - 1) all (CC.putM L T a n) g' Z := by
  obtain ⟨q1, q2, q3⟩ := CC.groups_less hp h.fuel e
  have hrow : ∀ k, g.ownBlock = some k → W2.heap.size ≤ k := fun k e => (h2.lt k e).1
  have htz : Z.heap[tb]? = V.heap[tb]? := (hgr.block _ (by have := World.rowIs.lt hT; simp; omega) (fun e => by have := hrow _ e.symm; omega)).trans (heap_alloc_old _ _ (World.rowIs.lt hT))
  refine ⟨(h.kept.trans (k.alloc ob)).grown hgr hrow, World.rowIs.of_block hT htz, CC.put_closed hp h.closed e, q1, gs ++ [CC.grp L n a], vs ++ [gv], ?_, by rw [List.length_append]; exact ho, ?_, ?_⟩
  · rw [← h1, q3]; simp
  · rw [← gsI_snoc]
    exact (((k.rows h3 hs).snoc (own_lower h.kept.size hg)).alloc ob).kept ((k.own h2 hs).alloc ob) (by decide) hgr
  · have := CC.put_less hp e
    rw [List.length_append]; simp; omega
theorem free_no {L : Nat → Nat → Bool} {n : Nat} {T : Nat → Bool} {a : Nat} (h : T a = true) : CC.freeB L n T a = false := by unfold CC.freeB; rw [h]; rfl
theorem free_waits {L : Nat → Nat → Bool} {n : Nat} {T : Nat → Bool} {a b : Nat} (hb : b < n) (h : (L a b && !T b && !CC.tog L a b) = true) : CC.freeB L n T a = false := by unfold CC.freeB; rw [waits_cons hb h]; simp
theorem free_yes {L : Nat → Nat → Bool} {n : Nat} {T : Nat → Bool} {a : Nat} (h : T a = false) (hw : ∀ b, b < n → (L a b && !T b && !CC.tog L a b) = false) : CC.freeB L n T a = true := by unfold CC.freeB; rw [h, waits_none hw]; rfl
/-- told, and so many of a group -/
def toldI (T : Nat → Bool) (row : List Int) (i : Nat) : Nat → Bool := fun x => T x || decide ((x : Int) ∈ row.take i)
theorem toldI_zero (T : Nat → Bool) (row : List Int) (x : Nat) : toldI T row 0 x = T x := by simp [toldI]
theorem toldI_succ {T : Nat → Bool} {row : List Int} {i y : Nat} (hi : i < row.length) (hy : row[i]?.getD 0 = (y : Int)) (x : Nat) : GG.setB (toldI T row i) y x = toldI T row (i + 1) x := by
  rw [List.getElem?_eq_getElem hi, Option.getD_some] at hy
  unfold GG.setB toldI
  rw [List.take_succ_eq_append_getElem hi, hy]
  by_cases e : x = y
  · subst e; simp
  · rw [if_neg e]
    have : ¬ (x : Int) = (y : Int) := by omega
    simp [this]
theorem toldI_all {L : Nat → Nat → Bool} {T : Nat → Bool} {a n i : Nat} (hi : (grpI L a n).length ≤ i) {x : Nat} (hx : x < n) : toldI T (grpI L a n) i x = CC.putM L T a n x := by
  unfold toldI CC.putM
  rw [List.take_of_length_le hi, grpI_mem hx, decide_eq_true hx, Bool.true_and]

/-- what the look at node a has found, as far as b -/
def OkS (L : Nat → Nat → Bool) (n : Nat) (T : Nat → Bool) (a b : Nat) (t : Bool) : Prop := (t = true ∧ T a = false ∧ ∀ j, j < b → (L a j && !T j && !CC.tog L a j) = false) ∨ (t = false ∧ CC.freeB L n T a = false)

set_option maxRecDepth 100000 in
set_option maxHeartbeats 12800000 in
theorem rgroups_any {v : Value} {to : List (List Int)} (W : World) (hv : GraphM W.heap.size W v to) (hx : Small to) :
    Calls Try.prog 10 #[v] W fun e W' => ∃ u, e = .returned u ∧ GraphM W'.heap.size W' u (gsI (groupsL to)) ∧ Below W.heap.size W W' := by
  have HV := Lib.hid hv
  have HX := Lib.hid hx
  obtain ⟨va, vc, rfl⟩ := hv.form
  clear hv hx
  cases hr : GG.rightG to
  · have HR := Lib.hid hr
    have HE := Lib.hid (show groupsL to = [] by unfold groupsL; rw [if_neg (by rw [hr]; decide)])
    clear hr
    go_enter Try.func10, Try.ntmps10
    go_wp2_with fail
    refine (rrightG_any _ to _ _ HV.out HX.out).mono ?_
    rintro e w1 ⟨rfl, d, e1⟩
    rw [HR.out, e1]
    clear e1
    go_wp2_with fail
    go_ret
    exact ⟨_, rfl, by rw [HE.out]; exact ⟨[], cells_empty _ _ _ _ (fun _ => rfl), rfl, fun j hj => absurd hj (Nat.not_lt_zero _)⟩, (Below.refl _ _).trans ⟨rfl, rfl, rfl, Nat.le_refl _, fun _ _ => rfl⟩⟩
  · have HR := Lib.hid hr
    have hlen := GG.right_len hr
    have HP := Lib.hid (lead_pre hr)
    have HGL := Lib.hid (show groupsL to = CC.groupsF (leadL to) to.length to.length (fun _ => false) by unfold groupsL; rw [if_pos hr])
    obtain ⟨j0, hj0, hw0, hw1, hw2⟩ := info_parts Try.infoGRow
    clear hr
    go_enter Try.func10, Try.ntmps10
    go_wp2_with fail
    refine (rrightG_any _ to _ _ HV.out HX.out).mono ?_
    rintro e w1 ⟨rfl, d, e1⟩
    rw [HR.out, e1]
    have HB1 := Lib.hid (show Below W.heap.size W (W.drewN d) from (Below.refl _ _).trans ⟨rfl, rfl, rfl, Nat.le_refl _, fun _ _ => rfl⟩)
    clear e1
    generalize W.drewN d = w1 at HB1 ⊢
    go_wp2_with fail
    refine (rreaches_any (to := to) w1 (HV.out.on HB1.out HB1.out.size) HR.out).mono ?_
    rintro e w2 ⟨bv, rfl, hbt, hb2⟩
    have HBT := Lib.hid hbt
    obtain ⟨bb, bf, bc, _, _, _, e0, _⟩ := hbt.at (show 0 < to.length by omega) (show 0 < to.length by omega)
    subst e0
    have HB2 := Lib.hid (HB1.out.trans (hb2.mono HB1.out.size))
    clear hbt hb2
    have hmk := run_make_row' (P := Try.prog) 31 4 (.bool false) 1 (by kernel_rfl) Try.infoGBool rfl .i64 .i64 to.length (by omega) (by omega)
    obtain ⟨W3, eW3⟩ : ∃ W3, W3 = w2.alloc (.cells (madeCells #[.bool false] to.length) 4) := ⟨_, rfl⟩
    have HF3 := Lib.hid (show FlagsN W3 w2.heap.size to.length (fun _ => false) by rw [eW3]; exact World.rowIs_made w2 (.bool false) to.length 4)
    have HB3 := Lib.hid (show Below w2.heap.size w2 W3 by rw [eW3]; exact (Below.refl _ _).alloc (Nat.le_refl _) _)
    have hs3 : W3.heap.size = w2.heap.size + 1 := by rw [eW3]; simp
    have EW3 := Lib.hid eW3
    clear eW3
    go_wp2_with fail
    rw [← EW3.out]
    clear hmk
    have HS0 := Lib.hid (show 0 + GG.unv to.length (fun _ => false) = to.length ∧ RSt W3 w2.heap.size (leadL to) to.length to.length (groupsL to) (fun _ => false) (.slice none 0 0) W3 from ⟨by rw [Nat.zero_add]; show ((List.range to.length).filter (fun _ => true)).length = to.length; rw [List.filter_eq_self.2 (fun _ _ => rfl), List.length_range], Kept.refl _ _, HF3.out, (fun a b _ h => by cases h), GG.unv_le _ _, [], [], by rw [HGL.out]; rfl, World.ownsRow_nil _ _ _ _, GG.Rows.nil _ _, by have := GG.unv_le to.length (fun _ => false); simpa using this⟩)
    go_loopg [5, 6] to.length (fun gn g cn wr => ∃ (T : Nat → Bool) (c : Nat), cn = .int .i64 (c : Int) ∧ RowKit.Hid (c + GG.unv to.length T = to.length ∧ RSt W3 w2.heap.size (leadL to) to.length gn (groupsL to) T g wr))
    case atStart => exact ⟨_, 0, rfl, HS0⟩
    case round =>
      obtain ⟨w4, rfl⟩ : ∃ w4, w4 = wr := ⟨_, rfl⟩
      obtain ⟨T, c, rfl, HH⟩ := hrel
      clear HS0 HF3
      have hc := HH.out.1
      by_cases hcn : c < to.length
      · have HC := Lib.hid HH.out.1
        have HS := Lib.hid HH.out.2
        obtain ⟨gs, vs, q1, q2, q3, q4⟩ := HH.out.2.own
        have Q1 := Lib.hid q1
        have Q2 := Lib.hid q2
        have Q3 := Lib.hid q3
        have Q4 := Lib.hid q4
        have hgs : gs.length ≤ 256 := by omega
        obtain ⟨ga, gc, rfl⟩ := CC.ownOf q2
        have hts : w2.heap.size < w4.heap.size := by have := HH.out.2.kept.size; omega
        clear q1 q2 q3 q4 HH hc
        go_wp2_with fail
        go_loopw [5, 6, 7] (fun og cn k wr => ∃ a : Nat, a ≤ to.length ∧ k = .int .i64 (a : Int) ∧ og = .slice ga gs.length gc ∧ cn = .int .i64 (c : Int) ∧ RowKit.Hid (Kept w2.heap.size w4 wr ∧ FlagsN wr w2.heap.size to.length T ∧ ∀ j, j < a → CC.freeB (leadL to) to.length T j = false)) (fun _ _ k _ => to.length - (intOf k).toNat)
        case atStart => exact ⟨0, by omega, rfl, rfl, rfl, Lib.hid ⟨Kept.refl _ _, HS.out.told, fun j hj => absurd hj (Nat.not_lt_zero _)⟩⟩
        case round =>
          obtain ⟨w5, rfl⟩ : ∃ w5, w5 = wr := ⟨_, rfl⟩
          obtain ⟨a, ha, rfl, rfl, rfl, HA⟩ := hrel
          by_cases hal : a < to.length
          · have HK5 := Lib.hid HA.out.1
            have HNF := Lib.hid HA.out.2.2
            have HBW := Lib.hid (show Below w2.heap.size w2 w5 from (HS.out.kept.trans HK5.out).below HB3.out (Nat.le_refl _) HB3.out.size)
            go_wp2_with fail
            refine (rgroup_any (n := to.length) (L := leadL to) a w5 (HBT.out.below HBW.out) HBW.out.size hal hlen.2).mono ?_
            rintro e w6 ⟨gv, rfl, hgo, hb6⟩
            have HK6 := Lib.hid (show Kept w2.heap.size w5 w6 from ⟨hb6.os, hb6.tape, hb6.output, hb6.size, fun k hk _ => hb6.block k hk⟩)
            have HF6 := Lib.hid (show FlagsN w6 w2.heap.size to.length T from World.rowIs.of_block HA.out.2.1 (hb6.block _ (World.rowIs.lt HA.out.2.1)))
            have HGO := Lib.hid hgo
            have HT6 := Lib.hid (HBT.out.below (HBW.out.trans (hb6.mono HBW.out.size)))
            obtain ⟨gva, gvc, rfl⟩ := CC.ownOf hgo
            have hgl := grpI_len (leadL to) a to.length
            have hcT := World.rowIs.cell HF6.out hal
            have i1 : (0 : Int) ≤ a ∧ (a : Int) < to.length := by omega
            have HIN := Lib.hid (fun b (hb : b < to.length) => grpI_mem (L := leadL to) (a := a) hb)
            have HNX := Lib.hid (fun (h : CC.freeB (leadL to) to.length T a = true) => next_hit hal h HNF.out)
            have HAL := Lib.hid hal
            clear hgo hb6 HA
            obtain ⟨t0, ht0⟩ : ∃ t0, t0 = T a := ⟨_, rfl⟩
            rw [← ht0] at hcT
            have HT0 := Lib.hid ht0
            clear ht0
            obtain ⟨row, hrow⟩ : ∃ row, row = grpI (leadL to) a to.length := ⟨_, rfl⟩
            rw [← hrow] at HGO hgl HIN
            rw [← hrow]
            have HROW := Lib.hid hrow
            clear hrow
            go_wp2_with fail
            go_loopw [9, 10] (fun s k wr => ∃ (b : Nat) (t : Bool), b ≤ to.length ∧ k = .int .i64 (b : Int) ∧ s = .bool t ∧ w6 = wr ∧ RowKit.Hid (OkS (leadL to) to.length T a b t)) (fun _ k _ => to.length - (intOf k).toNat)
            case atStart =>
              refine ⟨0, !t0, by omega, rfl, rfl, rfl, Lib.hid ?_⟩
              cases h : t0
              · exact .inl ⟨rfl, by rw [← HT0.out, h], fun j hj => absurd hj (Nat.not_lt_zero _)⟩
              · exact .inr ⟨rfl, free_no (by rw [← HT0.out, h])⟩
            case round =>
              obtain ⟨b, t, hb, rfl, rfl, rfl, HI⟩ := hrel
              cases t
              · have HFN := Lib.hid (show CC.freeB (leadL to) to.length T a = false by
                  rcases HI.out with h | h
                  · cases h.1
                  · exact h.2)
                have HK7 := Lib.hid (show Kept w2.heap.size w4 w6 ∧ FlagsN w6 w2.heap.size to.length T ∧ ∀ j, j < a + 1 → CC.freeB (leadL to) to.length T j = false from ⟨HK5.out.trans HK6.out, HF6.out, fun j hj => by
                  by_cases e : j = a
                  · rw [e]; exact HFN.out
                  · exact HNF.out j (by omega)⟩)
                clear HI
                by_cases hbl : b < to.length
                · go_wp2_with fail
                  go_roundw
                  case rel => exact ⟨a + 1, by have := HAL.out; omega, by go_num, rfl, rfl, HK7⟩
                  case measure => have := HAL.out; simp [intOf]; omega
                · go_wp2_with fail
                  go_roundw
                  case rel => exact ⟨a + 1, by have := HAL.out; omega, by go_num, rfl, rfl, HK7⟩
                  case measure => have := HAL.out; simp [intOf]; omega
              · have HT1 := Lib.hid (show T a = false ∧ ∀ j, j < b → (leadL to a j && !T j && !CC.tog (leadL to) a j) = false by
                  rcases HI.out with h | h
                  · exact h.2
                  · cases h.1)
                clear HI
                by_cases hbl : b < to.length
                · obtain ⟨tb1, tf1, tc1, rb1, rf1, rc1, e1, hr1, hc1⟩ := HT6.out.at HAL.out hbl
                  cases e1
                  have hcb := World.rowIs.cell HF6.out hbl
                  have i2 : (0 : Int) ≤ b ∧ (b : Int) < to.length := by omega
                  have HBL := Lib.hid hbl
                  have HINB := Lib.hid (HIN.out b hbl)
                  obtain ⟨z1, hz1⟩ : ∃ z1, z1 = leadL to a b := ⟨_, rfl⟩
                  obtain ⟨z2, hz2⟩ : ∃ z2, z2 = T b := ⟨_, rfl⟩
                  rw [← hz1] at hc1
                  rw [← hz2] at hcb
                  have HMK := Lib.hid (fun (h : (leadL to a b && !T b && !CC.tog (leadL to) a b) = false) => show OkS (leadL to) to.length T a (b + 1) true from .inl ⟨rfl, HT1.out.1, fun j hj => by
                    by_cases e : j = b
                    · rw [e]; exact h
                    · exact HT1.out.2 j (by omega)⟩)
                  cases z1
                  · have HN := Lib.hid (HMK.out (by rw [← hz1]; rfl))
                    clear hz1 hz2
                    go_wp2_with fail
                    go_roundw
                    case rel => exact ⟨b + 1, true, by have := HBL.out; omega, by go_num, rfl, by first | rfl | trivial, HN⟩
                    case measure => have := HBL.out; simp [intOf]; omega
                  · cases z2
                    · obtain ⟨z3, hz3⟩ : ∃ z3, z3 = CC.tog (leadL to) a b := ⟨_, rfl⟩
                      have HZ3 := Lib.hid (show decide ((b : Int) ∈ row) = z3 by rw [HINB.out, hz3])
                      cases z3
                      · have HN := Lib.hid (show OkS (leadL to) to.length T a (b + 1) false from .inr ⟨rfl, free_waits hbl (by rw [← hz1, ← hz2, ← hz3]; rfl)⟩)
                        clear hz1 hz2 hz3
                        go_wp2_with (go_at_call 18; refine (crin_any (b : Int) w6 (show Row w6.heap.size w6 (.slice gva row.length gvc) row from cells_of_row HGO.out) (by omega)).mono ?_; rintro e w' ⟨rfl, e8⟩; rw [e8, HZ3.out]; clear e8)
                        go_roundw
                        case rel => exact ⟨b + 1, false, by have := HBL.out; omega, by go_num, rfl, by first | rfl | trivial, HN⟩
                        case measure => have := HBL.out; simp [intOf]; omega
                      · have HN := Lib.hid (HMK.out (by rw [← hz3]; simp))
                        clear hz1 hz2 hz3
                        go_wp2_with (go_at_call 18; refine (crin_any (b : Int) w6 (show Row w6.heap.size w6 (.slice gva row.length gvc) row from cells_of_row HGO.out) (by omega)).mono ?_; rintro e w' ⟨rfl, e8⟩; rw [e8, HZ3.out]; clear e8)
                        go_roundw
                        case rel => exact ⟨b + 1, true, by have := HBL.out; omega, by go_num, rfl, by first | rfl | trivial, HN⟩
                        case measure => have := HBL.out; simp [intOf]; omega
                    · have HN := Lib.hid (HMK.out (by rw [← hz2]; simp))
                      clear hz1 hz2
                      go_wp2_with fail
                      go_roundw
                      case rel => exact ⟨b + 1, true, by have := HBL.out; omega, by go_num, rfl, by first | rfl | trivial, HN⟩
                      case measure => have := HBL.out; simp [intOf]; omega
                · have HNX2 := Lib.hid (HNX.out (free_yes HT1.out.1 (fun j hj => HT1.out.2 j (by omega))))
                  have HSU := Lib.hid (CC.put_count HS.out.closed HNX2.out)
                  have HFL := Lib.hid (CC.groups_less HP.out HS.out.fuel HNX2.out)
                  have HRL := Lib.hid (show row.length = (CC.grp (leadL to) to.length a).length by rw [HROW.out]; unfold grpI CC.grp; rw [List.length_map])
                  have HF0 := Lib.hid (show FlagsN w6 w2.heap.size to.length (toldI T row 0) from World.rowIs.congr HF6.out (fun x _ => by rw [toldI_zero]))
                  have HRA := Lib.hid (fun k (hk : k < row.length) => show ∃ x : Nat, row[k]?.getD 0 = (x : Int) ∧ x < to.length by rw [HROW.out] at hk ⊢; exact grpI_at hk)
                  clear hcT
                  go_wp2_with fail
                  go_loopw [11] (fun k wr => ∃ i : Nat, i ≤ row.length ∧ k = .int .i64 (i : Int) ∧ RowKit.Hid (FlagsN wr w2.heap.size to.length (toldI T row i) ∧ Kept w2.heap.size w6 wr)) (fun k _ => row.length - (intOf k).toNat)
                  case atStart => exact ⟨0, by omega, rfl, Lib.hid ⟨HF0.out, Kept.refl _ _⟩⟩
                  case round =>
                    obtain ⟨w7, rfl⟩ : ∃ w7, w7 = wr := ⟨_, rfl⟩
                    obtain ⟨i, hi, rfl, HH⟩ := hrel
                    have HGO7 := Lib.hid (HH.out.2.own HGO.out (by have := HBW.out.size; have := HK5.out.size; omega))
                    by_cases hil : i < row.length
                    · obtain ⟨x, hx, hxn⟩ := HRA.out i hil
                      obtain ⟨rb, rf, e1, hrc⟩ := Row.cellAt (show Row w7.heap.size w7 (.slice gva row.length gvc) row from cells_of_row HGO7.out) hil
                      cases e1
                      rw [hx] at hrc
                      have HIL := Lib.hid hil
                      have hcx := World.rowIs.cell HH.out.1 hxn
                      have hfx := World.rowIs.frozen HH.out.1 x
                      obtain ⟨y, hy⟩ : ∃ y, y = toldI T row i x := ⟨_, rfl⟩
                      rw [← hy] at hcx
                      have i3 : (0 : Int) ≤ i ∧ (i : Int) < row.length := by omega
                      have i4 : (0 : Int) ≤ x ∧ (x : Int) < to.length := by omega
                      have HN := Lib.hid (show FlagsN (w7.setCell ⟨w2.heap.size, x, none⟩ (.bool true)) w2.heap.size to.length (toldI T row (i + 1)) ∧ Kept w2.heap.size w6 (w7.setCell ⟨w2.heap.size, x, none⟩ (.bool true)) from ⟨World.rowIs.congr (HH.out.1.set x) (fun j _ => by rw [toldI_succ hil hx]), HH.out.2.set x _⟩)
                      clear hy hx
                      go_wp2_with fail
                      go_roundw
                      case rel => exact ⟨i + 1, by have := HIL.out; omega, by go_num, HN⟩
                      case measure => have := HIL.out; simp [intOf]; omega
                    · have HF9 := Lib.hid (show FlagsN w7 w2.heap.size to.length (CC.putM (leadL to) T a to.length) from World.rowIs.congr HH.out.1 (fun x hx => by rw [HROW.out, toldI_all (by rw [← HROW.out]; omega) hx]))
                      have HK9 := Lib.hid (HK5.out.trans (HK6.out.trans HH.out.2))
                      have HOW := Lib.hid (HK9.out.own Q2.out (by omega))
                      have HGN := Lib.hid (fun (Z : World) (g' : Value) (ob : Obj) (ho : Z.ownsRow W3.heap.size 28 1 g' (gs.length + 1) (vs ++ [.slice gva row.length gvc])) (hgr : (w7.alloc ob).grownBy Z (Value.slice ga gs.length gc).ownBlock) => HS.out.next HP.out (by omega) HNX2.out HK9.out HF9.out (by rw [← HROW.out]; exact own_lower HK5.out.size HGO7.out) Q1.out Q3.out Q2.out Q4.out ho hgr)
                      clear HH
                      go_wp2_with (at_builtin
                                   refine GG.wpList_append_any rfl _ _ 22 rfl W3.heap.size 28 j0 (.slice none 0 0) 1 24 Try.underlying22 hj0 hw0 hw1 hw2 rfl (by decide) (.slice ga gs.length gc) gs.length vs rfl (HOW.out.alloc _) (.slice (some ⟨w7.heap.size, 0, none⟩) 1 1) 1 [.slice gva row.length gvc] rfl rfl (.inr ⟨_, _, rfl, GG.cell_one _ _ _⟩) (by intro u hu; rw [List.mem_singleton.1 hu]; rfl) (by unfold maxLen; omega) (by omega) (by have := HS.out.kept.size; have := HK9.out.size; simp; omega) ?_
                                   intro v1 w9 ho hg
                                   have HS9 := Lib.hid (HGN.out w9 v1 _ ho hg)
                                   clear ho hg)
                      go_roundg (gk - 1)
                      case measure => exact HFL.out.2.1
                      case rel => exact ⟨_, c + row.length, by go_num, Lib.hid ⟨by have h1 := HSU.out; have h2 := HC.out; have h3 := HRL.out; omega, HS9.out⟩⟩
          · have HX := Lib.hid (show False by
              have h0 : ∃ x, x < to.length ∧ T x = false := by
                by_cases hx : ∃ x, x < to.length ∧ T x = false
                · exact hx
                · have := CC.unv_all (n := to.length) (T := T) (fun x hxn => by cases e : T x; exact absurd ⟨x, hxn, e⟩ hx; rfl)
                  have := HC.out
                  omega
              obtain ⟨x, hxn, hxt⟩ := h0
              obtain ⟨y, hy⟩ := CC.next_some HP.out hxn hxt
              have h1 := HA.out.2.2 y (by have := (CC.next_is hy).1; omega)
              unfold CC.freeB at h1
              rw [(CC.next_is hy).2.1, (CC.next_is hy).2.2] at h1
              cases h1)
            exact absurd HX.out id
      · have HE := Lib.hid (show ∃ vs, w4.ownsRow W3.heap.size 28 1 u5 (gsI (groupsL to)).length vs ∧ GG.Rows W3.heap.size w4 vs (gsI (groupsL to)) ∧ Below W.heap.size W w4 by
          obtain ⟨gs, vs, q1, q2, q3, q4⟩ := HH.out.2.own
          have hn : CC.nextO (leadL to) to.length T = none := next_none (fun x hx => free_no (CC.unv_zero (n := to.length) (T := T) (by omega) x hx))
          rw [CC.groups_stop _ hn, List.append_nil] at q1
          rw [← q1, gsI_len]
          exact ⟨vs, q2, q3, (HH.out.2.kept.below HB3.out (Nat.le_refl _) HB3.out.size |> fun h => HB2.out.trans (h.mono HB2.out.size))⟩)
        obtain ⟨vs, HE1, HE2, HE3⟩ := HE.out
        clear HH hc
        go_wp2_with fail
        go_ret
        exact ⟨_, rfl, HE2.graph HE1, HE3⟩
end Go.Proofs.Ytbelhoeailjkkaa
