import Derived.Test.YtbelhoeailjkkaaCalA
import Derived.Test.YtbelhoeailjkkaaGraD
set_option linter.unusedSimpArgs false
set_option linter.unusedVariables false
/-! CallsOrder: the walk -/
namespace Go.Proofs.Ytbelhoeailjkkaa
open Go.RowKit CC
/-- in which of the first i groups a node is -/
def atG (gs : List (List Nat)) : Nat → Nat → Int
  | 0, _ => -1
  | i + 1, v => if v ∈ gs[i]?.getD [] then (i : Int) else atG gs i v
def atK (gs : List (List Nat)) (i k v : Nat) : Int := if v ∈ (gs[i]?.getD []).take k then (i : Int) else atG gs i v
theorem atK_zero (gs : List (List Nat)) (i v : Nat) : atK gs i 0 v = atG gs i v := by unfold atK; rw [if_neg (by simp)]
theorem atK_all {gs : List (List Nat)} {i k : Nat} (h : (gs[i]?.getD []).length ≤ k) (v : Nat) : atK gs i k v = atG gs (i + 1) v := by
  unfold atK
  rw [List.take_of_length_le h]
  rfl
theorem atK_succ {gs : List (List Nat)} {i k : Nat} (hk : k < (gs[i]?.getD []).length) (v : Nat) : atK gs i (k + 1) v = if v = (gs[i]?.getD [])[k]?.getD 0 then (i : Int) else atK gs i k v := by
  unfold atK
  have e0 := List.take_succ_eq_append_getElem hk
  have e1 : (gs[i]?.getD [])[k]?.getD 0 = (gs[i]?.getD [])[k] := by rw [List.getElem?_eq_getElem hk, Option.getD_some]
  rw [e1]
  by_cases e : v = (gs[i]?.getD [])[k]
  · rw [if_pos e, if_pos (by rw [e0, e]; exact List.mem_append.2 (.inr (List.mem_singleton.2 rfl)))]
  · rw [if_neg e]
    by_cases e2 : v ∈ (gs[i]?.getD []).take k
    · rw [if_pos e2, if_pos (by rw [e0]; exact List.mem_append.2 (.inl e2))]
    · rw [if_neg e2, if_neg (fun h => by rw [e0] at h; rcases List.mem_append.1 h with h | h; exact e2 h; exact e (List.mem_singleton.1 h))]
theorem atG_none {gs : List (List Nat)} {i v : Nat} (h : ∀ j, j < i → v ∉ gs[j]?.getD []) : atG gs i v = -1 := by
  induction i with
  | zero => rfl
  | succ i ih =>
    show (if v ∈ gs[i]?.getD [] then (i : Int) else atG gs i v) = -1
    rw [if_neg (h i (by omega))]
    exact ih (fun j hj => h j (by omega))
theorem atG_some {gs : List (List Nat)} {m i v : Nat} (hi : i < m) (h : v ∈ gs[i]?.getD []) (hu : ∀ j, v ∈ gs[j]?.getD [] → j = i) : atG gs m v = (i : Int) := by
  induction m with
  | zero => omega
  | succ m ih =>
    show (if v ∈ gs[m]?.getD [] then (m : Int) else atG gs m v) = i
    by_cases e : v ∈ gs[m]?.getD []
    · rw [if_pos e, hu m e]
    · rw [if_neg e]
      refine ih ?_
      rcases Nat.lt_succ_iff_lt_or_eq.1 hi with q | q
      · exact q
      · rw [q] at h; exact absurd h e
/-- how many are told -/
def cntG (gs : List (List Nat)) (i : Nat) : Nat := ((gs.take i).flatten).length
theorem cntG_succ {gs : List (List Nat)} {i : Nat} (hi : i < gs.length) : cntG gs (i + 1) = cntG gs i + (gs[i]?.getD []).length := by
  unfold cntG
  rw [List.take_succ_eq_append_getElem hi, List.flatten_append, List.length_append, List.getElem?_eq_getElem hi]
  simp
theorem cntG_le {gs : List (List Nat)} (i : Nat) : cntG gs i ≤ gs.flatten.length := by
  unfold cntG
  have : gs.flatten = (gs.take i).flatten ++ (gs.drop i).flatten := by rw [← List.flatten_append, List.take_append_drop]
  rw [this, List.length_append]
  omega
structure OrdF (to : List (List Int)) (gs : List (List Nat)) : Prop where
  lt : ∀ (i v : Nat), v ∈ gs[i]?.getD [] → v < to.length
  once : ∀ (i j v : Nat), v ∈ gs[i]?.getD [] → v ∈ gs[j]?.getD [] → i = j
  nodup : ∀ (i : Nat), (gs[i]?.getD []).Nodup
  all : cntG gs gs.length = to.length
  pair : ∀ (a b : Nat), a < to.length → b < to.length → (leadL to a b && leadL to b a) = decide (atG gs gs.length a = atG gs gs.length b) ∧ (leadL to a b = true → atG gs gs.length b ≤ atG gs gs.length a)
theorem ord_facts {to : List (List Int)} (h : GG.rightG to = true) : OrdF to (groupsL to) := by
  obtain ⟨h1, h2, h3, h4⟩ := groups_facts h
  have hlt : ∀ (i v : Nat), v ∈ (groupsL to)[i]?.getD [] → v < to.length := fun i v hv => (h2 v).1 (CC.mem_flat hv)
  have honce : ∀ (i j v : Nat), v ∈ (groupsL to)[i]?.getD [] → v ∈ (groupsL to)[j]?.getD [] → i = j := by
    intro i j v hi hj
    have h5 := (h4 i j v v hi hj).1
    rw [CC.tog_self (lead_pre h) (hlt i v hi)] at h5
    exact of_decide_eq_true h5.symm
  have hat : ∀ (a : Nat), a < to.length → ∃ i, i < (groupsL to).length ∧ a ∈ (groupsL to)[i]?.getD [] ∧ atG (groupsL to) (groupsL to).length a = (i : Int) := by
    intro a ha
    obtain ⟨g, hg, hag⟩ := List.mem_flatten.1 ((h2 a).2 ha)
    obtain ⟨i, hi, e⟩ := List.mem_iff_getElem.1 hg
    have hm : a ∈ (groupsL to)[i]?.getD [] := by rw [List.getElem?_eq_getElem hi, Option.getD_some, e]; exact hag
    exact ⟨i, hi, hm, atG_some hi hm (fun j hj => honce j i a hj hm)⟩
  refine ⟨hlt, honce, fun i => ?_, ?_, fun a b ha hb => ?_⟩
  · by_cases hi : i < (groupsL to).length
    · rw [List.getElem?_eq_getElem hi, Option.getD_some]
      exact (List.pairwise_flatten.1 h1).1 _ (List.getElem_mem hi)
    · rw [List.getElem?_eq_none (by omega)]; simp
  · unfold cntG
    rw [List.take_length]
    exact h3
  · obtain ⟨i, _, hi, ei⟩ := hat a ha
    obtain ⟨j, _, hj, ej⟩ := hat b hb
    obtain ⟨q1, q2⟩ := h4 i j a b hi hj
    rw [ei, ej]
    refine ⟨?_, fun hl => by have := q2 hl; omega⟩
    show CC.tog (leadL to) a b = _
    rw [q1]
    by_cases e : i = j
    · rw [decide_eq_true e, decide_eq_true (by rw [e])]
    · rw [decide_eq_false e, decide_eq_false (by omega)]
theorem gsI_at (gs : List (List Nat)) (i : Nat) : (gsI gs)[i]?.getD [] = (gs[i]?.getD []).map Int.ofNat := by
  unfold gsI
  rw [List.getElem?_map]
  cases gs[i]? <;> rfl
theorem mapI_at (g : List Nat) (k : Nat) : (g.map Int.ofNat)[k]?.getD 0 = ((g[k]?.getD 0 : Nat) : Int) := by
  rw [List.getElem?_map]
  cases g[k]? <;> rfl
theorem creached_in {to : List (List Int)} (h : GG.rightG to = true) {a : Nat} (ha : a < to.length) : reachedL to (a : Int) = flagsL to.length (leadL to a) := by
  unfold reachedL
  rw [if_pos ⟨h, decide_eq_true (by omega)⟩, Int.toNat_natCast]
  rfl

set_option maxRecDepth 100000 in
set_option maxHeartbeats 12800000 in
theorem callsOrder_walk (v : Value) (to : List (List Int)) (W : World) (hv : GraphM W.heap.size W v to) (hx : Small to) :
    Calls Try.prog 5 #[v] W fun e W' => e = .returned (.bool true) ∧ Below W.heap.size W W' := by
  have hx0 := hx.1
  have HV := Lib.hid hv
  have HX := Lib.hid hx
  obtain ⟨va, vc, rfl⟩ := hv.form
  clear hv hx
  by_cases c1 : 25 < to.length
  · have t1 : decide ((25 : Int) < (to.length : Int)) = true := decide_eq_true (by omega)
    have t2 : decide (25 < to.length) = true := decide_eq_true c1
    go_enter Try.func5, Try.ntmps5
    go_wp2_with (go_at_call 11; refine (awakeC_any _).mono ?_; rintro e w1 ⟨rfl, hb⟩; have HB1 := Lib.hid hb; clear hb)
    go_ret
    exact ⟨rfl, HB1.out⟩
  · have t1 : decide ((25 : Int) < (to.length : Int)) = false := decide_eq_false (by omega)
    have t2 : decide (25 < to.length) = false := decide_eq_false c1
    cases hr : GG.rightG to
    · have HR := Lib.hid hr
      clear hr
      go_enter Try.func5, Try.ntmps5
      go_wp2_with fail
      refine (rightG_any _ to _ HV.out HX.out).mono ?_
      rintro e w1 ⟨rfl, hb⟩
      rw [HR.out]
      have HB1 := Lib.hid hb
      clear hb
      go_wp2_with (go_at_call 11; refine (awakeC_any _).mono ?_; rintro e w2 ⟨rfl, hb⟩; have HB2 := Lib.hid (HB1.out.trans (hb.mono HB1.out.size)); clear hb)
      go_ret
      exact ⟨rfl, HB2.out⟩
    · have HR := Lib.hid hr
      have HF := Lib.hid (ord_facts hr)
      have HM := Lib.hid (groups_many hr)
      have hlen := GG.right_len hr
      clear hr
      go_enter Try.func5, Try.ntmps5
      go_wp2_with fail
      refine (rightG_any _ to _ HV.out HX.out).mono ?_
      rintro e w1 ⟨rfl, hb⟩
      rw [HR.out]
      have HB1 := Lib.hid hb
      clear hb
      go_wp2_with fail
      refine (cgroups_any (to := to) w1 (HV.out.on HB1.out HB1.out.size) HX.out).mono ?_
      rintro e w2 ⟨gv, vs, rfl, hown, hrows, hb2⟩
      have HG := Lib.hid (hrows.graph hown)
      obtain ⟨ga, gc, rfl⟩ := CC.ownOf hown
      rw [gsI_len]
      have HB2 := Lib.hid (HB1.out.trans (hb2.mono HB1.out.size))
      obtain ⟨gs, hgs⟩ : ∃ gs, gs = groupsL to := ⟨_, rfl⟩
      rw [← hgs] at HF HM HG
      rw [gsI_len] at HG
      rw [← hgs]
      clear hown hrows hb2 hgs
      have hm256 : gs.length ≤ 256 := HM.out
      have hmk := run_make_row' (P := Try.prog) 28 3 (.int .i64 0) 8 (by kernel_rfl) Try.infoGInt rfl .i64 .i64 to.length (by omega) (by omega)
      have HI3 := Lib.hid (show IntsC (w2.alloc (.cells (madeCells #[.int .i64 0] to.length) 3)) w2.heap.size to.length (fun _ => 0) from World.rowIs_made w2 (.int .i64 0) to.length 3)
      have HB3 := Lib.hid (show Below w2.heap.size w2 (w2.alloc (.cells (madeCells #[.int .i64 0] to.length) 3)) from (Below.refl _ _).alloc (Nat.le_refl _) _)
      go_wp2_with fail
      clear hmk
      go_loopw [5] (fun k wr => ∃ i : Nat, i ≤ to.length ∧ k = .int .i64 (i : Int) ∧ RowKit.Hid (IntsC wr w2.heap.size to.length (fun j => if j < i then -1 else 0) ∧ Below w2.heap.size w2 wr)) (fun k _ => to.length - (intOf k).toNat)
      case atStart => exact ⟨0, by omega, rfl, Lib.hid ⟨HI3.out, HB3.out⟩⟩
      case round =>
        obtain ⟨w3, rfl⟩ : ∃ w3, w3 = wr := ⟨_, rfl⟩
        obtain ⟨i, hi, rfl, HH⟩ := hrel
        by_cases hlt : i < to.length
        · have hc := World.rowIs.cell HH.out.1 hlt
          have hf := World.rowIs.frozen HH.out.1 i
          have i1 : (0 : Int) ≤ i ∧ (i : Int) < to.length := by omega
          have HN := Lib.hid (show IntsC (w3.setCell ⟨w2.heap.size, i, none⟩ (.int .i64 (-1))) w2.heap.size to.length (fun j => if j < i + 1 then -1 else 0) ∧ Below w2.heap.size w2 (w3.setCell ⟨w2.heap.size, i, none⟩ (.int .i64 (-1))) from ⟨HH.out.1.set i (-1) (fun j => by
            by_cases e : j = i
            · rw [if_pos e, if_pos (by omega)]
            · rw [if_neg e]
              by_cases e2 : j < i
              · rw [if_pos e2, if_pos (by omega)]
              · rw [if_neg e2, if_neg (by omega)]), HH.out.2.setCell (p := ⟨w2.heap.size, i, none⟩) (Nat.le_refl _) _⟩)
          go_wp2_with fail
          go_roundw
          case rel => exact ⟨i + 1, by omega, by go_num, HN⟩
          case measure => simp [intOf]; omega
        · have HS := Lib.hid (show IntsC w3 w2.heap.size to.length (atG gs 0) ∧ Below w2.heap.size w2 w3 from ⟨World.rowIs.congr HH.out.1 (fun j hj => by show Value.int .i64 (if j < i then -1 else 0) = _; rw [if_pos (by omega)]; rfl), HH.out.2⟩)
          clear HH
          go_wp2_with fail
          go_loopw [6, 7] (fun n k wr => ∃ i : Nat, i ≤ gs.length ∧ k = .int .i64 (i : Int) ∧ n = .int .i64 (cntG gs i : Int) ∧ RowKit.Hid (IntsC wr w2.heap.size to.length (atG gs i) ∧ Below w2.heap.size w2 wr)) (fun _ k _ => gs.length - (intOf k).toNat)
          case atStart => exact ⟨0, by omega, rfl, rfl, HS⟩
          case round =>
            obtain ⟨w4, rfl⟩ : ∃ w4, w4 = wr := ⟨_, rfl⟩
            obtain ⟨i, hi2, rfl, rfl, HH⟩ := hrel
            clear HS
            by_cases hig : i < gs.length
            · have HSU := Lib.hid (cntG_succ hig)
              have hcl := cntG_le (gs := gs) (i + 1)
              have hall := cntG_le (gs := gs) gs.length
              have hall2 := HF.out.all
              obtain ⟨g, eg⟩ : ∃ g, g = gs[i]?.getD [] := ⟨_, rfl⟩
              obtain ⟨c, ec⟩ : ∃ c, c = cntG gs i := ⟨_, rfl⟩
              have HEG := Lib.hid eg
              rw [← ec] at HSU
              rw [← eg] at HSU
              rw [← ec]
              have hcb : c + g.length ≤ 4294967296 := by
                have h1 : gs.flatten.length = to.length := by
                  have := HF.out.all
                  unfold cntG at this
                  rwa [List.take_length] at this
                have h2 := HSU.out
                omega
              clear hcl hall hall2 ec eg
              have HS0 := Lib.hid (show IntsC w4 w2.heap.size to.length (atK gs i 0) ∧ Below w2.heap.size w2 w4 from ⟨World.rowIs.congr HH.out.1 (fun j _ => by rw [atK_zero]), HH.out.2⟩)
              clear HH
              go_wp2_with fail
              go_loopw [6, 8] (fun n k wr => ∃ q : Nat, q ≤ g.length ∧ k = .int .i64 (q : Int) ∧ n = .int .i64 ((c + q : Nat) : Int) ∧ RowKit.Hid (IntsC wr w2.heap.size to.length (atK gs i q) ∧ Below w2.heap.size w2 wr)) (fun _ k _ => g.length - (intOf k).toNat)
              case atStart => exact ⟨0, by omega, rfl, rfl, HS0⟩
              case round =>
                obtain ⟨w5, rfl⟩ : ∃ w5, w5 = wr := ⟨_, rfl⟩
                obtain ⟨q, hq, rfl, rfl, HH⟩ := hrel
                clear HS0
                have HGW := Lib.hid (HG.out.below HH.out.2)
                obtain ⟨gb, gf, gc2, e1⟩ := HGW.out.addr (by rw [gsI_len]; omega)
                rw [gsI_len] at e1
                cases e1
                obtain ⟨ra, rac, hx1, hrx⟩ := HGW.out.at (show i < (gsI gs).length by rw [gsI_len]; exact hig)
                rw [gsI_at, List.length_map, ← HEG.out] at hx1
                rw [gsI_at, List.length_map, ← HEG.out] at hrx
                have i2 : (0 : Int) ≤ i ∧ (i : Int) < gs.length := by omega
                by_cases hqg : q < g.length
                · have HQG := Lib.hid hqg
                  obtain ⟨rb, rf, e1, hrc⟩ := Row.cellAt (show Row w2.heap.size w5 (.slice ra g.length rac) (g.map Int.ofNat) from hrx) (show q < (g.map Int.ofNat).length by rw [List.length_map]; exact hqg)
                  cases e1
                  rw [mapI_at] at hrc
                  obtain ⟨x, ex⟩ : ∃ x, x = g[q]?.getD 0 := ⟨_, rfl⟩
                  rw [← ex] at hrc
                  have hxm : x ∈ gs[i]?.getD [] := by rw [ex, ← HEG.out]; exact GG.getD_mem hqg
                  have hxn : x < to.length := HF.out.lt i x hxm
                  have hneg : atK gs i q x = -1 := by
                    unfold atK
                    rw [if_neg, atG_none (fun j hj hm => by have := HF.out.once j i x hm hxm; omega)]
                    rw [← HEG.out]
                    intro hm
                    obtain ⟨k', hk', e3⟩ := List.mem_take_iff_getElem.1 hm
                    have hnd := HF.out.nodup i
                    rw [← HEG.out] at hnd
                    have e4 : g[k']'(by omega) = g[q] := by rw [e3, ex, List.getElem?_eq_getElem hqg]; rfl
                    have := (List.getElem_inj hnd).1 e4
                    omega
                  have hcx := World.rowIs.cell HH.out.1 hxn
                  rw [hneg] at hcx
                  have hfx := World.rowIs.frozen HH.out.1 x
                  have i3 : (0 : Int) ≤ q ∧ (q : Int) < g.length := by omega
                  have i4 : (0 : Int) ≤ x ∧ (x : Int) < to.length := by omega
                  have HN := Lib.hid (show IntsC (w5.setCell ⟨w2.heap.size, x, none⟩ (.int .i64 (i : Int))) w2.heap.size to.length (atK gs i (q + 1)) ∧ Below w2.heap.size w2 (w5.setCell ⟨w2.heap.size, x, none⟩ (.int .i64 (i : Int))) from ⟨HH.out.1.set x (i : Int) (fun j => by rw [atK_succ (by rw [← HEG.out]; exact hqg), ← HEG.out, ← ex]), HH.out.2.setCell (p := ⟨w2.heap.size, x, none⟩) (Nat.le_refl _) _⟩)
                  clear hneg hxm ex hrx
                  go_wp2_with fail
                  go_roundw
                  case rel => exact ⟨q + 1, by have := HQG.out; omega, by go_num, by go_num, HN⟩
                  case measure => have := HQG.out; simp [intOf]; omega
                · have HN := Lib.hid (show IntsC w5 w2.heap.size to.length (atG gs (i + 1)) ∧ Below w2.heap.size w2 w5 from ⟨World.rowIs.congr HH.out.1 (fun j _ => by rw [atK_all (by rw [← HEG.out]; omega)]), HH.out.2⟩)
                  have HCQ := Lib.hid (show c + q = cntG gs (i + 1) by rw [HSU.out]; omega)
                  clear HH hrx
                  go_wp2_with fail
                  go_roundw
                  case rel => exact ⟨i + 1, by omega, by go_num, by rw [HCQ.out], HN⟩
                  case measure => simp [intOf]; omega
            · have HI := Lib.hid (show i = gs.length by omega)
              have hcnt : cntG gs i = to.length := by rw [HI.out]; exact HF.out.all
              rw [hcnt]
              have HS := Lib.hid (show IntsC w4 w2.heap.size to.length (atG gs gs.length) ∧ Below w2.heap.size w2 w4 from ⟨by have h1 := HH.out.1; rwa [HI.out] at h1, HH.out.2⟩)
              have hne : ((to.length : Int) != (to.length : Int)) = false := bne_self_eq_false _
              clear HH hcnt
              obtain ⟨AT, hAT⟩ : ∃ AT, AT = atG gs gs.length := ⟨_, rfl⟩
              have HPR := Lib.hid (show ∀ a b, a < to.length → b < to.length → (leadL to a b && leadL to b a) = decide (AT a = AT b) ∧ (leadL to a b = true → AT b ≤ AT a) by rw [hAT]; exact HF.out.pair)
              rw [← hAT] at HS
              clear hAT
              go_wp2_with fail
              go_loopw [10] (fun k wr => ∃ a : Nat, a ≤ to.length ∧ k = .int .i64 (a : Int) ∧ RowKit.Hid (IntsC wr w2.heap.size to.length AT ∧ Below w2.heap.size w2 wr)) (fun k _ => to.length - (intOf k).toNat)
              case atStart => exact ⟨0, by omega, rfl, HS⟩
              case round =>
                obtain ⟨w6, rfl⟩ : ∃ w6, w6 = wr := ⟨_, rfl⟩
                obtain ⟨a, ha, rfl, HH⟩ := hrel
                by_cases hal : a < to.length
                · go_wp2_with fail
                  go_loopw [11] (fun k wr => ∃ b : Nat, b ≤ to.length ∧ k = .int .i64 (b : Int) ∧ RowKit.Hid (IntsC wr w2.heap.size to.length AT ∧ Below w2.heap.size w2 wr)) (fun k _ => to.length - (intOf k).toNat)
                  case atStart => exact ⟨0, by omega, rfl, HH⟩
                  case round =>
                    obtain ⟨w7, rfl⟩ : ∃ w7, w7 = wr := ⟨_, rfl⟩
                    obtain ⟨b, hb, rfl, HQ⟩ := hrel
                    by_cases hbl : b < to.length
                    · have HAB := Lib.hid (HPR.out a b hal hbl)
                      have HBW := Lib.hid (HB2.out.trans (HQ.out.2.mono HB2.out.size))
                      have HRA := Lib.hid (creached_in HR.out hal)
                      have HRB := Lib.hid (creached_in HR.out hbl)
                      have i5 : (0 : Int) ≤ a ∧ (a : Int) < to.length := by omega
                      have i6 : (0 : Int) ≤ b ∧ (b : Int) < to.length := by omega
                      have HAL := Lib.hid hal
                      have HBL := Lib.hid hbl
                      go_upto_region 29 with fail
                      refine wp_region_held_drew (S := (fun _ => True)) (by kernel_rfl) ?_ (fun hHeld => ?_)
                      · trivial
                      refine wpAnyH_take (i := 0) (v := .slice va to.length vc) rfl (by kernel_rfl) (by kernel_rfl) (by kernel_rfl) (fun _ _ _ h => h) (Or.inl ⟨by rfl, fun W hSW => ?_⟩) hHeld ?_
                      · ((try dsimp only at hSW); go_split_ands; go_simp <;> with_reducible rfl)
                      try simp only [List.getElem_toArray, List.getElem_cons_succ, List.getElem_cons_zero, Act.put, List.setIfInBounds_toArray, List.set_cons_zero, List.set_cons_succ]
                      refine wpAnyH_take (i := 1) (v := .int .i64 a) rfl (by kernel_rfl) (by kernel_rfl) (by kernel_rfl) (fun _ _ _ h => h) (Or.inl ⟨by rfl, fun W hSW => ?_⟩) hHeld ?_
                      · ((try dsimp only at hSW); go_split_ands; go_simp <;> with_reducible rfl)
                      try simp only [List.getElem_toArray, List.getElem_cons_succ, List.getElem_cons_zero, Act.put, List.setIfInBounds_toArray, List.set_cons_zero, List.set_cons_succ]
                      refine wpAnyH_take (i := 3) (v := .int .i64 b) rfl (by kernel_rfl) (by kernel_rfl) (by kernel_rfl) (fun _ _ _ h => h) (Or.inl ⟨by rfl, fun W hSW => ?_⟩) hHeld ?_
                      · ((try dsimp only at hSW); go_split_ands; go_simp <;> with_reducible rfl)
                      try simp only [List.getElem_toArray, List.getElem_cons_succ, List.getElem_cons_zero, Act.put, List.setIfInBounds_toArray, List.set_cons_zero, List.set_cons_succ]
                      refine wpAnyH_take (i := 6) (v := .slice va to.length vc) rfl (by kernel_rfl) (by kernel_rfl) (by kernel_rfl) (fun _ _ _ h => h) (Or.inl ⟨by rfl, fun W hSW => ?_⟩) hHeld ?_
                      · ((try dsimp only at hSW); go_split_ands; go_simp <;> with_reducible rfl)
                      try simp only [List.getElem_toArray, List.getElem_cons_succ, List.getElem_cons_zero, Act.put, List.setIfInBounds_toArray, List.set_cons_zero, List.set_cons_succ]
                      refine wpAnyH_take (i := 7) (v := .int .i64 b) rfl (by kernel_rfl) (by kernel_rfl) (by kernel_rfl) (fun _ _ _ h => h) (Or.inl ⟨by rfl, fun W hSW => ?_⟩) hHeld ?_
                      · ((try dsimp only at hSW); go_split_ands; go_simp <;> with_reducible rfl)
                      try simp only [List.getElem_toArray, List.getElem_cons_succ, List.getElem_cons_zero, Act.put, List.setIfInBounds_toArray, List.set_cons_zero, List.set_cons_succ]
                      refine wpAnyH_take (i := 9) (v := .int .i64 a) rfl (by kernel_rfl) (by kernel_rfl) (by kernel_rfl) (fun _ _ _ h => h) (Or.inl ⟨by rfl, fun W hSW => ?_⟩) hHeld ?_
                      · ((try dsimp only at hSW); go_split_ands; go_simp <;> with_reducible rfl)
                      try simp only [List.getElem_toArray, List.getElem_cons_succ, List.getElem_cons_zero, Act.put, List.setIfInBounds_toArray, List.set_cons_zero, List.set_cons_succ]
                      refine wpAnyH_ready (rs := [2]) (by kernel_rfl) (by simp) ?_
                      refine AllReadyH.cons rfl (fun K hK => ?_) AllReadyH.nil
                      try simp only [List.getElem_toArray, List.getElem_cons_succ, List.getElem_cons_zero]
                      go_simp
                      (refine (reached_any (to := to) (a : Int) _ (by first | exact HV.out.on (HBW.out) (HBW.out).size | exact HV.out.on (HBW.out).drew (HBW.out).size) HX.out).mono ?_; rintro e w8 ⟨r8, rfl, hr8, hb8⟩; rw [HRA.out] at hr8)
                      try go_wp2_with fail
                      refine hK.out _ _ ?_ (fun hHeld => ?_)
                      · trivial
                      clear hK K
                      try simp only [List.getElem_toArray, List.getElem_cons_succ, List.getElem_cons_zero, Act.put, List.setIfInBounds_toArray, List.set_cons_zero, List.set_cons_succ]
                      have HB8 := Lib.hid (show Below w7.heap.size w7 w8 by first | exact hb8 | exact (Below.refl w7.heap.size w7).drew.trans hb8)
                      obtain ⟨rb8, rf8, rc8, e8, hlt8, hcc8⟩ := hr8.at (by rw [flagsL_len]; omega)
                      rw [flagsL_len] at e8
                      subst e8
                      have hq8 := hcc8 b (by rw [flagsL_len]; have := HBL.out; omega)
                      rw [flagsL_at HBL.out, Option.getD_some] at hq8
                      have HR8 := Lib.hid hr8
                      clear hcc8 hb8
                      refine wpAnyH_take (i := 4) (v := .pointer (some ⟨rb8, rf8 + b, none⟩)) rfl (by kernel_rfl) (by kernel_rfl) (by kernel_rfl) (fun _ _ _ h => h) (Or.inl ⟨by rfl, fun W hSW => ?_⟩) hHeld ?_
                      · ((try dsimp only at hSW); go_split_ands; go_simp <;> with_reducible rfl)
                      try simp only [List.getElem_toArray, List.getElem_cons_succ, List.getElem_cons_zero, Act.put, List.setIfInBounds_toArray, List.set_cons_zero, List.set_cons_succ]
                      refine wpAnyH_ready (rs := [5, 8]) (by kernel_rfl) (by simp) ?_
                      refine AllReadyH.cons rfl (fun K hK => ?_) (AllReadyH.cons rfl (fun K hK => ?_) AllReadyH.nil)
                      · skip
                        try simp only [List.getElem_toArray, List.getElem_cons_succ, List.getElem_cons_zero]
                        go_simp
                        try go_wp2_with fail
                        refine hK.out _ _ ?_ (fun hHeld => ?_)
                        · trivial
                        clear hK K
                        try simp only [List.getElem_toArray, List.getElem_cons_succ, List.getElem_cons_zero, Act.put, List.setIfInBounds_toArray, List.set_cons_zero, List.set_cons_succ]
                        refine wpAnyH_ready (rs := [8]) (by kernel_rfl) (by simp) ?_
                        refine AllReadyH.cons rfl (fun K hK => ?_) AllReadyH.nil
                        try simp only [List.getElem_toArray, List.getElem_cons_succ, List.getElem_cons_zero]
                        go_simp
                        (refine (reached_any (to := to) (b : Int) _ (by first | exact HV.out.on ((HBW.out.trans (HB8.out.mono HBW.out.size))) ((HBW.out.trans (HB8.out.mono HBW.out.size))).size | exact HV.out.on ((HBW.out.trans (HB8.out.mono HBW.out.size))).drew ((HBW.out.trans (HB8.out.mono HBW.out.size))).size) HX.out).mono ?_; rintro e w9 ⟨r9, rfl, hr9, hb9⟩; rw [HRB.out] at hr9)
                        try go_wp2_with fail
                        refine hK.out _ _ ?_ (fun hHeld => ?_)
                        · trivial
                        clear hK K
                        try simp only [List.getElem_toArray, List.getElem_cons_succ, List.getElem_cons_zero, Act.put, List.setIfInBounds_toArray, List.set_cons_zero, List.set_cons_succ]
                        have HB9 := Lib.hid (show Below w7.heap.size w7 w9 by first | exact HB8.out.trans (hb9.mono HB8.out.size) | exact (Below.refl w7.heap.size w7).drew.trans hb9)
                        obtain ⟨rb9, rf9, rc9, e9, hlt9, hcc9⟩ := hr9.at (by rw [flagsL_len]; omega)
                        rw [flagsL_len] at e9
                        subst e9
                        have hq9 := hcc9 a (by rw [flagsL_len]; have := HAL.out; omega)
                        rw [flagsL_at HAL.out, Option.getD_some] at hq9
                        have HR9 := Lib.hid hr9
                        have hbx := hb9
                        clear hcc9 hb9
                        refine wpAnyH_take (i := 10) (v := .pointer (some ⟨rb9, rf9 + a, none⟩)) rfl (by kernel_rfl) (by kernel_rfl) (by kernel_rfl) (fun _ _ _ h => h) (Or.inl ⟨by rfl, fun W hSW => ?_⟩) hHeld ?_
                        · ((try dsimp only at hSW); go_split_ands; go_simp <;> with_reducible rfl)
                        try simp only [List.getElem_toArray, List.getElem_cons_succ, List.getElem_cons_zero, Act.put, List.setIfInBounds_toArray, List.set_cons_zero, List.set_cons_succ]
                        refine wpAnyH_take (i := 12) (v := .bool (leadL to a b)) rfl (by kernel_rfl) (by kernel_rfl) (by kernel_rfl) (fun _ _ _ h => h) (Or.inl ⟨by rfl, fun W hSW => ?_⟩) hHeld ?_
                        · ((try dsimp only at hSW); go_split_ands; go_simp <;> with_reducible rfl)
                        try simp only [List.getElem_toArray, List.getElem_cons_succ, List.getElem_cons_zero, Act.put, List.setIfInBounds_toArray, List.set_cons_zero, List.set_cons_succ]
                        refine wpAnyH_ready (rs := [11]) (by kernel_rfl) (by simp) ?_
                        refine AllReadyH.cons rfl (fun K hK => ?_) AllReadyH.nil
                        try simp only [List.getElem_toArray, List.getElem_cons_succ, List.getElem_cons_zero]
                        go_simp
                        try go_wp2_with fail
                        refine hK.out _ _ ?_ (fun hHeld => ?_)
                        · trivial
                        clear hK K
                        try simp only [List.getElem_toArray, List.getElem_cons_succ, List.getElem_cons_zero, Act.put, List.setIfInBounds_toArray, List.set_cons_zero, List.set_cons_succ]
                        refine wpAnyH_take (i := 13) (v := .bool (leadL to b a)) rfl (by kernel_rfl) (by kernel_rfl) (by kernel_rfl) (fun _ _ _ h => h) (Or.inl ⟨by rfl, fun W hSW => ?_⟩) hHeld ?_
                        · ((try dsimp only at hSW); go_split_ands; go_simp <;> with_reducible rfl)
                        try simp only [List.getElem_toArray, List.getElem_cons_succ, List.getElem_cons_zero, Act.put, List.setIfInBounds_toArray, List.set_cons_zero, List.set_cons_succ]
                        refine wpAnyH_done (by kernel_rfl) ?_ _
                        clear hHeld
                        have HQ9 := Lib.hid (show IntsC w9 w2.heap.size to.length AT ∧ Below w2.heap.size w2 w9 from ⟨HQ.out.1.of (HB9.out.block _ (World.rowIs.lt HQ.out.1)), HQ.out.2.trans (HB9.out.mono HQ.out.2.size)⟩)
                        have hca := World.rowIs.cell HQ9.out.1 HAL.out
                        have hcb := World.rowIs.cell HQ9.out.1 HBL.out
                        have HQD := Lib.hid (fun d => show IntsC (w9.drewN d) w2.heap.size to.length AT ∧ Below w2.heap.size w2 (w9.drewN d) from ⟨HQ9.out.1.of rfl, HQ9.out.2.trans ⟨rfl, rfl, rfl, Nat.le_refl _, fun _ _ => rfl⟩⟩)
                        have hz1 := HAB.out.1
                        have hz2 := HAB.out.2
                        obtain ⟨x, hx⟩ : ∃ x, x = AT a := ⟨_, rfl⟩
                        obtain ⟨y, hy⟩ : ∃ y, y = AT b := ⟨_, rfl⟩
                        rw [← hx] at hca hz1 hz2
                        rw [← hy] at hcb hz1 hz2
                        clear hx hy
                        obtain ⟨z1, e1⟩ : ∃ z1, z1 = leadL to a b := ⟨_, rfl⟩
                        obtain ⟨z2, e2⟩ : ∃ z2, z2 = leadL to b a := ⟨_, rfl⟩
                        rw [← e1, ← e2] at hz1
                        rw [← e1] at hz2
                        simp only [← e1, ← e2]
                        clear e1 e2 HR8 HR9 hq8 hq9 HB8 hbx
                        cases z1
                        · have hne2 : (x == y) = false := by cases z2 <;> exact beq_eq_false_iff_ne.2 (of_decide_eq_false hz1.symm)
                          clear hz1 hz2
                          go_wp2_with fail
                          go_quiet (fail)
                          go_wp2_with fail
                          go_roundw
                          case rel => exact ⟨b + 1, by have := HBL.out; omega, by go_num, Lib.hid (HQD.out _)⟩
                          case measure => have := HBL.out; simp [intOf]; omega
                        · have hle : decide (x < y) = false := decide_eq_false (by have := hz2 rfl; omega)
                          cases z2
                          · have hne2 : (x == y) = false := beq_eq_false_iff_ne.2 (of_decide_eq_false hz1.symm)
                            clear hz1 hz2
                            go_wp2_with fail
                            go_quiet (fail)
                            go_wp2_with fail
                            go_roundw
                            case rel => exact ⟨b + 1, by have := HBL.out; omega, by go_num, Lib.hid (HQD.out _)⟩
                            case measure => have := HBL.out; simp [intOf]; omega
                          · have hxy : x = y := of_decide_eq_true hz1.symm
                            subst hxy
                            have hne2 : (x == x) = true := beq_self_eq_true x
                            clear hz1 hz2
                            go_wp2_with fail
                            go_quiet (fail)
                            go_wp2_with fail
                            go_roundw
                            case rel => exact ⟨b + 1, by have := HBL.out; omega, by go_num, Lib.hid (HQD.out _)⟩
                            case measure => have := HBL.out; simp [intOf]; omega
                      · skip
                        try simp only [List.getElem_toArray, List.getElem_cons_succ, List.getElem_cons_zero]
                        go_simp
                        (refine (reached_any (to := to) (b : Int) _ (by first | exact HV.out.on ((HBW.out.trans (HB8.out.mono HBW.out.size))) ((HBW.out.trans (HB8.out.mono HBW.out.size))).size | exact HV.out.on ((HBW.out.trans (HB8.out.mono HBW.out.size))).drew ((HBW.out.trans (HB8.out.mono HBW.out.size))).size) HX.out).mono ?_; rintro e w9 ⟨r9, rfl, hr9, hb9⟩; rw [HRB.out] at hr9)
                        try go_wp2_with fail
                        refine hK.out _ _ ?_ (fun hHeld => ?_)
                        · trivial
                        clear hK K
                        try simp only [List.getElem_toArray, List.getElem_cons_succ, List.getElem_cons_zero, Act.put, List.setIfInBounds_toArray, List.set_cons_zero, List.set_cons_succ]
                        have HB9 := Lib.hid (show Below w7.heap.size w7 w9 by first | exact HB8.out.trans (hb9.mono HB8.out.size) | exact (Below.refl w7.heap.size w7).drew.trans hb9)
                        obtain ⟨rb9, rf9, rc9, e9, hlt9, hcc9⟩ := hr9.at (by rw [flagsL_len]; omega)
                        rw [flagsL_len] at e9
                        subst e9
                        have hq9 := hcc9 a (by rw [flagsL_len]; have := HAL.out; omega)
                        rw [flagsL_at HAL.out, Option.getD_some] at hq9
                        have HR9 := Lib.hid hr9
                        have hbx := hb9
                        clear hcc9 hb9
                        refine wpAnyH_take (i := 10) (v := .pointer (some ⟨rb9, rf9 + a, none⟩)) rfl (by kernel_rfl) (by kernel_rfl) (by kernel_rfl) (fun _ _ _ h => h) (Or.inl ⟨by rfl, fun W hSW => ?_⟩) hHeld ?_
                        · ((try dsimp only at hSW); go_split_ands; go_simp <;> with_reducible rfl)
                        try simp only [List.getElem_toArray, List.getElem_cons_succ, List.getElem_cons_zero, Act.put, List.setIfInBounds_toArray, List.set_cons_zero, List.set_cons_succ]
                        have hq8n : w9.cell? ⟨rb8, rf8 + b, none⟩ = some (.bool (leadL to a b)) := (hbx.cell (p := ⟨rb8, rf8 + b, none⟩) hlt8).trans hq8
                        refine wpAnyH_ready (rs := [5, 11]) (by kernel_rfl) (by simp) ?_
                        refine AllReadyH.cons rfl (fun K hK => ?_) (AllReadyH.cons rfl (fun K hK => ?_) AllReadyH.nil)
                        · skip
                          try simp only [List.getElem_toArray, List.getElem_cons_succ, List.getElem_cons_zero]
                          go_simp
                          try go_wp2_with fail
                          refine hK.out _ _ ?_ (fun hHeld => ?_)
                          · trivial
                          clear hK K
                          try simp only [List.getElem_toArray, List.getElem_cons_succ, List.getElem_cons_zero, Act.put, List.setIfInBounds_toArray, List.set_cons_zero, List.set_cons_succ]
                          refine wpAnyH_take (i := 12) (v := .bool (leadL to a b)) rfl (by kernel_rfl) (by kernel_rfl) (by kernel_rfl) (fun _ _ _ h => h) (Or.inl ⟨by rfl, fun W hSW => ?_⟩) hHeld ?_
                          · ((try dsimp only at hSW); go_split_ands; go_simp <;> with_reducible rfl)
                          try simp only [List.getElem_toArray, List.getElem_cons_succ, List.getElem_cons_zero, Act.put, List.setIfInBounds_toArray, List.set_cons_zero, List.set_cons_succ]
                          refine wpAnyH_ready (rs := [11]) (by kernel_rfl) (by simp) ?_
                          refine AllReadyH.cons rfl (fun K hK => ?_) AllReadyH.nil
                          try simp only [List.getElem_toArray, List.getElem_cons_succ, List.getElem_cons_zero]
                          go_simp
                          try go_wp2_with fail
                          refine hK.out _ _ ?_ (fun hHeld => ?_)
                          · trivial
                          clear hK K
                          try simp only [List.getElem_toArray, List.getElem_cons_succ, List.getElem_cons_zero, Act.put, List.setIfInBounds_toArray, List.set_cons_zero, List.set_cons_succ]
                          refine wpAnyH_take (i := 13) (v := .bool (leadL to b a)) rfl (by kernel_rfl) (by kernel_rfl) (by kernel_rfl) (fun _ _ _ h => h) (Or.inl ⟨by rfl, fun W hSW => ?_⟩) hHeld ?_
                          · ((try dsimp only at hSW); go_split_ands; go_simp <;> with_reducible rfl)
                          try simp only [List.getElem_toArray, List.getElem_cons_succ, List.getElem_cons_zero, Act.put, List.setIfInBounds_toArray, List.set_cons_zero, List.set_cons_succ]
                          refine wpAnyH_done (by kernel_rfl) ?_ _
                          clear hHeld
                          have HQ9 := Lib.hid (show IntsC w9 w2.heap.size to.length AT ∧ Below w2.heap.size w2 w9 from ⟨HQ.out.1.of (HB9.out.block _ (World.rowIs.lt HQ.out.1)), HQ.out.2.trans (HB9.out.mono HQ.out.2.size)⟩)
                          have hca := World.rowIs.cell HQ9.out.1 HAL.out
                          have hcb := World.rowIs.cell HQ9.out.1 HBL.out
                          have HQD := Lib.hid (fun d => show IntsC (w9.drewN d) w2.heap.size to.length AT ∧ Below w2.heap.size w2 (w9.drewN d) from ⟨HQ9.out.1.of rfl, HQ9.out.2.trans ⟨rfl, rfl, rfl, Nat.le_refl _, fun _ _ => rfl⟩⟩)
                          have hz1 := HAB.out.1
                          have hz2 := HAB.out.2
                          obtain ⟨x, hx⟩ : ∃ x, x = AT a := ⟨_, rfl⟩
                          obtain ⟨y, hy⟩ : ∃ y, y = AT b := ⟨_, rfl⟩
                          rw [← hx] at hca hz1 hz2
                          rw [← hy] at hcb hz1 hz2
                          clear hx hy
                          obtain ⟨z1, e1⟩ : ∃ z1, z1 = leadL to a b := ⟨_, rfl⟩
                          obtain ⟨z2, e2⟩ : ∃ z2, z2 = leadL to b a := ⟨_, rfl⟩
                          rw [← e1, ← e2] at hz1
                          rw [← e1] at hz2
                          simp only [← e1, ← e2]
                          clear e1 e2 HR8 HR9 hq8 hq9 HB8 hbx
                          cases z1
                          · have hne2 : (x == y) = false := by cases z2 <;> exact beq_eq_false_iff_ne.2 (of_decide_eq_false hz1.symm)
                            clear hz1 hz2
                            go_wp2_with fail
                            go_quiet (fail)
                            go_wp2_with fail
                            go_roundw
                            case rel => exact ⟨b + 1, by have := HBL.out; omega, by go_num, Lib.hid (HQD.out _)⟩
                            case measure => have := HBL.out; simp [intOf]; omega
                          · have hle : decide (x < y) = false := decide_eq_false (by have := hz2 rfl; omega)
                            cases z2
                            · have hne2 : (x == y) = false := beq_eq_false_iff_ne.2 (of_decide_eq_false hz1.symm)
                              clear hz1 hz2
                              go_wp2_with fail
                              go_quiet (fail)
                              go_wp2_with fail
                              go_roundw
                              case rel => exact ⟨b + 1, by have := HBL.out; omega, by go_num, Lib.hid (HQD.out _)⟩
                              case measure => have := HBL.out; simp [intOf]; omega
                            · have hxy : x = y := of_decide_eq_true hz1.symm
                              subst hxy
                              have hne2 : (x == x) = true := beq_self_eq_true x
                              clear hz1 hz2
                              go_wp2_with fail
                              go_quiet (fail)
                              go_wp2_with fail
                              go_roundw
                              case rel => exact ⟨b + 1, by have := HBL.out; omega, by go_num, Lib.hid (HQD.out _)⟩
                              case measure => have := HBL.out; simp [intOf]; omega
                        · skip
                          try simp only [List.getElem_toArray, List.getElem_cons_succ, List.getElem_cons_zero]
                          go_simp
                          try go_wp2_with fail
                          refine hK.out _ _ ?_ (fun hHeld => ?_)
                          · trivial
                          clear hK K
                          try simp only [List.getElem_toArray, List.getElem_cons_succ, List.getElem_cons_zero, Act.put, List.setIfInBounds_toArray, List.set_cons_zero, List.set_cons_succ]
                          refine wpAnyH_ready (rs := [5]) (by kernel_rfl) (by simp) ?_
                          refine AllReadyH.cons rfl (fun K hK => ?_) AllReadyH.nil
                          try simp only [List.getElem_toArray, List.getElem_cons_succ, List.getElem_cons_zero]
                          go_simp
                          try go_wp2_with fail
                          refine hK.out _ _ ?_ (fun hHeld => ?_)
                          · trivial
                          clear hK K
                          try simp only [List.getElem_toArray, List.getElem_cons_succ, List.getElem_cons_zero, Act.put, List.setIfInBounds_toArray, List.set_cons_zero, List.set_cons_succ]
                          refine wpAnyH_take (i := 12) (v := .bool (leadL to a b)) rfl (by kernel_rfl) (by kernel_rfl) (by kernel_rfl) (fun _ _ _ h => h) (Or.inl ⟨by rfl, fun W hSW => ?_⟩) hHeld ?_
                          · ((try dsimp only at hSW); go_split_ands; go_simp <;> with_reducible rfl)
                          try simp only [List.getElem_toArray, List.getElem_cons_succ, List.getElem_cons_zero, Act.put, List.setIfInBounds_toArray, List.set_cons_zero, List.set_cons_succ]
                          refine wpAnyH_take (i := 13) (v := .bool (leadL to b a)) rfl (by kernel_rfl) (by kernel_rfl) (by kernel_rfl) (fun _ _ _ h => h) (Or.inl ⟨by rfl, fun W hSW => ?_⟩) hHeld ?_
                          · ((try dsimp only at hSW); go_split_ands; go_simp <;> with_reducible rfl)
                          try simp only [List.getElem_toArray, List.getElem_cons_succ, List.getElem_cons_zero, Act.put, List.setIfInBounds_toArray, List.set_cons_zero, List.set_cons_succ]
                          refine wpAnyH_done (by kernel_rfl) ?_ _
                          clear hHeld
                          have HQ9 := Lib.hid (show IntsC w9 w2.heap.size to.length AT ∧ Below w2.heap.size w2 w9 from ⟨HQ.out.1.of (HB9.out.block _ (World.rowIs.lt HQ.out.1)), HQ.out.2.trans (HB9.out.mono HQ.out.2.size)⟩)
                          have hca := World.rowIs.cell HQ9.out.1 HAL.out
                          have hcb := World.rowIs.cell HQ9.out.1 HBL.out
                          have HQD := Lib.hid (fun d => show IntsC (w9.drewN d) w2.heap.size to.length AT ∧ Below w2.heap.size w2 (w9.drewN d) from ⟨HQ9.out.1.of rfl, HQ9.out.2.trans ⟨rfl, rfl, rfl, Nat.le_refl _, fun _ _ => rfl⟩⟩)
                          have hz1 := HAB.out.1
                          have hz2 := HAB.out.2
                          obtain ⟨x, hx⟩ : ∃ x, x = AT a := ⟨_, rfl⟩
                          obtain ⟨y, hy⟩ : ∃ y, y = AT b := ⟨_, rfl⟩
                          rw [← hx] at hca hz1 hz2
                          rw [← hy] at hcb hz1 hz2
                          clear hx hy
                          obtain ⟨z1, e1⟩ : ∃ z1, z1 = leadL to a b := ⟨_, rfl⟩
                          obtain ⟨z2, e2⟩ : ∃ z2, z2 = leadL to b a := ⟨_, rfl⟩
                          rw [← e1, ← e2] at hz1
                          rw [← e1] at hz2
                          simp only [← e1, ← e2]
                          clear e1 e2 HR8 HR9 hq8 hq9 HB8 hbx
                          cases z1
                          · have hne2 : (x == y) = false := by cases z2 <;> exact beq_eq_false_iff_ne.2 (of_decide_eq_false hz1.symm)
                            clear hz1 hz2
                            go_wp2_with fail
                            go_quiet (fail)
                            go_wp2_with fail
                            go_roundw
                            case rel => exact ⟨b + 1, by have := HBL.out; omega, by go_num, Lib.hid (HQD.out _)⟩
                            case measure => have := HBL.out; simp [intOf]; omega
                          · have hle : decide (x < y) = false := decide_eq_false (by have := hz2 rfl; omega)
                            cases z2
                            · have hne2 : (x == y) = false := beq_eq_false_iff_ne.2 (of_decide_eq_false hz1.symm)
                              clear hz1 hz2
                              go_wp2_with fail
                              go_quiet (fail)
                              go_wp2_with fail
                              go_roundw
                              case rel => exact ⟨b + 1, by have := HBL.out; omega, by go_num, Lib.hid (HQD.out _)⟩
                              case measure => have := HBL.out; simp [intOf]; omega
                            · have hxy : x = y := of_decide_eq_true hz1.symm
                              subst hxy
                              have hne2 : (x == x) = true := beq_self_eq_true x
                              clear hz1 hz2
                              go_wp2_with fail
                              go_quiet (fail)
                              go_wp2_with fail
                              go_roundw
                              case rel => exact ⟨b + 1, by have := HBL.out; omega, by go_num, Lib.hid (HQD.out _)⟩
                              case measure => have := HBL.out; simp [intOf]; omega
                    · go_wp2_with fail
                      go_roundw
                      case rel => exact ⟨a + 1, by omega, by go_num, HQ⟩
                      case measure => simp [intOf]; omega
                · have HBF := Lib.hid (HB2.out.trans (HH.out.2.mono HB2.out.size))
                  go_wp2_with (go_at_call 11; refine (awakeC_any _).mono ?_; rintro e w8 ⟨rfl, hb⟩; have HB8 := Lib.hid (HBF.out.trans (hb.mono HBF.out.size)); clear hb)
                  go_ret
                  exact ⟨rfl, HB8.out⟩
end Go.Proofs.Ytbelhoeailjkkaa
