import Derived.Test.YtkoofibhddkpiaaDoorSolT
import Derived.Test.YtkoofibhddkpiaaDoorDoorZ
import Derived.Test.YtkoofibhddkpiaaDoorOpenS
set_option linter.unusedSimpArgs false
set_option linter.unusedVariables false
/-! SolveTurned, walked -/
namespace Go.Proofs.YtkoofibhddkpiaaDoor
open Go.RowKit
open SV (Lab SysOk Least labs sumOf mu sumP at' natsL askT askI fanN lok Bnd val valT)
/-- the box of the system that came in -/
def SAt (W : World) (cs : Array Value) (w : World) : Prop := Below W.heap.size W w ∧ W.heap.size < w.heap.size ∧ w.heap[W.heap.size]? = some (.cells cs 26)
theorem sat_start (W : World) (cs : Array Value) : SAt W cs (W.alloc (.cells cs 26)) :=
  ⟨(Below.refl _ _).alloc (Nat.le_refl _) _, by simp, heap_alloc_new _ _⟩
theorem SAt.on {W w w' : World} {cs : Array Value} (h : SAt W cs w) (hb : Below w.heap.size w w') : SAt W cs w' :=
  ⟨h.1.trans (hb.mono h.1.size), Nat.lt_of_lt_of_le h.2.1 hb.size, (hb.block _ h.2.1).trans h.2.2⟩
theorem SAt.drewN {W w : World} {cs : Array Value} (h : SAt W cs w) (d : Nat) : SAt W cs (w.drewN d) := h.on ⟨rfl, rfl, rfl, Nat.le_refl _, fun _ _ => rfl⟩
theorem SAt.all {W w : World} {v0 v1 : Value} (h : SAt W #[v0, v1] w) : w.cell? ⟨W.heap.size, 0, none⟩ = some v0 ∧ w.cell? ⟨W.heap.size, 1, none⟩ = some v1 :=
  ⟨cell_of_row _ _ 0 _ _ _ h.2.2, cell_of_row _ _ 1 _ _ _ h.2.2⟩
/-- an append's run, in a region that draws -/
theorem step_append_run {w : World} {ops : Array Oper} {o : Oper} {a : Act} {K : Act → World → Prop} {Q : Exit → Act → World → Prop} {E : Prop} (hgd : o.guard = none) (s x : Operand) (t : TypeId)
    (ho : o.op = .call { callee := .builtin .append, args := #[s, x], argTypes := #[t, t] }) {sv xv : Value} (hs : a.eval s = sv) (hx : a.eval x = xv) {v' : Value} {w' : World}
    (hr : (Builtin.append_ #[t, t] o.type #[sv, xv]).run Tryd.prog w = .ok v' w') (h : K (a.put o.dst v') w') :
    if Region.wanted o (yielded ops a.tmps) = true then Oper.wp Tryd.prog o a w K Q else E := by
  rw [if_pos (by simp [Region.wanted, hgd])]
  unfold Oper.wp execOp
  simp only [ho, resolve, invoke, builtin, Sem.run_bind, Sem.run_pure, Result.andThen_ok, List.map_toArray, List.map_cons, List.map_nil, hs, hx, hr]
  exact h
theorem mid_at {tq : List (List Int)} {i : Nat} (hi : i < tq.length) (x : List Int) : ((turnT tq i).set i x)[i]?.getD [] = x := by
  rw [List.getElem?_set_self (by rw [turnT_len]; exact hi)]
  rfl
theorem mid_len (tq : List (List Int)) (i : Nat) (x : List Int) : ((turnT tq i).set i x).length = tq.length := by rw [List.length_set, turnT_len]
theorem mid_start {tq : List (List Int)} {i : Nat} (hi : i < tq.length) : (turnT tq i).set i (tq[i]?.getD [] ++ (tq[i]?.getD []).reverse.take 0) = turnT tq i := by
  rw [List.take_zero, List.append_nil]
  have h := turnT_at tq i i
  rw [if_neg (by omega)] at h
  rw [← h]
  apply List.ext_getElem (by rw [List.length_set])
  intro j h1 h2
  rw [List.getElem_set]
  split
  · rename_i e
    subst e
    rw [List.getElem?_eq_getElem h2]
    rfl
  · rfl
theorem rev_next {r : List Int} {m : Nat} (h : m < r.length) : r.reverse.take m ++ [r[r.length - 1 - m]?.getD 0] = r.reverse.take (m + 1) := by
  rw [List.take_add_one, List.getElem?_reverse h, List.getElem?_eq_getElem (by omega)]
  rfl
theorem take_one {r : List Int} (h : 0 < r.length) : r.take 1 = [r[0]?.getD 0] := by
  cases r with
  | nil => simp at h
  | cons x r => rfl
theorem graph_blk {n₀ : Nat} {W : World} {b off n cap : Nat} {to : List (List Int)} (h : GraphM n₀ W (.slice (some ⟨b, off, none⟩) n cap) to) (h0 : 0 < to.length) : b < n₀ := by
  obtain ⟨vs, h1, h2, _⟩ := h
  obtain ⟨b', off', cap', e, hb, _⟩ := h1.at (by omega)
  cases e
  exact hb
set_option maxRecDepth 100000 in
set_option maxHeartbeats 12800000 in
theorem solveTurned_walk {ua : Option Addr} {uc : Nat} {cv nv : Value} {xs : List Int} {c : List (Int × Int)} {tq : List (List Int)} (W : World) (hu : Nums .u64 W.heap.size W (.slice ua xs.length uc) xs) (hx : Wide xs) (hxl : xs.length ≤ big5) (hT : Tz W) (hv : LabRow W.heap.size W cv c) (hwc : WideL c) (hg : GraphM W.heap.size W nv tq) (hs : Small tq) (hcl : c.length ≤ 17592186044416) :
    Calls Tryd.prog 3 #[.slice ua xs.length uc, .agg #[cv, nv]] W fun e V => e = .returned (.bool true) ∧ Below W.heap.size W V := by
  obtain ⟨ca, cc, rfl⟩ := hv.form
  obtain ⟨na, nc, rfl⟩ := hg.form
  obtain ⟨i9, hi9, hi90, hi91, hi92⟩ := info_parts Tryd.infoGInt
  have HU := Lib.hid hu
  have HX := Lib.hid hx
  have HXL := Lib.hid hxl
  have HT := Lib.hid hT
  have HC := Lib.hid hv
  have HWC := Lib.hid hwc
  have HG := Lib.hid hg
  have HSM := Lib.hid hs
  have HS0 := Lib.hid (sat_start W #[.slice ca c.length cc, .slice na tq.length nc])
  have HFEW := Lib.hid (few_any (ca := ca) (cc := cc) (l := c) _ ((HG.out.below HS0.out.1).mono HS0.out.1.size) hcl hs)
  have HAW := Lib.hid (fun w (hb : Below W.heap.size W w) => awake17_any w (hT.on hb))
  have HSV := Lib.hid (fun (hf : fewB c tq = true) w (hb : Below W.heap.size W w) => solve_any w ((HU.out.below hb).mono hb.size) hx hxl (hT.on hb) ((HC.out.below hb).mono hb.size) hwc ((HG.out.below hb).mono hb.size) (by omega) (by have := (few_parts hf).2.1; omega) (fun a => by have := (few_parts hf).2.2 a; omega))
  have b0 : (c.length : Int) ≤ 17592186044416 := by omega
  have b2 : (xs.length : Int) ≤ 17592186044416 := by have := hxl; unfold big5 at this; omega
  obtain ⟨hc0, hc1⟩ := HS0.out.all
  obtain ⟨z, ez⟩ : ∃ z, z = fewB c tq := ⟨_, rfl⟩
  have HZ := Lib.hid ez
  clear hu hx hxl hT hv hwc hg hs hcl ez
  cases z with
  | false =>
    go_enter Tryd.func3, Tryd.ntmps3
    go_wp2_with (go_at_call 4; refine HFEW.out.mono ?_; rintro e w5 ⟨rfl, hb2⟩; rw [← HZ.out]; have HS5 := Lib.hid (HS0.out.on hb2); clear hb2 hc0 hc1; obtain ⟨hc0, hc1⟩ := HS5.out.all)
    go_ret
    exact ⟨rfl, HS5.out.1⟩
  | true =>
    by_cases h8 : (8 : Int) < xs.length
    · go_enter Tryd.func3, Tryd.ntmps3
      go_wp2_with (go_at_call 4; refine HFEW.out.mono ?_; rintro e w5 ⟨rfl, hb2⟩; rw [← HZ.out]; have HS5 := Lib.hid (HS0.out.on hb2); clear hb2 hc0 hc1; obtain ⟨hc0, hc1⟩ := HS5.out.all)
      go_ret
      exact ⟨rfl, HS5.out.1⟩
    · have FW := Lib.hid (few_parts HZ.out.symm)
      have b3 : (tq.length : Int) ≤ 60 := by have := FW.out.2.1; omega
      go_enter Tryd.func3, Tryd.ntmps3
      go_upto_region 4 with (first
        | (go_at_call 4; refine HFEW.out.mono ?_; rintro e w5 ⟨rfl, hb2⟩; rw [← HZ.out]; have HS5 := Lib.hid (HS0.out.on hb2); clear hb2 hc0 hc1; obtain ⟨hc0, hc1⟩ := HS5.out.all)
        | (go_at_call 5; refine (copied_anyA w5 ((HC.out.below HS5.out.1).mono HS5.out.1.size) ((HG.out.below HS5.out.1).mono HS5.out.1.size) HSM.out (by have := FW.out.1; omega) (by have := FW.out.2.1; omega)).mono ?_; rintro e w6 ⟨sa, cs, ga, gs, vs, rfl, hco, hgo, hgr, hb, hap⟩; have HT0 := Lib.hid (turnS_start hco hgo hgr hb hap rfl rfl); clear hco hgo hgr hap hb hc0 hc1))
      obtain ⟨gb, egb⟩ : ∃ gb, gb = (Value.slice ga tq.length gs).ownBlock.getD 0 := ⟨_, rfl⟩
      rw [← egb] at HT0
      clear egb
      generalize w6.alloc (Obj.cells #[.slice sa c.length cs, .slice ga tq.length gs] 26) = w7 at HT0 ⊢
      generalize w6.heap.size = T at HT0 ⊢
      go_wp2_with fail
      go_loopw [6] (fun kv wr => ∃ (i : Nat) (vs : List Value), i ≤ tq.length ∧ kv = .int .i64 (i : Int) ∧ RowKit.Hid (TurnS w5 T gb (.slice sa c.length cs) (.slice ga tq.length gs) c.length (labV c) vs (turnT tq i) i wr)) (fun k _ => tq.length - (intOf k).toNat)
      case atStart => exact ⟨0, vs, Nat.zero_le _, rfl, Lib.hid (by rw [turnT_zero]; exact HT0.out)⟩
      case round =>
        clear HT0
        obtain ⟨w8, rfl⟩ : ∃ w8, w8 = wr := ⟨_, rfl⟩
        obtain ⟨i, vs, hi, rfl, HTI⟩ := hrel
        have HSB := Lib.hid (HS5.out.on HTI.out.b)
        have HTV := Lib.hid (show w8.cell? ⟨T, 1, none⟩ = some (.slice ga tq.length gs) from cell_of_row _ _ 1 _ _ _ HTI.out.t)
        obtain ⟨hc0, hc1⟩ := HSB.out.all
        by_cases hlt : i < tq.length
        · obtain ⟨gb', gs', eg⟩ := SS.own_some HTI.out.g (by rw [turnT_len]; omega)
          injection eg with ega eg2 eg3
          clear eg2 eg3
          have egb : gb' = gb := HTI.out.gk gb' (by rw [ega]; rfl)
          rw [egb] at ega
          subst ega
          clear egb
          obtain ⟨r, er⟩ : ∃ r, r = tq[i]?.getD [] := ⟨_, rfl⟩
          have HER := Lib.hid er
          have HRL := Lib.hid (show r.length ≤ 60 by rw [er]; exact FW.out.2.2 i)
          obtain ⟨nb, no, nc', en⟩ := HG.out.addr (by omega)
          injection en with ena en2 enc
          clear en2
          subst ena enc
          have HNB := Lib.hid (graph_blk HG.out (by omega))
          obtain ⟨ra, rc, hnr, hrr⟩ := HG.out.at hlt
          rw [← er] at hnr hrr
          have HNC := Lib.hid (fun (w : World) (hb : Below W.heap.size W w) => (hb.cell (p := ⟨nb, no + i, none⟩) HNB.out).trans hnr)
          have HRC := Lib.hid (fun (w : World) (hb : Below W.heap.size W w) => hrr.below hb)
          have HLT := Lib.hid hlt
          clear er hnr hrr
          have hn1 := HNC.out _ HSB.out.1
          have hn2 := HTV.out
          have i1 : (0 : Int) ≤ i ∧ (i : Int) < tq.length := by omega
          have b4 : (r.length : Int) ≤ 60 := by have := HRL.out; omega
          have HIL := Lib.hid (show i < tq.length from hlt)
          go_wp2_with fail
          go_loopw [7] (fun kv wr => ∃ (m : Nat) (vs2 : List Value), m ≤ r.length ∧ kv = .int .i64 ((r.length : Int) - 1 - (m : Int)) ∧ RowKit.Hid (TurnS w5 T gb (.slice sa c.length cs) (.slice (some ⟨gb, 0, none⟩) tq.length gs) c.length (labV c) vs2 ((turnT tq i).set i (r ++ r.reverse.take m)) i wr)) (fun k _ => (intOf k + 1).toNat)
          case atStart => exact ⟨0, vs, Nat.zero_le _, by go_num, Lib.hid (by rw [HER.out, mid_start HIL.out]; exact HTI.out)⟩
          case round =>
            clear HTI HTV hn1 hn2 hc0 hc1 HSB
            obtain ⟨w9, rfl⟩ : ∃ w9, w9 = wr := ⟨_, rfl⟩
            obtain ⟨m, vs2, hm, ekv, HTM⟩ := hrel
            have HSB := Lib.hid (HS5.out.on HTM.out.b)
            obtain ⟨hc0, hc1⟩ := HSB.out.all
            have hn1 := HNC.out _ HSB.out.1
            have hn2 : w9.cell? ⟨T, 1, none⟩ = some (.slice (some ⟨gb, 0, none⟩) tq.length gs) := cell_of_row _ _ 1 _ _ _ HTM.out.t
            by_cases hmr : m < r.length
            · obtain ⟨kq, hkq⟩ : ∃ kq : Nat, kq = r.length - 1 - m := ⟨_, rfl⟩
              have HKQ := Lib.hid hkq
              have HKM := Lib.hid (show (r.length : Int) - 1 - (m : Int) = (kq : Int) by omega)
              have e2 := ekv.trans (congrArg (Value.int .i64) HKM.out)
              clear ekv
              subst e2
              have HML := Lib.hid hmr
              have i2 : (0 : Int) ≤ kq ∧ (kq : Int) < r.length := by omega
              obtain ⟨rb, ro, era, hrx⟩ := (HRC.out _ HSB.out.1).cellAt (k := kq) (by omega)
              subst era
              obtain ⟨nd, end'⟩ : ∃ nd, nd = r[kq]?.getD 0 := ⟨_, rfl⟩
              rw [← end'] at hrx
              have HND := Lib.hid end'
              clear end' hkq hmr
              go_upto_region 11 with fail
              clear hrx
              have HTd := Lib.hid (HTM.out.drewN 1)
              refine wp_region_held_drew (S := (fun V => V.cell? ⟨T, 1, none⟩ = some (.slice (some ⟨gb, 0, none⟩) tq.length gs))) (by kernel_rfl) ?_ (fun hHeld => ?_)
              · exact hn2
              clear hn1 hn2 hc0 hc1
              change RowKit.Hid (TurnS _ _ _ _ _ _ _ _ _ _ w9.drew) at HTd
              generalize w9.drew = z0 at HTd hHeld ⊢
              obtain ⟨u, hu, hou⟩ := HTd.out.rest i (Nat.le_refl _) (by rw [mid_len]; exact HIL.out)
              rw [mid_at HIL.out _] at hou
              obtain ⟨qa, qc, rfl⟩ := GG.own_slice hou
              have HUQ := Lib.hid hu
              have HOU := Lib.hid hou
              clear hu hou
              obtain ⟨mid, emid⟩ : ∃ mid, mid = r ++ r.reverse.take m := ⟨_, rfl⟩
              have HMID := Lib.hid emid
              rw [← emid] at HOU HUQ
              have HMM := Lib.hid (show mid.length ≤ 120 by rw [emid, List.length_append, List.length_take, List.length_reverse]; have := HRL.out; omega)
              clear emid
              refine wpAnyH_take (i := 0) (v := .pointer (some ⟨T, 1, none⟩)) rfl (by kernel_rfl) (by kernel_rfl) (by kernel_rfl) (fun _ _ _ h => h) (Or.inl ⟨by rfl, fun W hSW => ?_⟩) hHeld ?_
              · ((try dsimp only at hSW); go_split_ands; go_simp <;> with_reducible rfl)
              try simp only [List.getElem_toArray, List.getElem_cons_succ, List.getElem_cons_zero, Act.put, List.setIfInBounds_toArray, List.set_cons_zero, List.set_cons_succ]
              refine wpAnyH_take (i := 1) (v := .slice (some ⟨gb, 0, none⟩) tq.length gs) rfl (by kernel_rfl) (by kernel_rfl) (by kernel_rfl) (fun _ _ _ h => h) (Or.inl ⟨by rfl, fun W hSW => ?_⟩) hHeld ?_
              · ((try dsimp only at hSW); go_split_ands; go_simp <;> with_reducible rfl)
              try simp only [List.getElem_toArray, List.getElem_cons_succ, List.getElem_cons_zero, Act.put, List.setIfInBounds_toArray, List.set_cons_zero, List.set_cons_succ]
              refine wpAnyH_take (i := 2) (v := .int .i64 i) rfl (by kernel_rfl) (by kernel_rfl) (by kernel_rfl) (fun _ _ _ h => h) (Or.inl ⟨by rfl, fun W hSW => ?_⟩) hHeld ?_
              · ((try dsimp only at hSW); go_split_ands; go_simp <;> with_reducible rfl)
              try simp only [List.getElem_toArray, List.getElem_cons_succ, List.getElem_cons_zero, Act.put, List.setIfInBounds_toArray, List.set_cons_zero, List.set_cons_succ]
              refine wpAnyH_take (i := 3) (v := .pointer (some ⟨T, 1, none⟩)) rfl (by kernel_rfl) (by kernel_rfl) (by kernel_rfl) (fun _ _ _ h => h) (Or.inl ⟨by rfl, fun W hSW => ?_⟩) hHeld ?_
              · ((try dsimp only at hSW); go_split_ands; go_simp <;> with_reducible rfl)
              try simp only [List.getElem_toArray, List.getElem_cons_succ, List.getElem_cons_zero, Act.put, List.setIfInBounds_toArray, List.set_cons_zero, List.set_cons_succ]
              refine wpAnyH_take (i := 4) (v := .slice (some ⟨gb, 0, none⟩) tq.length gs) rfl (by kernel_rfl) (by kernel_rfl) (by kernel_rfl) (fun _ _ _ h => h) (Or.inl ⟨by rfl, fun W hSW => ?_⟩) hHeld ?_
              · ((try dsimp only at hSW); go_split_ands; go_simp <;> with_reducible rfl)
              try simp only [List.getElem_toArray, List.getElem_cons_succ, List.getElem_cons_zero, Act.put, List.setIfInBounds_toArray, List.set_cons_zero, List.set_cons_succ]
              refine wpAnyH_take (i := 5) (v := .int .i64 i) rfl (by kernel_rfl) (by kernel_rfl) (by kernel_rfl) (fun _ _ _ h => h) (Or.inl ⟨by rfl, fun W hSW => ?_⟩) hHeld ?_
              · ((try dsimp only at hSW); go_split_ands; go_simp <;> with_reducible rfl)
              try simp only [List.getElem_toArray, List.getElem_cons_succ, List.getElem_cons_zero, Act.put, List.setIfInBounds_toArray, List.set_cons_zero, List.set_cons_succ]
              refine wpAnyH_take (i := 6) (v := .pointer (some ⟨gb, i, none⟩)) rfl (by kernel_rfl) (by kernel_rfl) (by kernel_rfl) (fun _ _ _ h => h) (Or.inl ⟨by rfl, fun W hSW => ?_⟩) hHeld ?_
              · ((try dsimp only at hSW); go_split_ands; go_simp <;> with_reducible rfl)
              try simp only [List.getElem_toArray, List.getElem_cons_succ, List.getElem_cons_zero, Act.put, List.setIfInBounds_toArray, List.set_cons_zero, List.set_cons_succ]
              refine wpAnyH_take (i := 8) (v := .int .i64 nd) rfl (by kernel_rfl) (by kernel_rfl) (by kernel_rfl) (fun _ _ _ h => h) (Or.inl ⟨by rfl, fun W hSW => ?_⟩) hHeld ?_
              · ((try dsimp only at hSW); go_split_ands; go_simp <;> with_reducible rfl)
              try simp only [List.getElem_toArray, List.getElem_cons_succ, List.getElem_cons_zero, Act.put, List.setIfInBounds_toArray, List.set_cons_zero, List.set_cons_succ]
              have hb := (Below.refl z0.heap.size z0).alloc (Nat.le_refl _) (.cells #[.int .i64 nd] 3)
              have HT10 := Lib.hid (HTd.out.on hb)
              have HOU10 := Lib.hid (SS.own_of_block HOU.out (fun k e => hb.block k (HOU.out.lt k e).2))
              have HSRC := Lib.hid (GG.cell_one z0 (.int .i64 nd) 3)
              have hr1 : z0.cell? ⟨gb, i, none⟩ = some (.slice qa mid.length qc) := own_cellZ (show z0.ownsRow w5.heap.size 29 1 (.slice (some ⟨gb, 0, none⟩) tq.length gs) tq.length _ by have h := HTd.out.g; rwa [mid_len] at h) HUQ.out
              have HR2 := Lib.hid (show (z0.alloc (.cells #[.int .i64 nd] 3)).cell? ⟨gb, i, none⟩ = some (.slice qa mid.length qc) from own_cellZ (show (z0.alloc (.cells #[.int .i64 nd] 3)).ownsRow w5.heap.size 29 1 (.slice (some ⟨gb, 0, none⟩) tq.length gs) tq.length _ by have h := HT10.out.g; rwa [mid_len] at h) HUQ.out)
              have HC10 := Lib.hid (show (z0.alloc (.cells #[.int .i64 nd] 3)).cell? ⟨T, 1, none⟩ = some (.slice (some ⟨gb, 0, none⟩) tq.length gs) from cell_of_row _ _ 1 _ _ _ HT10.out.t)
              clear hb
              refine wpAnyH_ready (rs := [7, 9]) (by kernel_rfl) (by simp) ?_
              refine AllReadyH.cons rfl (fun K hK => ?_) (AllReadyH.cons rfl (fun K hK => ?_) AllReadyH.nil)
              · try simp only [List.getElem_toArray, List.getElem_cons_succ, List.getElem_cons_zero]
                go_simp
                refine hK.out _ _ ?_ (fun hHeld => ?_)
                · exact hHeld
                clear hK K hr1
                try simp only [List.getElem_toArray, List.getElem_cons_succ, List.getElem_cons_zero, Act.put, List.setIfInBounds_toArray, List.set_cons_zero, List.set_cons_succ]
                refine wpAnyH_ready (rs := [9]) (by kernel_rfl) (by simp) ?_
                refine AllReadyH.cons rfl (fun K hK => ?_) AllReadyH.nil
                try simp only [List.getElem_toArray, List.getElem_cons_succ, List.getElem_cons_zero]
                go_simp
                try go_wp2_with fail
                refine hK.out _ _ ?_ (fun hHeld => ?_)
                · exact HC10.out
                clear hK K
                try simp only [List.getElem_toArray, List.getElem_cons_succ, List.getElem_cons_zero, Act.put, List.setIfInBounds_toArray, List.set_cons_zero, List.set_cons_succ]
                generalize z0.alloc (.cells #[.int .i64 nd] 3) = z1 at HT10 HOU10 HSRC HR2 HC10 hHeld ⊢
                refine wpAnyH_ready (rs := [10]) (by kernel_rfl) (by simp) ?_
                refine AllReadyH.cons rfl (fun K hK => ?_) AllReadyH.nil
                obtain ⟨gq, gc, z2, hrun, hown, hg, hat, hltz⟩ := run_append_lies (P := Tryd.prog) (w := z1) 29 29 w5.heap.size 3 i9 (.int .i64 0) 1 8 Tryd.underlying29 hi9 hi90 hi91 hi92 rfl (by decide) (.slice qa mid.length qc) mid.length (intsV mid) HOU10.out ⟨z0.heap.size, 0, none⟩ 1 1 [.int .i64 nd] rfl HSRC.out (by intro u hu; rw [List.mem_singleton.1 hu]; rfl) (by decide) (by have := HMM.out; unfold maxLen; omega) (by have := HMM.out; omega) HT10.out.b.size _ rfl
                refine step_append_run rfl (.tmp 59) (.tmp 61) 29 rfl (by rfl) (by rfl) hrun ?_
                have h0 : (Value.slice (some ⟨gb, 0, none⟩) tq.length gs).ownBlock = some gb := rfl
                have hfar := fun k (e : (Value.slice qa mid.length qc).ownBlock = some k) => HT10.out.far h0 HOU10.out e
                have HA := Lib.hid (HT10.out.upd ⟨gs, by rw [mid_len]⟩ (by rw [mid_len]; exact HIL.out) HUQ.out (fun k e => ⟨(HOU10.out.lt k e).1, hfar k e⟩) hg (v' := .slice (some ⟨gq, 0, none⟩) (mid.length + 1) gc) (row := mid ++ [nd]) (i' := i) (fun b e => by cases e; exact hat.elim Or.inl (fun h => Or.inr (Nat.le_of_eq h.symm))) (fun j _ => Iff.rfl) (fun h => absurd h (Nat.lt_irrefl _)) (fun _ => by rw [cells_last, List.length_append]; exact hown))
                have g1 := HT10.out.g.kept hg (GG.own_types HT10.out.g HOU10.out (by decide))
                rw [mid_len] at g1
                have hT2 : z2.cell? ⟨T, 1, none⟩ = some (.slice (some ⟨gb, 0, none⟩) tq.length gs) := cell_of_row _ _ 1 _ _ _ ((hg.block T HT10.out.l.2 (fun e => hfar T e.symm (.inr (.inl rfl)))).trans HT10.out.t)
                have hl1 : z2.cell? ⟨gb, i, none⟩ = some (.slice qa mid.length qc) := own_cellZ g1 HUQ.out
                have hf1 : z2.frozen? ⟨gb, i, none⟩ = false := own_freeZ g1 _
                clear g1 hown hg hat hltz hrun hfar h0
                refine hK.out _ _ ?_ (fun hHeld => ?_)
                · exact hT2
                clear hK K
                try simp only [List.getElem_toArray, List.getElem_cons_succ, List.getElem_cons_zero, Act.put, List.setIfInBounds_toArray, List.set_cons_zero, List.set_cons_succ]
                refine wpAnyH_take (i := 11) (v := .pointer (some ⟨gb, i, none⟩)) rfl (by kernel_rfl) (by kernel_rfl) (by kernel_rfl) (fun _ _ _ h => h) (Or.inl ⟨by rfl, fun W hSW => ?_⟩) hHeld ?_
                · ((try dsimp only at hSW); go_split_ands; go_simp <;> with_reducible rfl)
                try simp only [List.getElem_toArray, List.getElem_cons_succ, List.getElem_cons_zero, Act.put, List.setIfInBounds_toArray, List.set_cons_zero, List.set_cons_succ]
                refine wpAnyH_ready (rs := [12]) (by kernel_rfl) (by simp) ?_
                refine AllReadyH.cons rfl (fun K hK => ?_) AllReadyH.nil
                try simp only [List.getElem_toArray, List.getElem_cons_succ, List.getElem_cons_zero]
                go_simp
                try go_wp2_with fail
                refine hK.out _ _ ?_ (fun hHeld => ?_)
                · exact cell_of_row _ _ 1 _ _ _ HA.out.t
                clear hK K
                try simp only [List.getElem_toArray, List.getElem_cons_succ, List.getElem_cons_zero, Act.put, List.setIfInBounds_toArray, List.set_cons_zero, List.set_cons_succ]
                refine wpAnyH_done (by kernel_rfl) ?_ _
                clear hHeld
                have HA2 := Lib.hid (show TurnS w5 T gb (.slice sa c.length cs) (.slice (some ⟨gb, 0, none⟩) tq.length gs) c.length (labV c) _ ((turnT tq i).set i (r ++ r.reverse.take (m + 1))) i _ by have h := HA.out; rwa [List.set_set, show mid ++ [nd] = r ++ r.reverse.take (m + 1) by rw [HMID.out, List.append_assoc, HND.out, HKQ.out, rev_next HML.out]] at h)
                go_wp2_with fail
                go_roundw
                case rel => exact ⟨m + 1, _, by have := HML.out; omega, by have := HKM.out; congr 1; omega, HA2⟩
                case measure => first | (simp [intOf]; done) | (simp [intOf]; omega)
              · try simp only [List.getElem_toArray, List.getElem_cons_succ, List.getElem_cons_zero]
                go_simp
                refine hK.out _ _ ?_ (fun hHeld => ?_)
                · exact HC10.out
                clear hK K hr1
                try simp only [List.getElem_toArray, List.getElem_cons_succ, List.getElem_cons_zero, Act.put, List.setIfInBounds_toArray, List.set_cons_zero, List.set_cons_succ]
                generalize z0.alloc (.cells #[.int .i64 nd] 3) = z1 at HT10 HOU10 HSRC HR2 HC10 hHeld ⊢
                have hr1 := HR2.out
                refine wpAnyH_ready (rs := [7]) (by kernel_rfl) (by simp) ?_
                refine AllReadyH.cons rfl (fun K hK => ?_) AllReadyH.nil
                try simp only [List.getElem_toArray, List.getElem_cons_succ, List.getElem_cons_zero]
                go_simp
                try go_wp2_with fail
                refine hK.out _ _ ?_ (fun hHeld => ?_)
                · exact HC10.out
                clear hK K
                try simp only [List.getElem_toArray, List.getElem_cons_succ, List.getElem_cons_zero, Act.put, List.setIfInBounds_toArray, List.set_cons_zero, List.set_cons_succ]
                clear hr1
                refine wpAnyH_ready (rs := [10]) (by kernel_rfl) (by simp) ?_
                refine AllReadyH.cons rfl (fun K hK => ?_) AllReadyH.nil
                obtain ⟨gq, gc, z2, hrun, hown, hg, hat, hltz⟩ := run_append_lies (P := Tryd.prog) (w := z1) 29 29 w5.heap.size 3 i9 (.int .i64 0) 1 8 Tryd.underlying29 hi9 hi90 hi91 hi92 rfl (by decide) (.slice qa mid.length qc) mid.length (intsV mid) HOU10.out ⟨z0.heap.size, 0, none⟩ 1 1 [.int .i64 nd] rfl HSRC.out (by intro u hu; rw [List.mem_singleton.1 hu]; rfl) (by decide) (by have := HMM.out; unfold maxLen; omega) (by have := HMM.out; omega) HT10.out.b.size _ rfl
                refine step_append_run rfl (.tmp 59) (.tmp 61) 29 rfl (by rfl) (by rfl) hrun ?_
                have h0 : (Value.slice (some ⟨gb, 0, none⟩) tq.length gs).ownBlock = some gb := rfl
                have hfar := fun k (e : (Value.slice qa mid.length qc).ownBlock = some k) => HT10.out.far h0 HOU10.out e
                have HA := Lib.hid (HT10.out.upd ⟨gs, by rw [mid_len]⟩ (by rw [mid_len]; exact HIL.out) HUQ.out (fun k e => ⟨(HOU10.out.lt k e).1, hfar k e⟩) hg (v' := .slice (some ⟨gq, 0, none⟩) (mid.length + 1) gc) (row := mid ++ [nd]) (i' := i) (fun b e => by cases e; exact hat.elim Or.inl (fun h => Or.inr (Nat.le_of_eq h.symm))) (fun j _ => Iff.rfl) (fun h => absurd h (Nat.lt_irrefl _)) (fun _ => by rw [cells_last, List.length_append]; exact hown))
                have g1 := HT10.out.g.kept hg (GG.own_types HT10.out.g HOU10.out (by decide))
                rw [mid_len] at g1
                have hT2 : z2.cell? ⟨T, 1, none⟩ = some (.slice (some ⟨gb, 0, none⟩) tq.length gs) := cell_of_row _ _ 1 _ _ _ ((hg.block T HT10.out.l.2 (fun e => hfar T e.symm (.inr (.inl rfl)))).trans HT10.out.t)
                have hl1 : z2.cell? ⟨gb, i, none⟩ = some (.slice qa mid.length qc) := own_cellZ g1 HUQ.out
                have hf1 : z2.frozen? ⟨gb, i, none⟩ = false := own_freeZ g1 _
                clear g1 hown hg hat hltz hrun hfar h0
                refine hK.out _ _ ?_ (fun hHeld => ?_)
                · exact hT2
                clear hK K
                try simp only [List.getElem_toArray, List.getElem_cons_succ, List.getElem_cons_zero, Act.put, List.setIfInBounds_toArray, List.set_cons_zero, List.set_cons_succ]
                refine wpAnyH_take (i := 11) (v := .pointer (some ⟨gb, i, none⟩)) rfl (by kernel_rfl) (by kernel_rfl) (by kernel_rfl) (fun _ _ _ h => h) (Or.inl ⟨by rfl, fun W hSW => ?_⟩) hHeld ?_
                · ((try dsimp only at hSW); go_split_ands; go_simp <;> with_reducible rfl)
                try simp only [List.getElem_toArray, List.getElem_cons_succ, List.getElem_cons_zero, Act.put, List.setIfInBounds_toArray, List.set_cons_zero, List.set_cons_succ]
                refine wpAnyH_ready (rs := [12]) (by kernel_rfl) (by simp) ?_
                refine AllReadyH.cons rfl (fun K hK => ?_) AllReadyH.nil
                try simp only [List.getElem_toArray, List.getElem_cons_succ, List.getElem_cons_zero]
                go_simp
                try go_wp2_with fail
                refine hK.out _ _ ?_ (fun hHeld => ?_)
                · exact cell_of_row _ _ 1 _ _ _ HA.out.t
                clear hK K
                try simp only [List.getElem_toArray, List.getElem_cons_succ, List.getElem_cons_zero, Act.put, List.setIfInBounds_toArray, List.set_cons_zero, List.set_cons_succ]
                refine wpAnyH_done (by kernel_rfl) ?_ _
                clear hHeld
                have HA2 := Lib.hid (show TurnS w5 T gb (.slice sa c.length cs) (.slice (some ⟨gb, 0, none⟩) tq.length gs) c.length (labV c) _ ((turnT tq i).set i (r ++ r.reverse.take (m + 1))) i _ by have h := HA.out; rwa [List.set_set, show mid ++ [nd] = r ++ r.reverse.take (m + 1) by rw [HMID.out, List.append_assoc, HND.out, HKQ.out, rev_next HML.out]] at h)
                go_wp2_with fail
                go_roundw
                case rel => exact ⟨m + 1, _, by have := HML.out; omega, by have := HKM.out; congr 1; omega, HA2⟩
                case measure => first | (simp [intOf]; done) | (simp [intOf]; omega)
            · have e0 : m = r.length := by omega
              subst e0
              have e2 := ekv.trans (congrArg (Value.int .i64) (show (r.length : Int) - 1 - (r.length : Int) = -1 by omega))
              clear ekv
              subst e2
              have HTM2 := Lib.hid (show TurnS w5 T gb (.slice sa c.length cs) (.slice (some ⟨gb, 0, none⟩) tq.length gs) c.length (labV c) vs2 ((turnT tq i).set i (r ++ r.reverse)) i w9 by have h := HTM.out; rwa [List.take_of_length_le (by simp)] at h)
              clear HTM hm hmr
              obtain ⟨u, hu, hou⟩ := HTM2.out.rest i (Nat.le_refl _) (by rw [mid_len]; exact HIL.out)
              rw [mid_at HIL.out] at hou
              have hg3 := HTM2.out.g
              rw [mid_len] at hg3
              obtain ⟨qa, qc, rfl⟩ := GG.own_slice hou
              obtain ⟨nn, hnn⟩ : ∃ nn, nn = (r ++ r.reverse).length := ⟨_, rfl⟩
              rw [← hnn] at hu hou
              have hn5 : nn = r.length + r.length := by rw [hnn, List.length_append, List.length_reverse]
              have HUQ := Lib.hid hu
              have HOU := Lib.hid hou
              have hr1 : w9.cell? ⟨gb, i, none⟩ = some (.slice qa nn qc) := own_cellZ hg3 hu
              have hf1 : w9.frozen? ⟨gb, i, none⟩ = false := own_freeZ hg3 _
              have HTd := Lib.hid (show TurnS w5 T gb (.slice sa c.length cs) (.slice (some ⟨gb, 0, none⟩) tq.length gs) c.length (labV c) vs2 ((turnT tq i).set i (r ++ r.reverse)) i w9.drew from HTM2.out.drewN 1)
              have HOd := Lib.hid (show w9.drew.ownsRow w5.heap.size 3 1 (.slice qa nn qc) nn (intsV (r ++ r.reverse)) from HOU.out)
              clear hg3 hu hou hnn
              by_cases hr0 : r.length = 0
              · have hrn : r = [] := List.length_eq_zero_iff.1 hr0
                subst hrn
                have e3 : nn = 0 := by rw [hn5]; rfl
                subst e3
                have HEMP := Lib.hid (show ∀ (w' : World), Below w9.heap.size w9 w' → TurnS w5 T gb (.slice sa c.length cs) (.slice (some ⟨gb, 0, none⟩) tq.length gs) c.length (labV c) (vs2.set i (.slice qa 0 qc)) (turnT tq (i + 1)) (i + 1) (w'.setCell ⟨gb, i, none⟩ (.slice qa 0 qc)) from fun w' hb => by
                  have HT3 := HTM2.out.on hb
                  have HO3 := SS.own_of_block HOU.out (fun k e => hb.block k (HOU.out.lt k e).2)
                  have h := HT3.upd (w' := w') ⟨gs, by rw [mid_len]⟩ (by rw [mid_len]; exact HIL.out) HUQ.out (fun k e => ⟨(HO3.lt k e).1, HT3.far rfl HO3 e⟩) ⟨rfl, rfl, rfl, Nat.le_refl _, fun _ _ _ => rfl⟩ (v' := .slice qa 0 qc) (row := []) (i' := i + 1) (fun b e => .inl e) (fun j hj => by omega)
                    (fun _ => ⟨cells_of_row HO3, fun k e => ⟨(HO3.lt k e).1, (HO3.lt k e).2, HT3.far rfl HO3 e⟩⟩) (fun h => absurd h (by omega))
                  rwa [List.set_set, show ([] : List Int) = turnL (tq[i]?.getD []) by rw [← HER.out]; rfl, turnT_next HIL.out] at h)
                have HBD := Lib.hid (show Below w9.heap.size w9 w9.drew from ⟨rfl, rfl, rfl, Nat.le_refl _, fun _ _ => rfl⟩)
                clear HTM2 HTd HOd hn5
                have hform : (qa = none ∧ qc = 0) ∨ ∃ ub, qa = some ⟨ub, 0, none⟩ := by
                  rcases HOU.out.2 with ⟨e, _⟩ | ⟨g, cp, cur, e, _⟩
                  · cases e; exact .inl ⟨rfl, rfl⟩
                  · cases e; exact .inr ⟨g, rfl⟩
                rcases hform with ⟨rfl, rfl⟩ | ⟨ub, rfl⟩
                · go_wp2_with fail
                  go_still_tail 15, (by kernel_rfl)
                  change wpList _ _ _ _ _ w9.drew
                  have hr2 : w9.drew.cell? ⟨gb, i, none⟩ = some (.slice none 0 0) := hr1
                  have hf2 : w9.drew.frozen? ⟨gb, i, none⟩ = false := hf1
                  go_upto_region 13 with fail
                  have HA := Lib.hid ((HEMP.out w9 (Below.refl _ _)).drewN 1)
                  change RowKit.Hid (TurnS _ _ _ _ _ _ _ _ _ _ (w9.setCell ⟨gb, i, none⟩ (.slice none 0 0)).drew) at HA
                  generalize (w9.setCell ⟨gb, i, none⟩ (.slice none 0 0)).drew = w10 at HA ⊢
                  clear hr1 hr2 hf1 hf2 hn1 hn2 hc0 hc1 HSB
                  have HSB := Lib.hid (HS5.out.on HA.out.b)
                  obtain ⟨hc0, hc1⟩ := HSB.out.all
                  have hn1 := HNC.out _ HSB.out.1
                  go_wp2_with fail
                  go_roundw
                  case rel => exact ⟨i + 1, _, by have := HIL.out; omega, by go_num, HA⟩
                  case measure => first | (simp [intOf]; done) | (simp [intOf]; omega)
                · by_cases hqc : qc = 0
                  · subst hqc
                    go_wp2_with fail
                    go_still_tail 15, (by kernel_rfl)
                    change wpList _ _ _ _ _ w9.drew
                    have hr2 : w9.drew.cell? ⟨gb, i, none⟩ = some (.slice (some ⟨ub, 0, none⟩) 0 0) := hr1
                    have hf2 : w9.drew.frozen? ⟨gb, i, none⟩ = false := hf1
                    go_upto_region 13 with fail
                    have HA := Lib.hid ((HEMP.out w9 (Below.refl _ _)).drewN 1)
                    change RowKit.Hid (TurnS _ _ _ _ _ _ _ _ _ _ (w9.setCell ⟨gb, i, none⟩ (.slice (some ⟨ub, 0, none⟩) 0 0)).drew) at HA
                    generalize (w9.setCell ⟨gb, i, none⟩ (.slice (some ⟨ub, 0, none⟩) 0 0)).drew = w10 at HA ⊢
                    clear hr1 hr2 hf1 hf2 hn1 hn2 hc0 hc1 HSB
                    have HSB := Lib.hid (HS5.out.on HA.out.b)
                    obtain ⟨hc0, hc1⟩ := HSB.out.all
                    have hn1 := HNC.out _ HSB.out.1
                    go_wp2_with fail
                    go_roundw
                    case rel => exact ⟨i + 1, _, by have := HIL.out; omega, by go_num, HA⟩
                    case measure => first | (simp [intOf]; done) | (simp [intOf]; omega)
                  · go_wp2_with fail
                    go_still_tail 15, (by kernel_rfl)
                    change wpList _ _ _ _ _ w9.drew
                    have hr2 : w9.drew.cell? ⟨gb, i, none⟩ = some (.slice (some ⟨ub, 0, none⟩) 0 qc) := hr1
                    have hf2 : w9.drew.frozen? ⟨gb, i, none⟩ = false := hf1
                    go_upto_region 13 with fail
                    have HA := Lib.hid ((HEMP.out w9 (Below.refl _ _)).drewN 1)
                    change RowKit.Hid (TurnS _ _ _ _ _ _ _ _ _ _ (w9.setCell ⟨gb, i, none⟩ (.slice (some ⟨ub, 0, none⟩) 0 qc)).drew) at HA
                    generalize (w9.setCell ⟨gb, i, none⟩ (.slice (some ⟨ub, 0, none⟩) 0 qc)).drew = w10 at HA ⊢
                    clear hr1 hr2 hf1 hf2 hn1 hn2 hc0 hc1 HSB
                    have HSB := Lib.hid (HS5.out.on HA.out.b)
                    obtain ⟨hc0, hc1⟩ := HSB.out.all
                    have hn1 := HNC.out _ HSB.out.1
                    go_wp2_with fail
                    go_roundw
                    case rel => exact ⟨i + 1, _, by have := HIL.out; omega, by go_num, HA⟩
                    case measure => first | (simp [intOf]; done) | (simp [intOf]; omega)
              · obtain ⟨ub, uc', e4⟩ := SS.own_some HOU.out (by omega)
                injection e4 with e5 _ e6
                subst e5 e6
                have HNN := Lib.hid hn5
                have HR0 := Lib.hid (show 0 < r.length by omega)
                have hcap : nn ≤ qc ∧ qc ≤ maxLen := by
                  rcases HOU.out.2 with ⟨e, _⟩ | ⟨g, cp, cur, e, _, _, h3, h4, _⟩
                  · cases e
                  · cases e; exact ⟨h3, h4⟩
                have hq1 : ¬ qc = r.length := by omega
                have hq2 : nn - r.length = r.length := by omega
                have i3 : (r.length : Int) ≤ nn := by omega
                have HQC := Lib.hid hcap
                clear hcap hn5 hr0
                go_wp2_with fail
                go_still_tail 15, (by kernel_rfl)
                change wpList _ _ _ _ _ w9.drew
                have hr2 : w9.drew.cell? ⟨gb, i, none⟩ = some (.slice (some ⟨ub, 0, none⟩) nn qc) := hr1
                have hf2 : w9.drew.frozen? ⟨gb, i, none⟩ = false := hf1
                go_upto_region 13 with fail
                have HA := Lib.hid ((HTM2.out.upd (w' := w9) ⟨gs, by rw [mid_len]⟩ (by rw [mid_len]; exact HIL.out) HUQ.out (fun k e => ⟨(HOU.out.lt k e).1, HTM2.out.far rfl HOU.out e⟩) ⟨rfl, rfl, rfl, Nat.le_refl _, fun _ _ _ => rfl⟩ (v' := .slice (some ⟨ub, r.length, none⟩) r.length (qc - r.length)) (row := r.reverse) (i' := i + 1) (fun b e => .inl e) (fun j hj => by omega)
                  (fun _ => ⟨half_row HOU.out (by simp), fun k e => by cases e; exact ⟨(HOU.out.lt _ rfl).1, (HOU.out.lt _ rfl).2, HTM2.out.far rfl HOU.out rfl⟩⟩) (fun h => absurd h (by omega))).drewN 1)
                have HOB := Lib.hid (show ((w9.setCell ⟨gb, i, none⟩ (.slice (some ⟨ub, r.length, none⟩) r.length (qc - r.length))).drew).ownsRow w5.heap.size 3 1 (.slice (some ⟨ub, 0, none⟩) nn qc) nn (intsV (r ++ r.reverse)) from
                  SS.own_of_block HOU.out (fun k e => Below.heap_setCell _ _ _ _ (fun e2 => HTM2.out.far rfl HOU.out e (.inl e2))))
                have HUB := Lib.hid (HTM2.out.far rfl HOU.out rfl)
                change RowKit.Hid (TurnS _ _ _ _ _ _ _ _ _ _ (w9.setCell ⟨gb, i, none⟩ (.slice (some ⟨ub, r.length, none⟩) r.length (qc - r.length))).drew) at HA
                rw [List.set_set] at HA
                generalize (w9.setCell ⟨gb, i, none⟩ (.slice (some ⟨ub, r.length, none⟩) r.length (qc - r.length))).drew = w10 at HA HOB ⊢
                clear HTM2 HSB hr1 hr2 hf1 hf2 hn1 hn2 hc0 hc1 HTd HOd HOU HUQ
                have HSB := Lib.hid (HS5.out.on HA.out.b)
                obtain ⟨hc0, hc1⟩ := HSB.out.all
                have hn1 := HNC.out _ HSB.out.1
                have hn2 : w10.cell? ⟨T, 1, none⟩ = some (.slice (some ⟨gb, 0, none⟩) tq.length gs) := cell_of_row _ _ 1 _ _ _ HA.out.t
                obtain ⟨rb, ro, era, hrx⟩ := (HRC.out _ HSB.out.1).cellAt (k := 0) HR0.out
                subst era
                obtain ⟨nd, end'⟩ : ∃ nd, nd = r[0]?.getD 0 := ⟨_, rfl⟩
                rw [← end', Nat.add_zero] at hrx
                have HND := Lib.hid end'
                have i4 : (0 : Int) < r.length := by have := HR0.out; omega
                clear end'
                go_upto_region 15 with fail
                have HUQ := Lib.hid (show (vs2.set i (Value.slice (some ⟨ub, r.length, none⟩) r.length (qc - r.length)))[i]? = some (Value.slice (some ⟨ub, r.length, none⟩) r.length (qc - r.length)) from (List.getElem?_set_self (by have h := HA.out.g.1; rw [List.length_set, mid_len] at h; have := HIL.out; omega)))
                generalize hvs3 : vs2.set i (Value.slice (some ⟨ub, r.length, none⟩) r.length (qc - r.length)) = vs3 at HA HUQ
                clear hvs3 hrx
                have HTd := Lib.hid (HA.out.drewN 1)
                refine wp_region_held_drew (S := (fun V => V.cell? ⟨T, 1, none⟩ = some (.slice (some ⟨gb, 0, none⟩) tq.length gs))) (by kernel_rfl) ?_ (fun hHeld => ?_)
                · exact hn2
                have HOU := Lib.hid (show w10.drew.ownsRow w5.heap.size 3 1 (.slice (some ⟨ub, 0, none⟩) nn qc) nn (intsV (r ++ r.reverse)) from HOB.out)
                clear hn1 hn2 hc0 hc1 HA HOB
                change RowKit.Hid (TurnS _ _ _ _ _ _ _ _ _ _ w10.drew) at HTd
                generalize w10.drew = z0 at HTd hHeld HOU ⊢
                refine wpAnyH_take (i := 0) (v := .pointer (some ⟨T, 1, none⟩)) rfl (by kernel_rfl) (by kernel_rfl) (by kernel_rfl) (fun _ _ _ h => h) (Or.inl ⟨by rfl, fun W hSW => ?_⟩) hHeld ?_
                · ((try dsimp only at hSW); go_split_ands; go_simp <;> with_reducible rfl)
                try simp only [List.getElem_toArray, List.getElem_cons_succ, List.getElem_cons_zero, Act.put, List.setIfInBounds_toArray, List.set_cons_zero, List.set_cons_succ]
                refine wpAnyH_take (i := 1) (v := .slice (some ⟨gb, 0, none⟩) tq.length gs) rfl (by kernel_rfl) (by kernel_rfl) (by kernel_rfl) (fun _ _ _ h => h) (Or.inl ⟨by rfl, fun W hSW => ?_⟩) hHeld ?_
                · ((try dsimp only at hSW); go_split_ands; go_simp <;> with_reducible rfl)
                try simp only [List.getElem_toArray, List.getElem_cons_succ, List.getElem_cons_zero, Act.put, List.setIfInBounds_toArray, List.set_cons_zero, List.set_cons_succ]
                refine wpAnyH_take (i := 2) (v := .int .i64 i) rfl (by kernel_rfl) (by kernel_rfl) (by kernel_rfl) (fun _ _ _ h => h) (Or.inl ⟨by rfl, fun W hSW => ?_⟩) hHeld ?_
                · ((try dsimp only at hSW); go_split_ands; go_simp <;> with_reducible rfl)
                try simp only [List.getElem_toArray, List.getElem_cons_succ, List.getElem_cons_zero, Act.put, List.setIfInBounds_toArray, List.set_cons_zero, List.set_cons_succ]
                refine wpAnyH_take (i := 3) (v := .pointer (some ⟨T, 1, none⟩)) rfl (by kernel_rfl) (by kernel_rfl) (by kernel_rfl) (fun _ _ _ h => h) (Or.inl ⟨by rfl, fun W hSW => ?_⟩) hHeld ?_
                · ((try dsimp only at hSW); go_split_ands; go_simp <;> with_reducible rfl)
                try simp only [List.getElem_toArray, List.getElem_cons_succ, List.getElem_cons_zero, Act.put, List.setIfInBounds_toArray, List.set_cons_zero, List.set_cons_succ]
                refine wpAnyH_take (i := 4) (v := .slice (some ⟨gb, 0, none⟩) tq.length gs) rfl (by kernel_rfl) (by kernel_rfl) (by kernel_rfl) (fun _ _ _ h => h) (Or.inl ⟨by rfl, fun W hSW => ?_⟩) hHeld ?_
                · ((try dsimp only at hSW); go_split_ands; go_simp <;> with_reducible rfl)
                try simp only [List.getElem_toArray, List.getElem_cons_succ, List.getElem_cons_zero, Act.put, List.setIfInBounds_toArray, List.set_cons_zero, List.set_cons_succ]
                refine wpAnyH_take (i := 5) (v := .int .i64 i) rfl (by kernel_rfl) (by kernel_rfl) (by kernel_rfl) (fun _ _ _ h => h) (Or.inl ⟨by rfl, fun W hSW => ?_⟩) hHeld ?_
                · ((try dsimp only at hSW); go_split_ands; go_simp <;> with_reducible rfl)
                try simp only [List.getElem_toArray, List.getElem_cons_succ, List.getElem_cons_zero, Act.put, List.setIfInBounds_toArray, List.set_cons_zero, List.set_cons_succ]
                refine wpAnyH_take (i := 6) (v := .pointer (some ⟨gb, i, none⟩)) rfl (by kernel_rfl) (by kernel_rfl) (by kernel_rfl) (fun _ _ _ h => h) (Or.inl ⟨by rfl, fun W hSW => ?_⟩) hHeld ?_
                · ((try dsimp only at hSW); go_split_ands; go_simp <;> with_reducible rfl)
                try simp only [List.getElem_toArray, List.getElem_cons_succ, List.getElem_cons_zero, Act.put, List.setIfInBounds_toArray, List.set_cons_zero, List.set_cons_succ]
                refine wpAnyH_take (i := 8) (v := .int .i64 nd) rfl (by kernel_rfl) (by kernel_rfl) (by kernel_rfl) (fun _ _ _ h => h) (Or.inl ⟨by rfl, fun W hSW => ?_⟩) hHeld ?_
                · ((try dsimp only at hSW); go_split_ands; go_simp <;> with_reducible rfl)
                try simp only [List.getElem_toArray, List.getElem_cons_succ, List.getElem_cons_zero, Act.put, List.setIfInBounds_toArray, List.set_cons_zero, List.set_cons_succ]
                have hb := (Below.refl z0.heap.size z0).alloc (Nat.le_refl _) (.cells #[.int .i64 nd] 3)
                have HT10 := Lib.hid (HTd.out.on hb)
                have HOU10 := Lib.hid (SS.own_of_block HOU.out (fun k e => hb.block k (HOU.out.lt k e).2))
                have HSRC := Lib.hid (GG.cell_one z0 (.int .i64 nd) 3)
                have hr1 : z0.cell? ⟨gb, i, none⟩ = some (.slice (some ⟨ub, r.length, none⟩) r.length (qc - r.length)) := own_cellZ (show z0.ownsRow w5.heap.size 29 1 (.slice (some ⟨gb, 0, none⟩) tq.length gs) tq.length _ by have h := HTd.out.g; rwa [mid_len] at h) HUQ.out
                have HR2 := Lib.hid (show (z0.alloc (.cells #[.int .i64 nd] 3)).cell? ⟨gb, i, none⟩ = some (.slice (some ⟨ub, r.length, none⟩) r.length (qc - r.length)) from own_cellZ (show (z0.alloc (.cells #[.int .i64 nd] 3)).ownsRow w5.heap.size 29 1 (.slice (some ⟨gb, 0, none⟩) tq.length gs) tq.length _ by have h := HT10.out.g; rwa [mid_len] at h) HUQ.out)
                have HC10 := Lib.hid (show (z0.alloc (.cells #[.int .i64 nd] 3)).cell? ⟨T, 1, none⟩ = some (.slice (some ⟨gb, 0, none⟩) tq.length gs) from cell_of_row _ _ 1 _ _ _ HT10.out.t)
                clear hb
                refine wpAnyH_ready (rs := [7, 9]) (by kernel_rfl) (by simp) ?_
                refine AllReadyH.cons rfl (fun K hK => ?_) (AllReadyH.cons rfl (fun K hK => ?_) AllReadyH.nil)
                · try simp only [List.getElem_toArray, List.getElem_cons_succ, List.getElem_cons_zero]
                  go_simp
                  refine hK.out _ _ ?_ (fun hHeld => ?_)
                  · exact hHeld
                  clear hK K hr1
                  try simp only [List.getElem_toArray, List.getElem_cons_succ, List.getElem_cons_zero, Act.put, List.setIfInBounds_toArray, List.set_cons_zero, List.set_cons_succ]
                  refine wpAnyH_ready (rs := [9]) (by kernel_rfl) (by simp) ?_
                  refine AllReadyH.cons rfl (fun K hK => ?_) AllReadyH.nil
                  try simp only [List.getElem_toArray, List.getElem_cons_succ, List.getElem_cons_zero]
                  go_simp
                  try go_wp2_with fail
                  refine hK.out _ _ ?_ (fun hHeld => ?_)
                  · exact HC10.out
                  clear hK K
                  try simp only [List.getElem_toArray, List.getElem_cons_succ, List.getElem_cons_zero, Act.put, List.setIfInBounds_toArray, List.set_cons_zero, List.set_cons_succ]
                  generalize z0.alloc (.cells #[.int .i64 nd] 3) = z1 at HT10 HOU10 HSRC HR2 HC10 hHeld ⊢
                  refine wpAnyH_ready (rs := [10]) (by kernel_rfl) (by simp) ?_
                  refine AllReadyH.cons rfl (fun K hK => ?_) AllReadyH.nil
                  obtain ⟨v2, z2, hrun, hg, hrow, gq, oq, cq, ev, hltz, hat⟩ := run_append_tail HOU10.out (off := r.length) (ys := r.reverse) (x := nd) (cx := 1) (by rw [List.length_reverse]; exact HNN.out.symm) rfl (half_row HOU10.out rfl) i9 hi9 hi90 hi91 hi92 29 29 Tryd.underlying29 HSRC.out (by rw [List.length_reverse]; have := HRL.out; omega)
                  rw [List.length_reverse] at hrun ev
                  subst ev
                  refine step_append_run rfl (.tmp 101) (.tmp 103) 29 rfl (by rfl) (by rfl) hrun ?_
                  have hfar : ¬ (gq = gb ∨ gq = T ∨ (Value.slice sa c.length cs).ownBlock = some gq) := by
                    rcases hat with rfl | h
                    · exact HUB.out
                    · have h1 := (HT10.out.g.lt gb rfl).2
                      have h2 := HT10.out.l.2
                      rintro (e | e | e)
                      · omega
                      · omega
                      · have h3 := (HT10.out.c.lt _ e).2; omega
                  have h5 : w5.heap.size ≤ gq := hat.elim (fun h => by rw [h]; exact (HOU10.out.lt _ rfl).1) (fun h => by have := HT10.out.b.size; omega)
                  have HB := Lib.hid (HT10.out.upd ⟨gs, by rw [mid_len]⟩ (by rw [mid_len]; exact HIL.out) HUQ.out (fun k e => by cases e; exact ⟨(HOU10.out.lt _ rfl).1, HUB.out⟩) hg (v' := .slice (some ⟨gq, oq, none⟩) (r.length + 1) cq) (row := r.reverse ++ [nd]) (i' := i + 1) (fun b e => by cases e; exact hat.elim (fun h => Or.inl (by rw [h]; rfl)) Or.inr) (fun j _ => Iff.rfl) (fun _ => ⟨hrow, fun k e => by cases e; exact ⟨h5, hltz, hfar⟩⟩) (fun h => absurd h (by omega)))
                  have g1 := HT10.out.g.kept hg (.inr (fun e => HUB.out (.inl (Option.some.inj e).symm)))
                  rw [mid_len] at g1
                  have hT2 : z2.cell? ⟨T, 1, none⟩ = some (.slice (some ⟨gb, 0, none⟩) tq.length gs) := cell_of_row _ _ 1 _ _ _ ((hg.block T HT10.out.l.2 (fun e => HUB.out (.inr (.inl (Option.some.inj e).symm)))).trans HT10.out.t)
                  have hl1 : z2.cell? ⟨gb, i, none⟩ = some (.slice (some ⟨ub, r.length, none⟩) r.length (qc - r.length)) := own_cellZ g1 HUQ.out
                  have hf1 : z2.frozen? ⟨gb, i, none⟩ = false := own_freeZ g1 _
                  clear g1 hrow hg hat hltz hrun hfar h5
                  have HA := Lib.hid (show TurnS w5 T gb (.slice sa c.length cs) (.slice (some ⟨gb, 0, none⟩) tq.length gs) c.length (labV c) _ (turnT tq (i + 1)) (i + 1) _ by have h := HB.out; rwa [List.set_set, show r.reverse ++ [nd] = turnL (tq[i]?.getD []) by rw [← HER.out, HND.out]; unfold turnL; rw [take_one HR0.out], turnT_next HIL.out] at h)
                  clear HB
                  refine hK.out _ _ ?_ (fun hHeld => ?_)
                  · exact hT2
                  clear hK K
                  try simp only [List.getElem_toArray, List.getElem_cons_succ, List.getElem_cons_zero, Act.put, List.setIfInBounds_toArray, List.set_cons_zero, List.set_cons_succ]
                  refine wpAnyH_take (i := 11) (v := .pointer (some ⟨gb, i, none⟩)) rfl (by kernel_rfl) (by kernel_rfl) (by kernel_rfl) (fun _ _ _ h => h) (Or.inl ⟨by rfl, fun W hSW => ?_⟩) hHeld ?_
                  · ((try dsimp only at hSW); go_split_ands; go_simp <;> with_reducible rfl)
                  try simp only [List.getElem_toArray, List.getElem_cons_succ, List.getElem_cons_zero, Act.put, List.setIfInBounds_toArray, List.set_cons_zero, List.set_cons_succ]
                  refine wpAnyH_ready (rs := [12]) (by kernel_rfl) (by simp) ?_
                  refine AllReadyH.cons rfl (fun K hK => ?_) AllReadyH.nil
                  try simp only [List.getElem_toArray, List.getElem_cons_succ, List.getElem_cons_zero]
                  go_simp
                  try go_wp2_with fail
                  refine hK.out _ _ ?_ (fun hHeld => ?_)
                  · exact cell_of_row _ _ 1 _ _ _ HA.out.t
                  clear hK K
                  try simp only [List.getElem_toArray, List.getElem_cons_succ, List.getElem_cons_zero, Act.put, List.setIfInBounds_toArray, List.set_cons_zero, List.set_cons_succ]
                  refine wpAnyH_done (by kernel_rfl) ?_ _
                  clear hHeld
                  go_wp2_with fail
                  go_roundw
                  case rel => exact ⟨i + 1, _, by have := HIL.out; omega, by go_num, HA⟩
                  case measure => first | (simp [intOf]; done) | (simp [intOf]; omega)
                · try simp only [List.getElem_toArray, List.getElem_cons_succ, List.getElem_cons_zero]
                  go_simp
                  refine hK.out _ _ ?_ (fun hHeld => ?_)
                  · exact HC10.out
                  clear hK K hr1
                  try simp only [List.getElem_toArray, List.getElem_cons_succ, List.getElem_cons_zero, Act.put, List.setIfInBounds_toArray, List.set_cons_zero, List.set_cons_succ]
                  generalize z0.alloc (.cells #[.int .i64 nd] 3) = z1 at HT10 HOU10 HSRC HR2 HC10 hHeld ⊢
                  have hr1 := HR2.out
                  refine wpAnyH_ready (rs := [7]) (by kernel_rfl) (by simp) ?_
                  refine AllReadyH.cons rfl (fun K hK => ?_) AllReadyH.nil
                  try simp only [List.getElem_toArray, List.getElem_cons_succ, List.getElem_cons_zero]
                  go_simp
                  try go_wp2_with fail
                  refine hK.out _ _ ?_ (fun hHeld => ?_)
                  · exact HC10.out
                  clear hK K
                  try simp only [List.getElem_toArray, List.getElem_cons_succ, List.getElem_cons_zero, Act.put, List.setIfInBounds_toArray, List.set_cons_zero, List.set_cons_succ]
                  clear hr1
                  refine wpAnyH_ready (rs := [10]) (by kernel_rfl) (by simp) ?_
                  refine AllReadyH.cons rfl (fun K hK => ?_) AllReadyH.nil
                  obtain ⟨v2, z2, hrun, hg, hrow, gq, oq, cq, ev, hltz, hat⟩ := run_append_tail HOU10.out (off := r.length) (ys := r.reverse) (x := nd) (cx := 1) (by rw [List.length_reverse]; exact HNN.out.symm) rfl (half_row HOU10.out rfl) i9 hi9 hi90 hi91 hi92 29 29 Tryd.underlying29 HSRC.out (by rw [List.length_reverse]; have := HRL.out; omega)
                  rw [List.length_reverse] at hrun ev
                  subst ev
                  refine step_append_run rfl (.tmp 101) (.tmp 103) 29 rfl (by rfl) (by rfl) hrun ?_
                  have hfar : ¬ (gq = gb ∨ gq = T ∨ (Value.slice sa c.length cs).ownBlock = some gq) := by
                    rcases hat with rfl | h
                    · exact HUB.out
                    · have h1 := (HT10.out.g.lt gb rfl).2
                      have h2 := HT10.out.l.2
                      rintro (e | e | e)
                      · omega
                      · omega
                      · have h3 := (HT10.out.c.lt _ e).2; omega
                  have h5 : w5.heap.size ≤ gq := hat.elim (fun h => by rw [h]; exact (HOU10.out.lt _ rfl).1) (fun h => by have := HT10.out.b.size; omega)
                  have HB := Lib.hid (HT10.out.upd ⟨gs, by rw [mid_len]⟩ (by rw [mid_len]; exact HIL.out) HUQ.out (fun k e => by cases e; exact ⟨(HOU10.out.lt _ rfl).1, HUB.out⟩) hg (v' := .slice (some ⟨gq, oq, none⟩) (r.length + 1) cq) (row := r.reverse ++ [nd]) (i' := i + 1) (fun b e => by cases e; exact hat.elim (fun h => Or.inl (by rw [h]; rfl)) Or.inr) (fun j _ => Iff.rfl) (fun _ => ⟨hrow, fun k e => by cases e; exact ⟨h5, hltz, hfar⟩⟩) (fun h => absurd h (by omega)))
                  have g1 := HT10.out.g.kept hg (.inr (fun e => HUB.out (.inl (Option.some.inj e).symm)))
                  rw [mid_len] at g1
                  have hT2 : z2.cell? ⟨T, 1, none⟩ = some (.slice (some ⟨gb, 0, none⟩) tq.length gs) := cell_of_row _ _ 1 _ _ _ ((hg.block T HT10.out.l.2 (fun e => HUB.out (.inr (.inl (Option.some.inj e).symm)))).trans HT10.out.t)
                  have hl1 : z2.cell? ⟨gb, i, none⟩ = some (.slice (some ⟨ub, r.length, none⟩) r.length (qc - r.length)) := own_cellZ g1 HUQ.out
                  have hf1 : z2.frozen? ⟨gb, i, none⟩ = false := own_freeZ g1 _
                  clear g1 hrow hg hat hltz hrun hfar h5
                  have HA := Lib.hid (show TurnS w5 T gb (.slice sa c.length cs) (.slice (some ⟨gb, 0, none⟩) tq.length gs) c.length (labV c) _ (turnT tq (i + 1)) (i + 1) _ by have h := HB.out; rwa [List.set_set, show r.reverse ++ [nd] = turnL (tq[i]?.getD []) by rw [← HER.out, HND.out]; unfold turnL; rw [take_one HR0.out], turnT_next HIL.out] at h)
                  clear HB
                  refine hK.out _ _ ?_ (fun hHeld => ?_)
                  · exact hT2
                  clear hK K
                  try simp only [List.getElem_toArray, List.getElem_cons_succ, List.getElem_cons_zero, Act.put, List.setIfInBounds_toArray, List.set_cons_zero, List.set_cons_succ]
                  refine wpAnyH_take (i := 11) (v := .pointer (some ⟨gb, i, none⟩)) rfl (by kernel_rfl) (by kernel_rfl) (by kernel_rfl) (fun _ _ _ h => h) (Or.inl ⟨by rfl, fun W hSW => ?_⟩) hHeld ?_
                  · ((try dsimp only at hSW); go_split_ands; go_simp <;> with_reducible rfl)
                  try simp only [List.getElem_toArray, List.getElem_cons_succ, List.getElem_cons_zero, Act.put, List.setIfInBounds_toArray, List.set_cons_zero, List.set_cons_succ]
                  refine wpAnyH_ready (rs := [12]) (by kernel_rfl) (by simp) ?_
                  refine AllReadyH.cons rfl (fun K hK => ?_) AllReadyH.nil
                  try simp only [List.getElem_toArray, List.getElem_cons_succ, List.getElem_cons_zero]
                  go_simp
                  try go_wp2_with fail
                  refine hK.out _ _ ?_ (fun hHeld => ?_)
                  · exact cell_of_row _ _ 1 _ _ _ HA.out.t
                  clear hK K
                  try simp only [List.getElem_toArray, List.getElem_cons_succ, List.getElem_cons_zero, Act.put, List.setIfInBounds_toArray, List.set_cons_zero, List.set_cons_succ]
                  refine wpAnyH_done (by kernel_rfl) ?_ _
                  clear hHeld
                  go_wp2_with fail
                  go_roundw
                  case rel => exact ⟨i + 1, _, by have := HIL.out; omega, by go_num, HA⟩
                  case measure => first | (simp [intOf]; done) | (simp [intOf]; omega)
        · have e0 : i = tq.length := by omega
          subst e0
          clear hi hlt
          have HST := Lib.hid (turnT_same tq tq.length)
          have ht1 := HTV.out
          have ht0 : w8.cell? ⟨T, 0, none⟩ = some (.slice sa c.length cs) := cell_of_row _ _ 0 _ _ _ HTI.out.t
          have HRW := Lib.hid (fun a : Nat => show ((turnT tq tq.length)[a]?.getD []).length ≤ 1000000 by
            rw [turnT_at]
            split
            · have h1 := turn_len (tq[a]?.getD []); have h2 := FW.out.2.2 a; omega
            · have h2 := FW.out.2.2 a; omega)
          have HS3 := Lib.hid (fun (w : World) (h : TurnS w5 T gb (.slice sa c.length cs) (.slice ga tq.length gs) c.length (labV c) vs (turnT tq tq.length) tq.length w) =>
            solve_any w ((HU.out.below (HS5.out.on h.b).1).mono (HS5.out.on h.b).1.size) HX.out HXL.out (HT.out.on (HS5.out.on h.b).1) (lab_ownV h.c) HWC.out (h.graph (by rw [turnT_len]; exact Nat.le_refl _)) (by omega) (by rw [turnT_len]; omega) HRW.out)
          cases hsy : sysB xs c tq with
          | false =>
            have HSY := Lib.hid hsy
            have HSY2 := Lib.hid (show sysB xs c (turnT tq tq.length) = false by rw [← sysB_same xs c HST.out]; exact hsy)
            clear hsy
            go_upto_region 17 with (go_at_call 6; refine (HSV.out HZ.out.symm _ HSB.out.1).mono ?_; intro e w10 hse; obtain ⟨hb, rfl⟩ := solveE_no hse HSY.out; have HA := Lib.hid (HTI.out.on hb); clear hse hb hc0 hc1 ht0 ht1)
            have ht0 : w10.cell? ⟨T, 0, none⟩ = some (.slice sa c.length cs) := cell_of_row _ _ 0 _ _ _ HA.out.t
            have ht1 : w10.cell? ⟨T, 1, none⟩ = some (.slice ga tq.length gs) := cell_of_row _ _ 1 _ _ _ HA.out.t
            go_upto_region 18 with (go_at_call 6; refine (HS3.out _ HA.out).mono ?_; intro e w11 hse; obtain ⟨hb, rfl⟩ := solveE_no hse HSY2.out; have HSC := Lib.hid (HS5.out.on (HA.out.on hb).b); clear hse hb ht0 ht1)
            go_wp2_with (first
              | (go_at_call 7; refine (rsame17_any _ _ [] [] w11.heap.size _ (.inl ⟨⟨_, _, rfl, fun _ => rfl⟩, rfl⟩) (.inl ⟨⟨_, _, rfl, fun _ => rfl⟩, rfl⟩) (by decide) (by decide)).mono ?_; rintro e w12 ⟨rfl, d, e2⟩; rw [decide_eq_true rfl]; have HSD := Lib.hid (show SAt W _ w12 by rw [e2]; exact HSC.out.drewN d); clear e2)
              | (go_at_call 8; refine (HAW.out _ HSD.out.1).mono ?_; rintro e w14 ⟨rfl, hb6⟩; have HS14 := Lib.hid (HSD.out.on hb6); clear hb6))
            go_ret
            exact ⟨rfl, HS14.out.1⟩
          | true =>
            have HSY := Lib.hid hsy
            have HSY2 := Lib.hid (show sysB xs c (turnT tq tq.length) = true by rw [← sysB_same xs c HST.out]; exact hsy)
            have HRB := Lib.hid (sys_parts hsy).2.2.1
            clear hsy
            go_upto_region 17 with (go_at_call 6; refine (HSV.out HZ.out.symm _ HSB.out.1).mono ?_; intro e w10 hse; obtain ⟨hb, sol, kk, ma, mc, rfl, hown, hL, hsl, hok, _, _⟩ := solveE_yes hse HSY.out HRB.out HX.out; have HM := Lib.hid (lab_own (by rw [hsl]; exact hown)); have HLS := Lib.hid hL; have HSL := Lib.hid hsl; have HA := Lib.hid (HTI.out.on hb); clear hse hb hown hL hsl hok hc0 hc1 ht0 ht1)
            have ht0 : w10.cell? ⟨T, 0, none⟩ = some (.slice sa c.length cs) := cell_of_row _ _ 0 _ _ _ HA.out.t
            have ht1 : w10.cell? ⟨T, 1, none⟩ = some (.slice ga tq.length gs) := cell_of_row _ _ 1 _ _ _ HA.out.t
            go_upto_region 18 with (go_at_call 6; refine (HS3.out _ HA.out).mono ?_; intro e w11 hse; obtain ⟨hb, sol2, kk2, ma2, mc2, rfl, hown, hL, hsl, hok, _, _⟩ := solveE_yes hse HSY2.out HRB.out HX.out; have HM2 := Lib.hid (lab_own (by rw [hsl]; exact hown)); have HM1 := Lib.hid ((HM.out.below hb).mono hb.size); have HEQ := Lib.hid (least_same HRB.out HX.out HST.out HLS.out hL); have HSC := Lib.hid (HS5.out.on (HA.out.on hb).b); clear hse hb hown hL hsl hok ht0 ht1 HM)
            go_wp2_with (first
              | (go_at_call 7; refine (rsame17_any _ _ (labI sol) (labI sol2) w11.heap.size _ HM1.out HM2.out (by rw [labI_len, HSL.out]; omega) (by rw [labI_len, ← HEQ.out, HSL.out]; omega)).mono ?_; rintro e w12 ⟨rfl, d, e2⟩; rw [decide_eq_true (congrArg labI HEQ.out)]; have HSD := Lib.hid (show SAt W _ w12 by rw [e2]; exact HSC.out.drewN d); clear e2)
              | (go_at_call 8; refine (HAW.out _ HSD.out.1).mono ?_; rintro e w14 ⟨rfl, hb6⟩; have HS14 := Lib.hid (HSD.out.on hb6); clear hb6))
            go_ret
            exact ⟨rfl, HS14.out.1⟩
theorem solveTurned_all {uv cv nv : Value} {xs : List Int} {c : List (Int × Int)} {tq : List (List Int)} (W : World) (hu : Nums .u64 W.heap.size W uv xs) (hx : Wide xs) (hxl : xs.length ≤ big5) (hT : Tz W) (hv : LabRow W.heap.size W cv c) (hwc : WideL c) (hg : GraphM W.heap.size W nv tq) (hs : Small tq) (hcl : c.length ≤ 17592186044416) :
    Calls Tryd.prog 3 #[uv, .agg #[cv, nv]] W fun e V => e = .returned (.bool true) ∧ Below W.heap.size W V := by
  obtain ⟨ua, uc, rfl⟩ := hu.form
  exact solveTurned_walk W hu hx hxl hT hv hwc hg hs hcl
end Go.Proofs.YtkoofibhddkpiaaDoor
