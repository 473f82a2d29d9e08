import Derived.Test.YtbelhoeailjkkaaGraV
import Derived.Laws.EntriesVeiled
import Derived.Deep.RegionLaw
import Derived.Deep.RegionHeld3
import Derived.Great.BuildSlice
set_option linter.unusedSimpArgs false
set_option linter.unusedVariables false
/-! graphs: walks from several -/
namespace Go.Proofs.Ytbelhoeailjkkaa
open Go.RowKit
/-- the walks from the first q of some nodes -/
def runT (adj : Nat → List Nat) (l : List Int) (q : Nat) : GG.St := GG.runF 257 adj ((l.take q).map Int.toNat)
theorem runT_zero (adj : Nat → List Nat) (l : List Int) : runT adj l 0 = ((fun _ => false), []) := by simp [runT, GG.runF]
theorem runT_succ (adj : Nat → List Nat) {l : List Int} {q : Nat} (hq : q < l.length) : runT adj l (q + 1) = GG.dfs adj 257 (l[q]?.getD 0).toNat (runT adj l q) := by
  unfold runT GG.runF
  rw [List.take_succ_eq_append_getElem hq, List.getElem?_eq_getElem hq, List.map_append, List.foldl_append]
  rfl
theorem runT_all (adj : Nat → List Nat) {l : List Int} {q : Nat} (hq : l.length ≤ q) : runT adj l q = GG.runG adj (l.map Int.toNat) := by
  unfold runT GG.runG
  rw [List.take_of_length_le hq]
theorem runT_len {to : List (List Int)} (hr : GG.rightG to = true) {l : List Int} (hl : ∀ x ∈ l, 0 ≤ x ∧ x < to.length) (q : Nat) : (runT (GG.adjOf to) l q).2.length + GG.unv to.length (runT (GG.adjOf to) l q).1 ≤ to.length := by
  have := GG.fold_len (GG.adj_lt hr) 257 ((l.take q).map Int.toNat) ((fun _ => false), []) 0 (fun j hj => by
    obtain ⟨x, hx, rfl⟩ := List.mem_map.1 hj
    have := hl x (List.mem_of_mem_take hx)
    omega) (by have := GG.unv_le to.length (fun _ => false); show 0 + GG.unv to.length (fun _ => false) + 0 ≤ to.length; omega)
  exact this
theorem vst_new (W : World) (v : Value) : VSt W.heap.size W v ((fun _ => false), []) ((((W.alloc (.cells #[v] 22)).alloc (.cells falses 48)).alloc (.cells #[.slice none 0 0] 28)).alloc (.cells #[.func (.func 40) #[] #[.pointer (some ⟨W.heap.size + 1, 0, none⟩), .pointer (some ⟨W.heap.size, 0, none⟩), .pointer (some ⟨W.heap.size + 1 + 1 + 1, 0, none⟩), .pointer (some ⟨W.heap.size + 1 + 1, 0, none⟩)]] 53)) := by
  refine ⟨?_, ?_, ⟨.slice none 0 0, ?_, World.ownsRow_nil _ _ _ _⟩, ?_, ?_, ?_⟩
  · rw [heap_alloc_old _ _ (by simp; omega), heap_alloc_old _ _ (by simp; omega), heap_alloc_old _ _ (by simp), heap_alloc_new]
  · have h := flags_new (W.alloc (.cells #[v] 22))
    rw [show (W.alloc (.cells #[v] 22)).heap.size = W.heap.size + 1 by simp] at h
    refine h.of_block ?_
    rw [heap_alloc_old _ _ (by simp), heap_alloc_old _ _ (by simp)]
  · rw [heap_alloc_old _ _ (by simp)]
    have := heap_alloc_new ((W.alloc (.cells #[v] 22)).alloc (.cells falses 48)) (.cells #[.slice none 0 0] 28)
    simpa using this
  · have := heap_alloc_new (((W.alloc (.cells #[v] 22)).alloc (.cells falses 48)).alloc (.cells #[.slice none 0 0] 28)) (.cells #[.func (.func 40) #[] #[.pointer (some ⟨W.heap.size + 1, 0, none⟩), .pointer (some ⟨W.heap.size, 0, none⟩), .pointer (some ⟨W.heap.size + 1 + 1 + 1, 0, none⟩), .pointer (some ⟨W.heap.size + 1 + 1, 0, none⟩)]] 53)
    simpa using this
  · exact ((((Below.refl _ _).alloc (Nat.le_refl _) _).alloc (by simp) _).alloc (by simp; omega) _).alloc (by simp; omega) _
  · simp
theorem world_heap {w' : World} (w : World) (h : w' = { w with heap := w'.heap }) (e : w'.heap = w.heap) : w' = w := by
  rw [e] at h; exact h
/-- a row that is stored where it lies -/
theorem setRow_same {w : World} {g : Nat} {cs : Array Value} {t : TypeId} {fr : Nat × Nat} (hg : w.heap[g]? = some (.cells cs t fr)) : w.setRow g cs = w := by
  have e : (w.setRow g cs).heap = w.heap := by
    apply Array.ext_getElem?
    intro k
    by_cases h : k = g
    · subst h
      rw [setRow_heap w k cs cs t fr hg, hg]
    · simp only [World.setRow, Array.getElem?_modify]
      rw [if_neg (fun e => h e.symm)]
  exact world_heap (w' := w.setRow g cs) w rfl e
theorem load_row_run {o : Oper} {a : Act} {w : World} (x : Operand) (ho : o.op = .load 48 x)
    (g : Nat) (hx : a.eval x = .pointer (some ⟨g, 0, none⟩)) (t : TypeId) (cs : Array Value) (fr : Nat × Nat) (hg : w.heap[g]? = some (.cells cs t fr)) (hn : cs.size = 256) :
    (execOp a.eval o).run Try.prog w = .ok (.value (.agg cs)) w := by
  unfold execOp
  simp only [ho, hx, Instr.loadAt, Instr.sureAddr, Sem.run_bind, Sem.run_pure, Result.andThen_ok, run_loadVar_row w g t 48 cs fr _ hg Try.underlying48 rfl (by rw [hn]; kernel_rfl)]
theorem load_one_run {o : Oper} {a : Act} {w : World} (x : Operand) (ho : o.op = .load 28 x)
    (g : Nat) (hx : a.eval x = .pointer (some ⟨g, 0, none⟩)) (v : Value) (hg : w.heap[g]? = some (.cells #[v] 28 (0, 0))) :
    (execOp a.eval o).run Try.prog w = .ok (.value v) w := by
  have hc := cell_of_one hg
  unfold execOp
  simp only [ho, hx]
  go_simp
theorem load_var_one {w : World} {g : Nat} {v : Value} (hg : w.heap[g]? = some (.cells #[v] 28 (0, 0))) : (loadVar 28 ⟨g, 0, none⟩).run Try.prog w = .ok v w := by
  have hc := cell_of_one hg
  go_simp
theorem own_base {W : World} {B B' e size n : Nat} {v : Value} {xs : List Value} (h : B' ≤ B) (g : W.ownsRow B e size v n xs) : W.ownsRow B' e size v n xs :=
  ⟨g.1, g.2.imp id fun ⟨b, cap, cur, e, hb, r⟩ => ⟨b, cap, cur, e, Nat.le_trans h hb, r⟩⟩
theorem wp_store_same {o : Oper} {a : Act} {w : World} {K : Act → World → Prop} {Q : Exit → Act → World → Prop} (x y : Operand) (ho : o.op = .store 28 x y)
    (g : Nat) (v : Value) (hx : a.eval x = .pointer (some ⟨g, 0, none⟩)) (hy : a.eval y = v) (hg : w.heap[g]? = some (.cells #[v] 28 (0, 0))) (h1 : v.oneCell' = true)
    (h : K (a.put o.dst undef) w) : o.wp Try.prog a w K Q := by
  unfold Oper.wp execOp
  simp only [ho, hx, hy, Instr.storeAt, Instr.sureAddr, Sem.run_bind, Sem.run_pure, Result.andThen_ok, run_storeVar_one (P := Try.prog) w g 28 28 v v hg (by kernel_rfl) h1]
  rw [setRow_same hg]
  exact h
/-- what a walk hands back -/
def WalkP (B : Nat) (s : GG.St) (e : Ending) (W W' : World) : Prop :=
  ∃ (cs : Array Value) (bv : Value), e = .returned (.tuple #[.agg cs, bv]) ∧ cs.size = 256 ∧ (∀ i, i < 256 → cs[i]? = some (.bool (s.1 i))) ∧ W'.ownsRow B 3 1 bv s.2.length (intsV (s.2.map Int.ofNat)) ∧ B ≤ W'.heap.size ∧ Below B W W'

set_option maxRecDepth 100000 in
set_option maxHeartbeats 1600000 in
theorem walk_any {v : Value} {to : List (List Int)} (u : Value) (l : List Int) (W : World) (hr : GG.rightG to = true) (hv : GraphM W.heap.size W v to) (hu : Row W.heap.size W u l) (hll : l.length ≤ 17592186044416) (hl : ∀ x ∈ l, 0 ≤ x ∧ x < to.length) :
    Calls Try.prog 34 #[v, u] W fun e W' => WalkP W.heap.size (GG.runG (GG.adjOf to) (l.map Int.toNat)) e W W' := by
  obtain ⟨ua, uc, rfl⟩ := hu.form
  obtain ⟨vb, vo, vc, rfl⟩ := hv.addr (by have := GG.right_len hr; omega)
  have hz := fun (w : World) => run_zero46 w
  have hmf : ∀ (fn : Fn) (first cap : Array Value) (w : World), (Instr.makeFunc fn first cap).run Try.prog w = .ok (.func fn first cap) w := fun _ _ _ _ => rfl
  have HU := Lib.hid hu
  have HV := Lib.hid hv
  have HL := Lib.hid hl
  have HLN := Lib.hid (fun q => runT_len hr hl q)
  have HALL := Lib.hid (fun q (hq : l.length ≤ q) => runT_all (GG.adjOf to) hq)
  have HNW := Lib.hid (vst_new W (.slice (some ⟨vb, vo, none⟩) to.length vc))
  have HR := Lib.hid hr
  clear hu hv hl hr
  go_enter Try.func34, Try.ntmps34
  go_wp2_with fail
  go_loopw [12] (fun k wr => ∃ q : Nat, q ≤ l.length ∧ k = .int .i64 (q : Int) ∧ VSt W.heap.size W (.slice (some ⟨vb, vo, none⟩) to.length vc) (runT (GG.adjOf to) l q) wr) (fun k _ => l.length - (intOf k).toNat)
  case atStart => exact ⟨0, Nat.zero_le _, rfl, by rw [runT_zero]; exact HNW.out⟩
  case round =>
    obtain ⟨q, hq, rfl, hS⟩ := hrel
    have HS := Lib.hid hS
    clear hS
    by_cases hqt : q < l.length
    · have hcv : wr.cell? ⟨W.heap.size + 1 + 1 + 1, 0, none⟩ = _ := cell_of_one HS.out.vis
      obtain ⟨xb, xo, rfl, hx⟩ := (HU.out.below HS.out.below).cellAt hqt
      have i1 : (0 : Int) ≤ q ∧ (q : Int) < l.length := by omega
      have HX := Lib.hid (HL.out _ (GG.getD_mem (d := 0) hqt))
      have HST := Lib.hid (runT_succ (GG.adjOf to) hqt)
      obtain ⟨x, ex⟩ : ∃ x, x = l[q]?.getD 0 := ⟨_, rfl⟩
      rw [← ex] at hx HX HST
      clear ex
      obtain ⟨y, rfl⟩ : ∃ y : Nat, x = (y : Int) := ⟨x.toNat, by have := HX.out; omega⟩
      have HY := Lib.hid (show y < to.length by have := HX.out; omega)
      go_wp2_with (go_at_call 40; refine (visit_any rfl HR.out HV.out 257 y _ _ HY.out (by have := GG.unv_le to.length (runT (GG.adjOf to) l q).1; have := GG.right_len HR.out; omega) (HLN.out q) HS.out).mono ?_; rintro e w' ⟨rfl, hP'⟩; have HP' := Lib.hid hP'; clear hP')
      go_roundw
      case rel => exact ⟨q + 1, by omega, by go_num, by rw [HST.out, Int.toNat_natCast]; exact HP'.out⟩
      case measure => simp [intOf]; omega
    · have HE := Lib.hid (HALL.out q (by omega))
      obtain ⟨cs, hcs, hcn, hci⟩ := HS.out.been
      obtain ⟨bv, hbb, hbr⟩ := HS.out.beh
      have HCS := Lib.hid hcs
      have HCI := Lib.hid hci
      have HBB := Lib.hid hbb
      have HBR := Lib.hid hbr
      have HONE := Lib.hid (show cs.all (·.oneCell') = true by
        rw [Array.all_eq_true]
        intro i hi
        have := HCI.out i (by omega)
        rw [Array.getElem?_eq_getElem hi] at this
        rw [Option.some.inj this]; rfl)
      clear hcs hci hbb hbr
      have hcb : wr.cell? ⟨W.heap.size + 1 + 1, 0, none⟩ = some bv := cell_of_one HBB.out
      have hfb : wr.frozen? ⟨W.heap.size + 1 + 1, 0, none⟩ = false := free_of_one HBB.out
      have HCN := Lib.hid hcn
      clear hcn hz hmf
      obtain ⟨ba, bc, rfl⟩ := GG.own_slice HBR.out
      go_wp2_with fail
      refine wp_region_held_drew (S := fun V => V.Alike wr) (by kernel_rfl) ⟨rfl, rfl, rfl⟩ (fun hHeld => ?_)
      refine wpAnyH_take (i := 0) (v := .agg cs) rfl (by kernel_rfl) (by kernel_rfl) (by kernel_rfl) (fun _ _ _ h => h) (Or.inl ⟨by rfl, fun V hV => ?_⟩) hHeld ?_
      · exact load_row_run (.tmp 4) rfl (W.heap.size + 1) rfl 48 cs (0, 0) ((congrArg (·[W.heap.size + 1]?) hV.1).trans HCS.out) HCN.out
      try simp only [List.getElem_toArray, List.getElem_cons_succ, List.getElem_cons_zero, Act.put, List.setIfInBounds_toArray, List.set_cons_zero, List.set_cons_succ]
      refine wpAnyH_take (i := 1) (v := .slice ba (runT (GG.adjOf to) l q).2.length bc) rfl (by kernel_rfl) (by kernel_rfl) (by kernel_rfl) (fun _ _ _ h => h) (Or.inl ⟨by rfl, fun V hV => ?_⟩) hHeld ?_
      · exact load_one_run (.tmp 5) rfl (W.heap.size + 1 + 1) rfl _ ((congrArg (·[W.heap.size + 1 + 1]?) hV.1).trans HBB.out)
      try simp only [List.getElem_toArray, List.getElem_cons_succ, List.getElem_cons_zero, Act.put, List.setIfInBounds_toArray, List.set_cons_zero, List.set_cons_succ]
      refine wpAnyH_ready (rs := [2]) (by kernel_rfl) (by simp) ?_
      refine AllReadyH.cons rfl (fun K hK => ?_) AllReadyH.nil
      try simp only [List.getElem_toArray, List.getElem_cons_succ, List.getElem_cons_zero]
      rw [if_pos (by rfl)]
      refine wp_store_row 48 (.tmp 4) (.tmp 20) rfl (W.heap.size + 1) cs rfl rfl 48 cs HCS.out (by rw [HCN.out]; kernel_rfl) rfl HONE.out ?_
      rw [setRow_same (w := wr.drew) HCS.out]
      refine hK.out _ _ hHeld (fun hHeld => ?_)
      clear hK K
      try simp only [List.getElem_toArray, List.getElem_cons_succ, List.getElem_cons_zero, Act.put, List.setIfInBounds_toArray, List.set_cons_zero, List.set_cons_succ]
      refine wpAnyH_ready (rs := [3]) (by kernel_rfl) (by simp) ?_
      refine AllReadyH.cons rfl (fun K hK => ?_) AllReadyH.nil
      try simp only [List.getElem_toArray, List.getElem_cons_succ, List.getElem_cons_zero]
      rw [if_pos (by rfl)]
      refine wp_store_same (.tmp 5) (.tmp 21) rfl (W.heap.size + 1 + 1) _ rfl rfl HBB.out rfl ?_
      refine hK.out _ _ hHeld (fun hHeld => ?_)
      clear hK K
      try simp only [List.getElem_toArray, List.getElem_cons_succ, List.getElem_cons_zero, Act.put, List.setIfInBounds_toArray, List.set_cons_zero, List.set_cons_succ]
      refine wpAnyH_done (by kernel_rfl) ?_ _
      go_wp2_with fail
      have HCS' := Lib.hid (show wr.drew.heap[W.heap.size + 1]? = _ from HCS.out)
      refine bodyPost_ret (v := .tuple #[.agg cs, .slice ba (runT (GG.adjOf to) l q).2.length bc]) ?_ rfl ?_
      · have h1 := run_loadVar_row (P := Try.prog) wr.drew (W.heap.size + 1) 48 48 cs (0, 0) _ HCS.out Try.underlying48 rfl (by rw [HCN.out]; kernel_rfl)
        simp only [results, Try.results34]
        have h2 : (loadVar 28 ⟨W.heap.size + 1 + 1, 0, none⟩).run Try.prog wr.drew = .ok (.slice ba (runT (GG.adjOf to) l q).2.length bc) wr.drew := load_var_one (w := wr.drew) HBB.out
        simp [asAddr, h1, h2]
      · exact ⟨cs, _, rfl, HCN.out, by rw [← HE.out]; exact HCI.out, by rw [← HE.out]; exact own_base (by omega) HBR.out, HS.out.below.size, HS.out.below.drew⟩
end Go.Proofs.Ytbelhoeailjkkaa
