import Derived.Test.YtkfojieiemgliaaGraX
set_option linter.unusedSimpArgs false
set_option linter.unusedVariables false
/-! graphs: the reference's walk and order -/
namespace Go.Proofs.Ytkfojieiemgliaa
open Go.RowKit
theorem GG.dfs_been (adj : Nat → List Nat) (f i : Nat) (s : GG.St) (h : s.1 i = true) : GG.dfs adj f i s = s := by
  cases f with
  | zero => rfl
  | succ f => unfold GG.dfs; rw [if_pos h]
/-- what a walk of the reference keeps -/
structure ASt (W0 : World) (n : Nat) (s : GG.St) (bv : Value) (W : World) : Prop where
  been : FlagsN W W0.heap.size n s.1
  out : W.ownsRow (W0.heap.size + 1) 3 1 bv s.2.length (intsV (s.2.map Int.ofNat))
  below : Below W0.heap.size W0 W
  size : W0.heap.size + 1 ≤ W.heap.size
theorem ASt.mark {W0 W : World} {n : Nat} {s : GG.St} {bv : Value} (h : ASt W0 n s bv W) (i : Nat) : ASt W0 n (GG.setB s.1 i, s.2) bv (W.setCell ⟨W0.heap.size, i, none⟩ (.bool true)) := by
  refine ⟨h.been.set i, ⟨h.out.1, ?_⟩, h.below.setCell (by simp) _, by simpa using h.size⟩
  rcases h.out.2 with hn | ⟨g, cap, cur, rfl, hb', hgg, rest⟩
  · exact .inl hn
  · exact .inr ⟨g, cap, cur, rfl, hb', by rw [blk_set_other _ _ _ _ (by simp; omega)]; exact hgg, rest⟩
theorem ASt.told {W0 W w1 : World} {n i : Nat} {s : GG.St} {bv v' : Value} {o : Obj} (h : ASt W0 n s bv W)
    (ho : w1.ownsRow (W0.heap.size + 1) 3 1 v' (s.2.length + 1) (intsV (s.2.map Int.ofNat) ++ [.int .i64 (i : Int)])) (hg : (W.alloc o).grownBy w1 bv.ownBlock) : ASt W0 n (s.1, s.2 ++ [i]) v' w1 := by
  have hs := h.size
  refine ⟨h.been.of_block ?_, ?_, (h.below.alloc (by omega) o).grown hg (by simp; omega) (fun k e => by have := (h.out.lt k e).1; omega), by have := hg.size; simp at this; omega⟩
  · rw [hg.block _ (by simp; omega) (fun e => by have := (h.out.lt _ e.symm).1; omega)]
    exact heap_alloc_old W o (by omega)
  · have e : (s.2 ++ [i]).length = s.2.length + 1 := by simp
    have e2 : intsV ((s.2 ++ [i]).map Int.ofNat) = intsV (s.2.map Int.ofNat) ++ [.int .i64 (i : Int)] := by simp [intsV]
    show w1.ownsRow _ _ 1 v' (s.2 ++ [i]).length (intsV ((s.2 ++ [i]).map Int.ofNat))
    rw [e, e2]; exact ho
def AfterP (W0 : World) (n : Nat) (s : GG.St) (e : Ending) (W' : World) : Prop := ∃ bv, e = .returned (.tuple #[.slice (some ⟨W0.heap.size, 0, none⟩) n n, bv]) ∧ ASt W0 n s bv W'

set_option maxRecDepth 100000 in
set_option maxHeartbeats 3200000 in
theorem after_any {W0 : World} {v : Value} {to : List (List Int)} (hr : GG.rightG to = true) (hv : GraphM W0.heap.size W0 v to) (f : Nat) : ∀ (i : Nat) (s : GG.St) (bv : Value) (W : World), i < to.length → s.1 i = false → GG.unv to.length s.1 < f → s.2.length + GG.unv to.length s.1 ≤ to.length → ASt W0 to.length s bv W →
    Calls Try.prog 33 #[v, .int .i64 i, .slice (some ⟨W0.heap.size, 0, none⟩) to.length to.length, bv] W
      fun e W' => AfterP W0 to.length (GG.dfs (GG.adjOf to) f i s) e W' := by
  induction f with
  | zero => intro i s bv W _ _ hu; exact absurd hu (Nat.not_lt_zero _)
  | succ f ih =>
    intro i s bv W hi hB hu hl hS
    have hlen := GG.right_len hr
    have hc0 := World.rowIs.cell hS.been hi
    have hf0 := World.rowIs.frozen hS.been i
    have i1 : (0 : Int) ≤ i ∧ (i : Int) < to.length := by omega
    have HM := Lib.hid (hS.mark i)
    obtain ⟨vb, vo, vc, e1⟩ := hv.addr (by omega)
    subst e1
    have hvb := hv.blk (by omega)
    have b1 : (to[i]?.getD []).length ≤ 17592186044416 := by have := GG.row_len (GG.right_at hr hi); omega
    obtain ⟨ra, rac, hx1, hrx⟩ := hv.at hi
    have HR := Lib.hid (GG.right_at hr hi)
    have HG := Lib.hid (fun (k : Nat) (hk : k < (to[i]?.getD []).length) => GG.adj_get hk)
    have HAL := Lib.hid (GG.adj_len to i)
    obtain ⟨r, er⟩ : ∃ r, r = to[i]?.getD [] := ⟨_, rfl⟩
    rw [← er] at hx1 hrx b1 HR HG HAL
    have HX1 := Lib.hid hx1
    have HRX := Lib.hid hrx
    have HU := Lib.hid (fun k => GG.part_unv (adj := GG.adjOf to) f i k s hi hB hu)
    have HLN := Lib.hid (fun k => GG.part_len (GG.adj_lt hr) f i k s hi hB hl)
    have HALL := Lib.hid (fun k => GG.part_all (GG.adjOf to) f i k s hB)
    have HIH := Lib.hid ih
    have HZ := Lib.hid (GG.part_zero (GG.adjOf to) f i s)
    obtain ⟨i0, hi0, hz0, hz1, hz2⟩ := info_parts Try.infoGInt
    clear hS hv hB ih hu hl er hrx hx1
    go_enter Try.func33, Try.ntmps33
    go_wp2_with fail
    clear hc0 hf0
    go_loopw [2, 3, 10] (fun b o k wr => ∃ q : Nat, q ≤ r.length ∧ b = .slice (some ⟨W0.heap.size, 0, none⟩) to.length to.length ∧ k = .int .i64 (q : Int) ∧ ASt W0 to.length (GG.part (GG.adjOf to) f i q s) o wr) (fun _ _ k _ => r.length - (intOf k).toNat)
    case atStart => exact ⟨0, Nat.zero_le _, rfl, rfl, by rw [HZ.out]; exact HM.out⟩
    case round =>
      obtain ⟨q, hq, rfl, rfl, hP⟩ := hrel
      have HP := Lib.hid hP
      have hx1 := (bcell HP.out.below vb (vo + i) hvb).trans HX1.out
      clear hP
      by_cases hqt : q < r.length
      · obtain ⟨xb2, xo2, e2, hx2⟩ := (HRX.out.below HP.out.below).cellAt hqt
        subst e2
        have i3 : (0 : Int) ≤ q ∧ (q : Int) < r.length := by omega
        have HX := Lib.hid (GG.row_in HR.out _ (GG.getD_mem (d := 0) hqt))
        have HST := Lib.hid (GG.part_succ (GG.adjOf to) f i q s (HG.out q hqt))
        obtain ⟨x, ex⟩ : ∃ x, x = r[q]?.getD 0 := ⟨_, rfl⟩
        rw [← ex] at hx2 HX HST
        clear ex
        obtain ⟨y, rfl⟩ : ∃ y : Nat, x = (y : Int) := ⟨x.toNat, by have := HX.out; omega⟩
        have hyn : y < to.length := by have := HX.out; omega
        have i4 : (0 : Int) ≤ (y : Int) ∧ (y : Int) < to.length := by omega
        have hcy := World.rowIs.cell HP.out.been hyn
        rw [Int.toNat_natCast] at HST
        cases hb : (GG.part (GG.adjOf to) f i q s).1 y
        · rw [hb] at hcy
          have HBY := Lib.hid hb
          clear hb
          go_wp2_with (go_at_call 33
                       refine (HIH.out y _ _ _ hyn HBY.out (HU.out q) (by have := HLN.out q; omega) HP.out).mono ?_
                       rintro e w' ⟨bv', rfl, hP'⟩
                       have HP' := Lib.hid hP'
                       clear hP')
          go_roundw
          case rel => exact ⟨q + 1, by omega, rfl, by go_num, by rw [HST.out]; exact HP'.out⟩
          case measure => simp [intOf]; omega
        · rw [hb] at hcy
          have HN := Lib.hid (show ASt W0 to.length (GG.part (GG.adjOf to) f i (q + 1) s) u3 wr by rw [HST.out, GG.dfs_been _ _ _ _ hb]; exact HP.out)
          clear hb
          go_wp2_with fail
          go_roundw
          case rel => exact ⟨q + 1, by omega, rfl, by go_num, HN.out⟩
          case measure => simp [intOf]; omega
      · have HL1 := HLN.out q
        have HE := Lib.hid (HALL.out q (by have := HAL.out; omega))
        go_wp2_with (first
        | (at_builtin
           refine GG.wpList_append_any rfl _ _ 32 rfl (W0.heap.size + 1) 3 i0 (.int .i64 0) 1 8 Try.underlying32 hi0 hz0 hz1 hz2 rfl (by decide) u3 _ _ rfl (HP.out.out.alloc _) (.slice (some ⟨wr.heap.size, 0, none⟩) 1 1) 1 [.int .i64 (i : Int)] rfl rfl (.inr ⟨_, _, rfl, GG.cell_one _ _ _⟩) (by intro u hu; rw [List.mem_singleton.1 hu]; rfl) (by unfold maxLen; omega) (by omega) (by have := HP.out.size; simp; omega) ?_
           intro v1 w1 ho hg
           have HT := Lib.hid (HP.out.told ho hg)
           clear ho hg))
        go_ret2
        exact ⟨_, rfl, by rw [HE.out]; exact HT.out⟩
end Go.Proofs.Ytkfojieiemgliaa
