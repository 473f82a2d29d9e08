import Derived.Test.YtbdmpilaeoclgaaDomT
import Derived.Test.YtbdmpilaeoclgaaDomR
set_option linter.unusedSimpArgs false
set_option linter.unusedVariables false
/-! dom: is it a tree? chains (the project) -/
namespace Go.Proofs.Ytbdmpilaeoclgaa
open Go.RowKit
theorem dnode_any (v : Value) (n : Nat) (i : Int) (w : World) (hv : ∃ a cap, v = .slice a n cap) (hn : n ≤ 17592186044416) :
    Calls Try.prog 50 #[v, .int .i64 i] w fun e w' => e = .returned (.bool (GG.inB n i)) ∧ w = w' := by
  obtain ⟨a, cap, rfl⟩ := hv
  by_cases h : 0 ≤ i ∧ i < n
  · have HS := Lib.hid (show GG.inB n i = true from decide_eq_true h)
    obtain ⟨h1, h2⟩ := h
    go_enter Try.func50, Try.ntmps50
    go_wp2_with fail
    go_ret
    exact ⟨ret_bool HS.out.symm, rfl⟩
  · have HS := Lib.hid (show GG.inB n i = false from decide_eq_false h)
    by_cases h1 : 0 ≤ i
    · have h2 : ¬ i < n := fun h2 => h ⟨h1, h2⟩
      clear h
      go_enter Try.func50, Try.ntmps50
      go_wp2_with fail
      go_ret
      exact ⟨ret_bool HS.out.symm, rfl⟩
    · clear h
      go_enter Try.func50, Try.ntmps50
      go_wp2_with fail
      go_ret
      exact ⟨ret_bool HS.out.symm, rfl⟩
def zeros : Array Value := Array.replicate 256 (.int .i64 0)
theorem info63 : (Try.prog.info? 63).map (fun i => (i.zero, i.size)) = some (some (.agg zeros), 256) := by kernel_rfl
theorem run_zero63 (w : World) : (zeroValue 63).run Try.prog w = .ok (.agg zeros) w := by
  have h := info63
  cases hi : Try.prog.info? 63 with
  | none => rw [hi] at h; cases h
  | some i =>
    rw [hi] at h
    simp only [Option.map_some, Option.some.injEq, Prod.mk.injEq] at h
    simp [zeroValue, typeInfo, hi, h.1]
/-- 256 numbers -/
def Marks256 (W : World) (g : Nat) (f : Nat → Int) : Prop := W.rowIs g 63 256 (fun i => .int .i64 (f i))
theorem Marks256.set {W : World} {g : Nat} {f : Nat → Int} (h : Marks256 W g f) (i : Nat) (c : Int) : Marks256 (W.setCell ⟨g, i, none⟩ (.int .i64 c)) g (DD.setI f i c) := by
  refine World.rowIs.congr (World.rowIs.set h i (.int .i64 c)) (fun j _ => ?_)
  unfold DD.setI
  by_cases e : j = i <;> simp [e]
theorem marks_new (W : World) : Marks256 (W.alloc (.cells zeros 63)) W.heap.size (fun _ => 0) := by
  have h := World.rowIs_alloc W zeros 63 (fun _ => .int .i64 0) (fun i hi => by unfold zeros at hi ⊢; rw [Array.size_replicate] at hi; simp [hi])
  have e : zeros.size = 256 := by simp [zeros]
  rw [e] at h
  exact h
set_option maxRecDepth 100000 in
set_option maxHeartbeats 3200000 in
theorem dright_any (v : Value) (xs : List Int) (w : World) (hv : Row w.heap.size w v xs) (hx : xs.length ≤ 17592186044416) :
    Calls Try.prog 49 #[v] w fun e w' => e = .returned (.bool (DD.treeB xs)) ∧ Below w.heap.size w w' := by
  have HV := Lib.hid hv
  obtain ⟨va, vc, rfl⟩ := hv.form
  clear hv
  by_cases hl : 1 ≤ xs.length ∧ xs.length ≤ 256
  · obtain ⟨hl1, hl2⟩ := hl
    obtain ⟨vb, vo, rfl, hc0⟩ := HV.out.cellAt (show 0 < xs.length by omega)
    rw [← DD.fnOf_at (show 0 < xs.length by omega), Nat.add_zero] at hc0
    have hz := fun (w : World) => run_zero63 w
    by_cases h0 : DD.fnOf xs 0 = -1
    · have H0 := Lib.hid h0
      have hn0 : (DD.fnOf xs 0 != -1) = false := by rw [h0]; rfl
      have i1 : (0 : Int) < xs.length := by omega
      have HM0 := Lib.hid (marks_new w)
      have HB0 := Lib.hid ((Below.refl w.heap.size w).alloc (Nat.le_refl _) (.cells zeros 63))
      clear h0
      go_enter Try.func49, Try.ntmps49
      go_wp2_with fail
      clear hz
      go_loopw [4] (fun k wr => ∃ (i : Nat) (f : Nat → Int), 1 ≤ i ∧ i ≤ xs.length ∧ k = .int .i64 (i : Int) ∧ Marks256 wr w.heap.size f ∧ Below w.heap.size w wr ∧ RowKit.Hid (DD.MK xs i f)) (fun k _ => xs.length - (intOf k).toNat)
      case atStart => exact ⟨1, fun _ => 0, Nat.le_refl _, hl1, rfl, HM0.out, HB0.out, Lib.hid (DD.mk_first xs)⟩
      case round =>
        obtain ⟨i, f, hi1, hi, rfl, hM, hB, HK⟩ := hrel
        clear HM0 HB0
        by_cases hlt : i < xs.length
        · have HM := Lib.hid hM
          have HB := Lib.hid hB
          have HIB := Lib.hid (HK.out.begin hi1)
          clear hM hB
          go_wp2_with fail
          go_loopg [5] (DD.freeN xs.length f) (fun gn k wr => ∃ (j : Nat) (f : Nat → Int), j < xs.length ∧ k = .int .i64 (j : Int) ∧ Marks256 wr w.heap.size f ∧ Below w.heap.size w wr ∧ RowKit.Hid (DD.MI xs i j f ∧ gn = DD.freeN xs.length f))
          case atStart => exact ⟨i, f, hlt, rfl, HM.out, HB.out, Lib.hid ⟨HIB.out, rfl⟩⟩
          case round =>
            obtain ⟨j, f, hj, rfl, hM2, hB2, HH⟩ := hrel
            clear HM HB HIB HK
            have HM2 := Lib.hid hM2
            have HB2 := Lib.hid hB2
            clear hM2 hB2
            have hcj := World.rowIs.cell HM2.out (show j < 256 by omega)
            have i2 : (0 : Int) ≤ j ∧ (j : Int) < 256 := by omega
            have i3 : (0 : Int) ≤ j ∧ (j : Int) < xs.length := by omega
            by_cases hgo : j ≠ 0 ∧ f j = 0
            · have hfj := World.rowIs.frozen HM2.out j
              obtain ⟨vb2, vo2, e2, hct⟩ := (HV.out.below HB2.out).cellAt hj
              cases e2
              rw [← DD.fnOf_at hj] at hct
              have h1 : ((j : Int) != 0) = true := by rw [bne_iff_ne]; have := hgo.1; omega
              have h2 : (f j == 0) = true := by rw [hgo.2]; rfl
              have HM3 := Lib.hid (HM2.out.set j (i : Int))
              have HB3 := Lib.hid (HB2.out.setCell (p := ⟨w.heap.size, j, none⟩) (Nat.le_refl _) (.int .i64 i))
              have HFR := Lib.hid (DD.freeN_set (c := (i : Int)) hj hgo.2 (by omega))
              have HST := Lib.hid (fun (j' : Nat) (e : DD.fnOf xs j = (j' : Int)) => HH.out.1.step hi1 hgo.1 hgo.2 hj e)
              have hct3 : (wr.setCell ⟨w.heap.size, j, none⟩ (.int .i64 i)).cell? ⟨vb, vo + j, none⟩ = some (.int .i64 (DD.fnOf xs j)) := by
                rw [World.cell?_setCell_other _ _ _ _ (fun e => by
                  have hb := HV.out
                  rcases hb with ⟨_, e2⟩ | ⟨b3, o3, c3, e3, hb3, _⟩
                  · have : (intsV xs).length = 0 := by rw [e2]; rfl
                    rw [intsV_len] at this; omega
                  · simp at e3 e; omega)]
                exact hct
              have HGN := Lib.hid HH.out.2
              cases hin : GG.inB xs.length (DD.fnOf xs j)
              · have HIN := Lib.hid hin
                have HS := Lib.hid (show DD.treeB xs = false from DD.treeB_no (fun ht => by rw [ht.node hj hgo.1] at hin; cases hin))
                clear hin hgo hct HH
                go_wp2_with (go_at_call 50; refine (dnode_any _ xs.length _ _ ⟨_, _, rfl⟩ hx).mono ?_; rintro e w5 ⟨rfl, rfl⟩; rw [HIN.out])
                go_ret
                exact ⟨ret_bool HS.out.symm, HB3.out⟩
              · have HIN := Lib.hid hin
                have hin2 := of_decide_eq_true hin
                obtain ⟨y, hy⟩ : ∃ y : Nat, DD.fnOf xs j = (y : Int) := ⟨(DD.fnOf xs j).toNat, by omega⟩
                have HN := Lib.hid (HST.out y hy)
                rw [hy] at HIN hct3
                have hyn : y < xs.length := by omega
                clear hin hgo hct HH hin2 hy HST
                go_wp2_with (go_at_call 50; refine (dnode_any _ xs.length _ _ ⟨_, _, rfl⟩ hx).mono ?_; rintro e w5 ⟨rfl, rfl⟩; rw [HIN.out])
                go_roundg (DD.freeN xs.length (DD.setI f j (i : Int)))
                case measure => have := HGN.out; have := HFR.out; omega
                case rel => exact ⟨y, _, hyn, rfl, HM3.out, HB3.out, Lib.hid ⟨HN.out, rfl⟩⟩
            · have hex : j = 0 ∨ f j ≠ 0 := by
                by_cases e : j = 0
                · exact .inl e
                · exact .inr (fun e2 => hgo ⟨e, e2⟩)
              by_cases hri : f j = (i : Int)
              · have HS := Lib.hid (show DD.treeB xs = false from DD.treeB_no (HH.out.1.ring hi1 hri))
                have hj0 : ((j : Int) != 0) = true := by
                  rw [bne_iff_ne]; intro e
                  have := HH.out.1.zero
                  rw [show j = 0 by omega] at hri; omega
                have h2 : (f j == 0) = false := by rw [hri]; exact beq_eq_false_iff_ne.2 (by omega)
                have h3 : (f j == (i : Int)) = true := by rw [hri]; exact beq_self_eq_true _
                clear hgo hex hri HH
                go_wp2_with fail
                go_ret
                exact ⟨ret_bool HS.out.symm, HB2.out⟩
              · have HN := Lib.hid (HH.out.1.next hi1 hex hri)
                have h3 : (f j == (i : Int)) = false := beq_eq_false_iff_ne.2 hri
                by_cases e0 : j = 0
                · subst e0
                  have h1 : (((0 : Nat) : Int) != 0) = false := rfl
                  clear hgo hex hri HH
                  go_wp2_with fail
                  go_roundw
                  case rel => exact ⟨i + 1, f, by omega, by omega, by go_num, HM2.out, HB2.out, HN⟩
                  case measure => simp [intOf]; omega
                · have h1 : ((j : Int) != 0) = true := by rw [bne_iff_ne]; omega
                  have h2 : (f j == 0) = false := beq_eq_false_iff_ne.2 (fun e => hgo ⟨e0, e⟩)
                  clear hgo hex hri HH
                  go_wp2_with fail
                  go_roundw
                  case rel => exact ⟨i + 1, f, by omega, by omega, by go_num, HM2.out, HB2.out, HN⟩
                  case measure => simp [intOf]; omega
        · have HS := Lib.hid (show DD.treeB xs = true from DD.treeB_iff.2 (HK.out.tree (by omega) ⟨hl1, hl2⟩ H0.out))
          have HB := Lib.hid hB
          clear hB hM
          go_wp2_with fail
          go_ret
          exact ⟨ret_bool HS.out.symm, HB.out⟩
    · have HS := Lib.hid (show DD.treeB xs = false from DD.treeB_no (fun ht => h0 ht.2.1))
      have hn0 : (DD.fnOf xs 0 != -1) = true := bne_iff_ne.2 h0
      have i1 : (0 : Int) < xs.length := by omega
      clear h0
      go_enter Try.func49, Try.ntmps49
      go_wp2_with fail
      go_ret
      exact ⟨ret_bool HS.out.symm, Below.refl _ _⟩
  · have HS := Lib.hid (show DD.treeB xs = false from DD.treeB_no (fun ht => hl ht.1))
    by_cases h1 : 1 ≤ xs.length
    · have h2 : ¬ xs.length ≤ 256 := fun h2 => hl ⟨h1, h2⟩
      clear hl
      go_enter Try.func49, Try.ntmps49
      go_wp2_with fail
      go_ret
      exact ⟨ret_bool HS.out.symm, Below.refl _ _⟩
    · clear hl
      go_enter Try.func49, Try.ntmps49
      go_wp2_with fail
      go_ret
      exact ⟨ret_bool HS.out.symm, Below.refl _ _⟩
end Go.Proofs.Ytbdmpilaeoclgaa
