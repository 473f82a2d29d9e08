import Derived.Test.YtaaicmldldkhhaaDoorLatK
import Derived.Test.YtaaicmldldkhhaaDoorLatD
import Derived.StillTailTactics
import Derived.Deep.QuietTactic
import Derived.BigQuiet
set_option linter.unusedSimpArgs false
set_option linter.unusedVariables false
/-! the walk of layer 5's reference: Height -/
namespace Go.Proofs.YtaaicmldldkhhaaDoor
open Go.RowKit

theorem Tryd.infoInt5 : (Tryd.prog.info? 3).map (fun i => (i.zero, i.size, i.bytes)) = some (some (.int .i64 0), 1, 8) := by kernel_rfl
/-- the call's own row of numbers -/
def RowN (g n : Nat) (M : List Nat) (w : World) : Prop := w.ownsRow g 3 1 (.slice (some ⟨g, 0, none⟩) n n) n (M.map fun (m : Nat) => Value.int .i64 (m : Int))
theorem RowN.made (w : World) (n : Nat) (hn : n ≤ maxLen) : RowN w.heap.size n (List.replicate n 0) (w.alloc (.cells (madeCells #[Value.int .i64 0] n) 3)) := by
  have h := World.ownsRow_lit (base := w.heap.size) (e := 3) (size := 1) w (madeCells #[Value.int .i64 0] n) n (Nat.le_refl _) hn (by rw [size_madeCells]; omega)
  rw [toList_madeCells_one] at h
  unfold RowN
  rw [List.map_replicate]
  exact h
theorem RowN.cell {g n : Nat} {M : List Nat} {w : World} (h : RowN g n M w) (hl : M.length = n) {i : Nat} (hi : i < n) : w.cell? ⟨g, i, none⟩ = some (.int .i64 ((M[i]?.getD 0 : Nat) : Int)) := by
  have := World.ownsRow.cellAt h i (by omega)
  rw [this, List.getElem?_map, List.getElem?_eq_getElem (by omega)]
  rfl
theorem RowN.frozen {g n : Nat} {M : List Nat} {w : World} (h : RowN g n M w) (i : Nat) : w.frozen? ⟨g, i, none⟩ = false := World.ownsRow.frozenAt h i
theorem RowN.set {g n : Nat} {M : List Nat} {w : World} (h : RowN g n M w) (i x : Nat) : RowN g n (M.set i x) (w.setCell ⟨g, i, none⟩ (.int .i64 (x : Int))) := by
  have := (World.ownsRow.stored h i (.int .i64 (x : Int))).1
  unfold RowN
  rw [List.map_set]
  exact this
theorem RowN.drewN {g n : Nat} {M : List Nat} {w : World} (h : RowN g n M w) (d : Nat) : RowN g n M (w.drewN d) := h

set_option maxRecDepth 100000 in
set_option maxHeartbeats 1600000 in
theorem rheight_any (v : Value) (xs : List Int) (n₀ : Nat) (w : World) (hv : Nums .u64 n₀ w v xs) (hb : n₀ ≤ w.heap.size) (hx : Wide xs) (ho : LL.ordB xs = true) :
    Calls Tryd.prog 29 #[v] w fun e w' => e = .returned (.int .i64 (LL.heightN xs : Int)) ∧ Below w.heap.size w w' := by
  have hl := LL.ord_len ho
  have hmk := run_make_row' (P := Tryd.prog) 59 3 (.int .i64 0) 8 Tryd.underlying59 Tryd.infoInt5 rfl .i64 .i64 xs.length (by omega) (by omega)
  have HV := Lib.hid hv
  have HX := Lib.hid hx
  have HO := Lib.hid ho
  obtain ⟨_, cap, rfl⟩ := hv.form
  obtain ⟨l1, l2⟩ := hl
  have hR0 := RowN.made w xs.length (by unfold maxLen; omega)
  have hB0 : Below w.heap.size w (w.alloc (.cells (madeCells #[Value.int .i64 0] xs.length) 3)) := (Below.refl _ _).alloc (Nat.le_refl _) _
  clear hv hx ho
  go_enter Tryd.func29, Tryd.ntmps29
  go_wp2_with fail
  clear hmk
  go_loopw [4] (fun i wr => ∃ (r : Nat) (M : List Nat), r ≤ xs.length ∧ i = .int .i64 (r : Int) ∧ RowN w.heap.size xs.length M wr ∧ Below w.heap.size w wr ∧ RowKit.Hid (LL.HInv xs r M)) (fun i _ => xs.length - (intOf i).toNat)
  case atStart => exact ⟨0, _, Nat.zero_le _, rfl, hR0, hB0, Lib.hid (LL.hinv_start xs)⟩
  case round =>
    obtain ⟨r, M, hr, rfl, hR, hB, HI⟩ := hrel
    clear hR0 hB0
    by_cases hrn : r < xs.length
    · go_wp2_with fail
      go_loopw [5] (fun i wr => ∃ (a : Nat) (M : List Nat), a ≤ xs.length ∧ i = .int .i64 (a : Int) ∧ RowN w.heap.size xs.length M wr ∧ Below w.heap.size w wr ∧ RowKit.Hid (LL.HInvA xs r a M)) (fun i _ => xs.length - (intOf i).toNat)
      case atStart => exact ⟨0, M, Nat.zero_le _, rfl, hR, hB, Lib.hid ⟨HI.out, fun i hi => absurd hi (Nat.not_lt_zero _)⟩⟩
      case round =>
        obtain ⟨a, M, ha, rfl, hR3, hB3, HA⟩ := hrel
        clear hR hB HI
        by_cases han : a < xs.length
        · go_wp2_with fail
          go_loopw [6] (fun i wr => ∃ (b : Nat) (M : List Nat), b ≤ xs.length ∧ i = .int .i64 (b : Int) ∧ RowN w.heap.size xs.length M wr ∧ Below w.heap.size w wr ∧ RowKit.Hid (LL.HInvB xs r a b M)) (fun i _ => xs.length - (intOf i).toNat)
          case atStart => exact ⟨0, M, Nat.zero_le _, rfl, hR3, hB3, Lib.hid ⟨HA.out, fun j hj => absurd hj (Nat.not_lt_zero _)⟩⟩
          case round =>
            obtain ⟨b, M, hbb, rfl, hR4, hB4, HH⟩ := hrel
            clear hR3 hB3 HA
            by_cases hbn : b < xs.length
            · have HR := Lib.hid hR4
              have HVr := Lib.hid (HV.out.below (hB4.mono hb))
              have hlen : M.length = xs.length := HH.out.1.1.1
              have hca := hR4.cell hlen han
              have hcb := hR4.cell hlen hbn
              have hfa := hR4.frozen a
              have hba : M[a]?.getD 0 ≤ 64 := by have h1 := HH.out.1.1.2.1 a han; have h2 := LL.long_bd HO.out HX.out han; omega
              have hbbd : M[b]?.getD 0 ≤ 64 := by have h1 := HH.out.1.1.2.1 b hbn; have h2 := LL.long_bd HO.out HX.out hbn; omega
              have i1 : (0 : Int) ≤ a ∧ (a : Int) < xs.length := by omega
              have i2 : (0 : Int) ≤ b ∧ (b : Int) < xs.length := by omega
              cases hab : (a != b)
              · have HW := Lib.hid (LL.hinvB_same HH.out (.inl (show LL.st xs a b = false by unfold LL.st; rw [hab]; rfl)) hbn)
                have hab' : ((a : Int) != (b : Int)) = false := by rw [bne_eq_false_iff_eq] at hab ⊢; rw [hab]
                clear hab hlen hR4 HH hca hcb hfa hba hbbd
                go_wp2_with fail
                go_quiet (fail)
                go_wp2_with fail
                go_roundw
                case rel => exact ⟨b + 1, M, by omega, by go_num, HR.out.drewN nq, hB4.trans ⟨rfl, rfl, rfl, Nat.le_refl _, fun _ _ => rfl⟩, HW⟩
                case measure => simp [intOf]; omega
              · have hab' : ((a : Int) != (b : Int)) = true := by rw [bne_iff_ne] at hab ⊢; omega
                cases h1 : LL.ab xs a b
                · have H1 := Lib.hid h1
                  have HW := Lib.hid (LL.hinvB_same HH.out (.inl (show LL.st xs a b = false by unfold LL.st; rw [hab, h1]; rfl)) hbn)
                  clear hab h1 hlen hR4 HH hca hcb hfa hba hbbd
                  go_wp2_with fail
                  go_quiet ((go_at_call 23; exact abv_q0 HVr HX H1 (by omega) _))
                  go_wp2_with fail
                  go_roundw
                  case rel => exact ⟨b + 1, M, by omega, by go_num, HR.out.drewN nq, hB4.trans ⟨rfl, rfl, rfl, Nat.le_refl _, fun _ _ => rfl⟩, HW⟩
                  case measure => simp [intOf]; omega
                · have H1 := Lib.hid h1
                  have HS := Lib.hid (show LL.st xs a b = true by unfold LL.st; rw [hab, h1]; rfl)
                  by_cases hlt : M[a]?.getD 0 < M[b]?.getD 0 + 1
                  · have HW := Lib.hid (LL.hinvB_set HO.out HX.out HH.out han hbn HS.out hlt)
                    have HNx := Lib.hid (show ((M[b]?.getD 0 : Nat) : Int) + 1 = ((M[b]?.getD 0 + 1 : Nat) : Int) by omega)
                    generalize M[a]?.getD 0 = ma at hca hlt hba
                    generalize M[b]?.getD 0 = mb at hcb hlt hbbd HW HNx
                    have k1 : decide ((ma : Int) < (mb : Int) + 1) = true := decide_eq_true (by omega)
                    have k2 : decide (ma < mb + 1) = true := decide_eq_true (by omega)
                    have k3 : decide ((ma : Int) ≤ (mb : Int)) = true := decide_eq_true (by omega)
                    have k4 : decide (ma ≤ mb) = true := decide_eq_true (by omega)
                    clear hab h1 hlen hR4 HH hlt
                    go_wp2_with fail
                    go_quiet ((go_at_call 23; exact abv_q0 HVr HX H1 (by omega) _))
                    have HR6 := Lib.hid (show RowN w.heap.size xs.length M (wr.drewN nq) from HR.out)
                    have hB6 : Below w.heap.size w (wr.drewN nq) := hB4.trans ⟨rfl, rfl, rfl, Nat.le_refl _, fun _ _ => rfl⟩
                    have hcb6 : (wr.drewN nq).cell? ⟨w.heap.size, b, none⟩ = some (.int .i64 (mb : Int)) := hcb
                    have hca6 : (wr.drewN nq).cell? ⟨w.heap.size, a, none⟩ = some (.int .i64 (ma : Int)) := hca
                    have hfa6 : (wr.drewN nq).frozen? ⟨w.heap.size, a, none⟩ = false := hfa
                    clear hca hcb hfa hB4 HR HVr
                    generalize wr.drewN nq = w6 at HR6 hB6 hcb6 hca6 hfa6 ⊢
                    go_wp2_with fail
                    go_roundw
                    case rel => exact ⟨b + 1, M.set a (mb + 1), by omega, by go_num, by have h := HR6.out.set a (mb + 1); rwa [← HNx.out] at h, hB6.setCell (p := ⟨w.heap.size, a, none⟩) (Nat.le_refl _) _, HW⟩
                    case measure => simp [intOf]; omega
                  · have HW := Lib.hid (LL.hinvB_same HH.out (.inr hlt) hbn)
                    generalize M[a]?.getD 0 = ma at hca hlt hba
                    generalize M[b]?.getD 0 = mb at hcb hlt hbbd
                    have k1 : decide ((ma : Int) < (mb : Int) + 1) = false := decide_eq_false (by omega)
                    have k2 : decide (ma < mb + 1) = false := decide_eq_false (by omega)
                    have k3 : decide ((ma : Int) ≤ (mb : Int)) = false := decide_eq_false (by omega)
                    have k4 : decide (ma ≤ mb) = false := decide_eq_false (by omega)
                    clear hab h1 hlen hR4 HH hlt
                    go_wp2_with fail
                    go_quiet ((go_at_call 23; exact abv_q0 HVr HX H1 (by omega) _))
                    go_wp2_with fail
                    go_roundw
                    case rel => exact ⟨b + 1, M, by omega, by go_num, HR.out.drewN nq, hB4.trans ⟨rfl, rfl, rfl, Nat.le_refl _, fun _ _ => rfl⟩, HW⟩
                    case measure => simp [intOf]; omega
            · have HW := Lib.hid (show LL.HInvA xs r (a + 1) M by
                obtain rfl : b = xs.length := by omega
                exact LL.hinvA_next HO.out HX.out HH.out han)
              clear HH
              go_wp2_with fail
              go_roundw
              case rel => exact ⟨a + 1, M, by omega, by go_num, hR4, hB4, HW⟩
              case measure => simp [intOf]; omega
        · have HW := Lib.hid (show LL.HInv xs (r + 1) M by
            obtain rfl : a = xs.length := by omega
            exact LL.hinv_next HA.out)
          clear HA
          go_wp2_with fail
          go_roundw
          case rel => exact ⟨r + 1, M, by omega, by go_num, hR3, hB3, HW⟩
          case measure => simp [intOf]; omega
    · have HE := Lib.hid (show ∀ a, a < xs.length → M[a]?.getD 0 = LL.longL xs a by
        obtain rfl : r = xs.length := by omega
        exact LL.hinv_end HO.out HX.out HI.out)
      have hlen : M.length = xs.length := HI.out.1
      have HLn := Lib.hid hlen
      clear HI hr hlen
      go_wp2_with fail
      go_loopw [7, 8] (fun o i wr => ∃ a : Nat, a ≤ xs.length ∧ i = .int .i64 (a : Int) ∧ o = .int .i64 (LL.maxUp (LL.longL xs) a : Int) ∧ RowN w.heap.size xs.length M wr ∧ Below w.heap.size w wr) (fun _ i _ => xs.length - (intOf i).toNat)
      case atStart => exact ⟨0, Nat.zero_le _, rfl, rfl, hR, hB⟩
      case round =>
        obtain ⟨a, ha, rfl, rfl, hR5, hB5⟩ := hrel
        clear hR hB
        by_cases han : a < xs.length
        · have HR := Lib.hid hR5
          have hca := hR5.cell HLn.out han
          rw [HE.out a han] at hca
          have i1 : (0 : Int) ≤ a ∧ (a : Int) < xs.length := by omega
          have HM := Lib.hid (show LL.maxUp (LL.longL xs) (a + 1) = max (LL.maxUp (LL.longL xs) a) (LL.longL xs a) from rfl)
          generalize LL.longL xs a = la at hca HM
          generalize LL.maxUp (LL.longL xs) a = mu at HM ⊢
          by_cases hlt : mu < la
          · have k1 : decide ((mu : Int) < (la : Int)) = true := decide_eq_true (by omega)
            have k2 : decide (mu < la) = true := decide_eq_true hlt
            have HM' := Lib.hid (HM.out.trans (Nat.max_eq_right (Nat.le_of_lt hlt)))
            clear hlt hR5
            go_wp2_with fail
            go_roundw
            case rel => exact ⟨a + 1, by omega, by go_num, by rw [HM'.out], HR.out, hB5⟩
            case measure => simp [intOf]; omega
          · have k1 : decide ((mu : Int) < (la : Int)) = false := decide_eq_false (by omega)
            have k2 : decide (mu < la) = false := decide_eq_false hlt
            have HM' := Lib.hid (HM.out.trans (Nat.max_eq_left (by omega)))
            clear hlt hR5
            go_wp2_with fail
            go_roundw
            case rel => exact ⟨a + 1, by omega, by go_num, by rw [HM'.out], HR.out, hB5⟩
            case measure => simp [intOf]; omega
        · have HZ := Lib.hid (show LL.maxUp (LL.longL xs) a = LL.heightN xs by
            obtain rfl : a = xs.length := by omega
            rfl)
          go_wp2_with fail
          go_ret
          exact ⟨by rw [HZ.out]; rfl, hB5⟩
end Go.Proofs.YtaaicmldldkhhaaDoor
