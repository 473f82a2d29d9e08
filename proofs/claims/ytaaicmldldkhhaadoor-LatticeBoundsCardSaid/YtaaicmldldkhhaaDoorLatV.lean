import Derived.Test.YtaaicmldldkhhaaDoorLatS
import Derived.Deep.QuietTactic
import Derived.BigQuiet
/-! the walk of layer 5's reference: Covers -/
namespace Go.Proofs.YtaaicmldldkhhaaDoor
set_option linter.unusedVariables false
open Go.RowKit

namespace LL
/-- nothing stands between -/
def coverAt (xs : List Int) (a b m : Nat) : Bool := m == a || (m == b || (!ab xs a m || !ab xs m b))
def isCover (xs : List Int) (a b : Nat) : Bool := (a != b && ab xs a b) && (List.range xs.length).all (coverAt xs a b)
/-- the pairs (a, b) with b below k -/
def rowUp (xs : List Int) (a k : Nat) : List (Nat × Nat) := ((List.range k).filter (isCover xs a)).map fun b => (a, b)
def coversUp (xs : List Int) (a : Nat) : List (Nat × Nat) := (List.range a).flatMap fun i => rowUp xs i xs.length
/-- all pairs of which one stands right above the other -/
def coversL (xs : List Int) : List (Nat × Nat) := coversUp xs xs.length
theorem rowUp_yes (xs : List Int) (a k : Nat) (h : isCover xs a k = true) : rowUp xs a (k + 1) = rowUp xs a k ++ [(a, k)] := by
  unfold rowUp; rw [List.range_succ, List.filter_append]; simp [h]
theorem rowUp_no (xs : List Int) (a k : Nat) (h : isCover xs a k = false) : rowUp xs a (k + 1) = rowUp xs a k := by
  unfold rowUp; rw [List.range_succ, List.filter_append]; simp [h]
theorem coversUp_succ (xs : List Int) (a : Nat) : coversUp xs (a + 1) = coversUp xs a ++ rowUp xs a xs.length := by
  unfold coversUp; rw [List.range_succ, List.flatMap_append]; simp
theorem rowUp_len (xs : List Int) (a k : Nat) : (rowUp xs a k).length ≤ k := by
  unfold rowUp; rw [List.length_map]; exact Nat.le_trans (List.length_filter_le _ _) (by simp)
theorem coversUp_len (xs : List Int) (a : Nat) : (coversUp xs a).length ≤ a * xs.length := by
  induction a with
  | zero => simp [coversUp]
  | succ a ih =>
    rw [coversUp_succ, List.length_append]
    have := rowUp_len xs a xs.length
    have e : (a + 1) * xs.length = a * xs.length + xs.length := Nat.succ_mul ..
    omega
end LL
theorem Tryd.infoPair : (Tryd.prog.info? 40).map (fun i => (i.zero, i.size, i.bytes)) = some (some (.agg #[.int .i64 0, .int .i64 0]), 2, 16) := by kernel_rfl
theorem cell_two_new5 (W : World) (u v : Value) (t : TypeId) : ∀ j x, [u, v][j]? = some x → (W.alloc (.cells #[u, v] t)).cell? ((⟨W.heap.size, 0, none⟩ : Addr).add j) = some x := by
  intro j x hj
  match j, hj with
  | 0, hj => simp at hj; subst hj; simp [Addr.add]
  | 1, hj => simp at hj; subst hj; simp [Addr.add]
def cellsOf5 (l : List (Nat × Nat)) : List Value := l.flatMap fun p => [.int .i64 (p.1 : Int), .int .i64 (p.2 : Int)]

theorem cells5_snoc (l : List (Nat × Nat)) (a b : Nat) : cellsOf5 (l ++ [(a, b)]) = cellsOf5 l ++ [.int .i64 (a : Int), .int .i64 (b : Int)] := by
  unfold cellsOf5; rw [List.flatMap_append]; simp

set_option maxRecDepth 100000 in
set_option maxHeartbeats 1600000 in
theorem rcovers_any (v : Value) (xs : List Int) (n₀ : Nat) (w : World) (hv : Nums .u64 n₀ w v xs) (hb : n₀ ≤ w.heap.size) (hx : Wide xs) (hl : xs.length ≤ 64) :
    Calls Tryd.prog 31 #[v] w fun e w' => ∃ u, e = .returned u ∧ w'.ownsRow w.heap.size 40 2 u (LL.coversL xs).length (cellsOf5 (LL.coversL xs)) ∧ Below w.heap.size w w' := by
  obtain ⟨i0, hi, hz0, hz1, hz2⟩ := info_parts Tryd.infoPair
  have HV := Lib.hid hv
  have HX := Lib.hid hx
  obtain ⟨_, cap, rfl⟩ := hv.form
  clear hv hx
  go_enter Tryd.func31, Tryd.ntmps31
  go_wp2_with fail
  go_loopw [3, 4] (fun o k wr => ∃ a : Nat, a ≤ xs.length ∧ k = .int .i64 (a : Int) ∧ wr.ownsRow w.heap.size 40 2 o (LL.coversUp xs a).length (cellsOf5 (LL.coversUp xs a)) ∧ Below w.heap.size w wr) (fun _ k _ => xs.length - (intOf k).toNat)
  case atStart => exact ⟨0, Nat.zero_le _, rfl, World.ownsRow_nil _ _ _ _, Below.refl _ _⟩
  case round =>
    obtain ⟨a, ha, rfl, hown, hB⟩ := hrel
    by_cases hlt : a < xs.length
    · have hown0 : wr.ownsRow w.heap.size 40 2 u3 (LL.coversUp xs a ++ LL.rowUp xs a 0).length (cellsOf5 (LL.coversUp xs a ++ LL.rowUp xs a 0)) := by
        rw [show LL.rowUp xs a 0 = [] from rfl, List.append_nil]; exact hown
      clear hown
      go_wp2_with fail
      go_loopw [3, 5] (fun o k wr => ∃ b : Nat, b ≤ xs.length ∧ k = .int .i64 (b : Int) ∧ wr.ownsRow w.heap.size 40 2 o (LL.coversUp xs a ++ LL.rowUp xs a b).length (cellsOf5 (LL.coversUp xs a ++ LL.rowUp xs a b)) ∧ Below w.heap.size w wr) (fun _ k _ => xs.length - (intOf k).toNat)
      case atStart => exact ⟨0, Nat.zero_le _, rfl, hown0, hB⟩
      case round =>
        obtain ⟨b, hbb, rfl, hown, hB⟩ := hrel
        clear hown0
        by_cases hlb : b < xs.length
        · have HO := Lib.hid hown
          have HVr := Lib.hid (HV.out.below (hB.mono hb))
          clear hown
          cases hab : (a != b)
          · have hab' : ((a : Int) != (b : Int)) = false := by rw [bne_eq_false_iff_eq] at hab ⊢; rw [hab]
            have HNo := Lib.hid (LL.rowUp_no xs a b (show LL.isCover xs a b = false by unfold LL.isCover; rw [hab]; rfl))
            go_wp2_with fail
            go_loop [6, 7] (fun s m => s = .bool false ∧ m = .int .i64 0) (fun _ _ => 0)
            case atStart => exact ⟨rfl, rfl⟩
            case round =>
              obtain ⟨rfl, rfl⟩ := hrel
              have hn0 : (0 : Int) < xs.length := by omega
              go_wp2_with fail
              go_roundw
              case rel => exact ⟨b + 1, by omega, by go_num, by rw [HNo.out]; exact HO.out, hB⟩
              case measure => simp [intOf]; omega
          · have hab' : ((a : Int) != (b : Int)) = true := by rw [bne_iff_ne] at hab ⊢; omega
            cases h1 : LL.ab xs a b
            · have H1 := Lib.hid h1
              have HNo := Lib.hid (LL.rowUp_no xs a b (show LL.isCover xs a b = false by unfold LL.isCover; rw [hab, h1]; rfl))
              go_wp2_with (go_at_call 23; refine (abv_any HVr HX _ _ (by omega)).mono ?_; rintro e w' ⟨rfl, rfl⟩; first | rw [H1.out])
              go_loop [6, 7] (fun s m => s = .bool false ∧ m = .int .i64 0) (fun _ _ => 0)
              case atStart => exact ⟨rfl, rfl⟩
              case round =>
                obtain ⟨rfl, rfl⟩ := hrel
                have hn0 : (0 : Int) < xs.length := by omega
                go_wp2_with fail
                go_roundw
                case rel => exact ⟨b + 1, by omega, by go_num, by rw [HNo.out]; exact HO.out, hB⟩
                case measure => simp [intOf]; omega
            · have H1 := Lib.hid h1
              have HAB := Lib.hid hab
              clear h1 hab
              go_wp2_with (go_at_call 23; refine (abv_any HVr HX _ _ (by omega)).mono ?_; rintro e w' ⟨rfl, rfl⟩; first | rw [H1.out])
              go_loop [6, 7] (fun s m => ∃ (q : Nat) (t : Bool), q ≤ xs.length ∧ m = .int .i64 (q : Int) ∧ s = .bool t ∧ RowKit.Hid ((t = true ∧ ∀ i, i < q → LL.coverAt xs a b i = true) ∨ (t = false ∧ ∃ i, i < xs.length ∧ LL.coverAt xs a b i = false))) (fun _ m => xs.length - (intOf m).toNat)
              case atStart => exact ⟨0, true, Nat.zero_le _, rfl, rfl, Lib.hid (.inl ⟨rfl, fun i hi => absurd hi (Nat.not_lt_zero _)⟩)⟩
              case round =>
                obtain ⟨q, t, hq, rfl, rfl, HT⟩ := hrel
                cases t
                · have HNo := Lib.hid (LL.rowUp_no xs a b (show LL.isCover xs a b = false by
                    rcases HT.out with ⟨h, _⟩ | ⟨_, i, hi, hf⟩
                    · cases h
                    · unfold LL.isCover; rw [HAB.out, H1.out, LL.all_no hi hf]; rfl))
                  by_cases hq1 : q < xs.length
                  · go_wp2_with fail
                    go_roundw
                    case rel => exact ⟨b + 1, by omega, by go_num, by rw [HNo.out]; exact HO.out, hB⟩
                    case measure => simp [intOf]; omega
                  · go_wp2_with fail
                    go_roundw
                    case rel => exact ⟨b + 1, by omega, by go_num, by rw [HNo.out]; exact HO.out, hB⟩
                    case measure => simp [intOf]; omega
                · have HA := Lib.hid (show ∀ i, i < q → LL.coverAt xs a b i = true by
                    rcases HT.out with ⟨_, h⟩ | ⟨h, _⟩
                    · exact h
                    · cases h)
                  by_cases hq1 : q < xs.length
                  · cases hqa : (q == a)
                    · have hqa' : ((q : Int) == (a : Int)) = false := by rw [beq_eq_false_iff_ne] at hqa ⊢; omega
                      cases hqb : (q == b)
                      · have hqb' : ((q : Int) == (b : Int)) = false := by rw [beq_eq_false_iff_ne] at hqb ⊢; omega
                        cases h3 : LL.ab xs a q
                        · have H3 := Lib.hid h3
                          have HW := Lib.hid (LL.all_step HA.out (show LL.coverAt xs a b q = true by unfold LL.coverAt; rw [hqa, hqb, h3]; simp))
                          go_wp2_with (go_at_call 23; refine (abv_any HVr HX _ _ (by omega)).mono ?_; rintro e w' ⟨rfl, rfl⟩; first | rw [H3.out])
                          go_round
                          case rel => exact ⟨q + 1, true, by omega, by go_num, rfl, Lib.hid (.inl ⟨rfl, HW.out⟩)⟩
                          case measure => simp [intOf]; omega
                        · cases h4 : LL.ab xs q b
                          · have H3 := Lib.hid h3
                            have H4 := Lib.hid h4
                            have HW := Lib.hid (LL.all_step HA.out (show LL.coverAt xs a b q = true by unfold LL.coverAt; rw [hqa, hqb, h3, h4]; simp))
                            go_wp2_with (go_at_call 23; refine (abv_any HVr HX _ _ (by omega)).mono ?_; rintro e w' ⟨rfl, rfl⟩; first | rw [H3.out] | rw [H4.out])
                            go_round
                            case rel => exact ⟨q + 1, true, by omega, by go_num, rfl, Lib.hid (.inl ⟨rfl, HW.out⟩)⟩
                            case measure => simp [intOf]; omega
                          · have H3 := Lib.hid h3
                            have H4 := Lib.hid h4
                            have HW := Lib.hid (show LL.coverAt xs a b q = false by unfold LL.coverAt; rw [hqa, hqb, h3, h4]; rfl)
                            go_wp2_with (go_at_call 23; refine (abv_any HVr HX _ _ (by omega)).mono ?_; rintro e w' ⟨rfl, rfl⟩; first | rw [H3.out] | rw [H4.out])
                            go_round
                            case rel => exact ⟨q + 1, false, by omega, by go_num, rfl, Lib.hid (.inr ⟨rfl, q, hq1, HW.out⟩)⟩
                            case measure => simp [intOf]; omega
                      · have hqb' : ((q : Int) == (b : Int)) = true := by rw [beq_iff_eq] at hqb ⊢; omega
                        have HW := Lib.hid (LL.all_step HA.out (show LL.coverAt xs a b q = true by unfold LL.coverAt; rw [hqb]; simp))
                        go_wp2_with fail
                        go_round
                        case rel => exact ⟨q + 1, true, by omega, by go_num, rfl, Lib.hid (.inl ⟨rfl, HW.out⟩)⟩
                        case measure => simp [intOf]; omega
                    · have hqa' : ((q : Int) == (a : Int)) = true := by rw [beq_iff_eq] at hqa ⊢; omega
                      have HW := Lib.hid (LL.all_step HA.out (show LL.coverAt xs a b q = true by unfold LL.coverAt; rw [hqa]; simp))
                      go_wp2_with fail
                      go_round
                      case rel => exact ⟨q + 1, true, by omega, by go_num, rfl, Lib.hid (.inl ⟨rfl, HW.out⟩)⟩
                      case measure => simp [intOf]; omega
                  · have HYes := Lib.hid (LL.rowUp_yes xs a b (show LL.isCover xs a b = true by
                      unfold LL.isCover; rw [HAB.out, H1.out, LL.all_yes (fun i hi => HA.out i (by omega))]; rfl))
                    have hlen : (LL.coversUp xs a ++ LL.rowUp xs a b).length ≤ 4160 := by
                      have h1 := LL.coversUp_len xs a
                      have h2 := LL.rowUp_len xs a b
                      have h3 : a * xs.length ≤ 64 * 64 := Nat.mul_le_mul (by omega) hl
                      rw [List.length_append]; omega
                    have HLn := Lib.hid hlen
                    clear hlen
                    go_wp2_with (at_builtin; refine wpList_append_own _ rfl _ _ 22 rfl w.heap.size 40 i0 (.agg #[.int .i64 0, .int .i64 0]) 2 16 Tryd.underlying22 hi hz0 hz1 hz2 rfl (by decide) _ _ _ rfl (HO.out.alloc _) ⟨wr.heap.size, 0, none⟩ 1 1 [.int .i64 (a : Int), .int .i64 (b : Int)] rfl rfl (cell_two_new5 _ _ _ _) (by simp [Value.oneCell']) (by have := HLn.out; unfold maxLen; omega) (by have := HLn.out; omega) (by have := hB.size; simp; omega) ?_; intro v' w1 hown' hgrow _)
                    have e5 : LL.coversUp xs a ++ LL.rowUp xs a (b + 1) = (LL.coversUp xs a ++ LL.rowUp xs a b) ++ [(a, b)] := by rw [HYes.out, List.append_assoc]
                    have hown2 : w1.ownsRow w.heap.size 40 2 v' (LL.coversUp xs a ++ LL.rowUp xs a (b + 1)).length (cellsOf5 (LL.coversUp xs a ++ LL.rowUp xs a (b + 1))) := by
                      rw [e5, List.length_append (bs := [(a, b)]), cells5_snoc]
                      exact hown'
                    have hB1 : Below w.heap.size w w1 := (hB.alloc hB.size (.cells #[.int .i64 (a : Int), .int .i64 (b : Int)] 40)).grown hgrow (by have := hB.size; simp; omega) (fun j hj => (HO.out.lt j hj).1)
                    go_roundw
                    case rel => exact ⟨b + 1, by omega, by go_num, hown2, hB1⟩
                    case measure => simp [intOf]; omega
        · have HE := Lib.hid (show LL.coversUp xs a ++ LL.rowUp xs a b = LL.coversUp xs (a + 1) by
            obtain rfl : b = xs.length := by omega
            rw [LL.coversUp_succ])
          go_wp2_with fail
          go_roundw
          case rel => exact ⟨a + 1, by omega, by go_num, by rw [← HE.out]; exact hown, hB⟩
          case measure => simp [intOf]; omega
    · have hown1 : wr.ownsRow w.heap.size 40 2 u3 (LL.coversL xs).length (cellsOf5 (LL.coversL xs)) := by
        obtain rfl : a = xs.length := by omega
        exact hown
      clear hown
      go_wp2_with fail
      go_ret
      exact ⟨_, rfl, hown1, hB⟩
end Go.Proofs.YtaaicmldldkhhaaDoor
