import Derived.Test.YtbdmpilaeoclgaaGraZ
import Derived.Test.YtbdmpilaeoclgaaDomQ
set_option linter.unusedSimpArgs false
set_option linter.unusedVariables false
/-! dom: what only reads -/
namespace Go.Proofs.Ytbdmpilaeoclgaa
open Go.RowKit
/-- the numbers of a row from an address on -/
def Rd (W : World) (b off n : Nat) (f : Nat → Int) : Prop := ∀ i, i < n → W.cell? ⟨b, off + i, none⟩ = some (.int .i64 (f i))
theorem Rd.drewN {W : World} {b off n : Nat} {f : Nat → Int} (h : Rd W b off n f) (d : Nat) : Rd (W.drewN d) b off n f := h

set_option maxHeartbeats 1600000 in
theorem common_any {adj : Nat → List Nat} {pl : Nat → Nat} {T : Nat → Int} {n : Nat} (tb so tc pb po pc a b : Nat) (w : World) (HT : Rd w tb so n T) (HP : Rd w pb po n (fun i => (pl i : Int))) (I : DD.Inv n adj pl T) (G : DD.Gr n adj pl) (hn : n ≤ 256) (ha : a < n) (hb : b < n) (ka : DD.Kn T a) (kb : DD.Kn T b) :
    Calls Try.prog 63 #[.slice (some ⟨tb, so, none⟩) n tc, .slice (some ⟨pb, po, none⟩) n pc, .int .i64 a, .int .i64 b] w fun e w' => (∃ c : Nat, e = .returned (.int .i64 c) ∧ DD.Com T a b c) ∧ ∃ d, w' = w.drewN d := by
  have HTT := Lib.hid HT
  have HPP := Lib.hid HP
  have HI := Lib.hid I
  have HG := Lib.hid G
  have HA := Lib.hid ka
  have HB := Lib.hid kb
  have i1 : (0 : Int) ≤ a ∧ (a : Int) < n := by omega
  clear HT HP I G ka kb
  go_enter Try.func63, Try.ntmps63
  go_wp2_with fail
  go_loopw [2, 3] (fun s t wr => ∃ (x y d : Nat), s = .int .i64 (x : Int) ∧ t = .int .i64 (y : Int) ∧ x < n ∧ y < n ∧ wr = w.drewN d ∧ RowKit.Hid (DD.Mid T a b x y)) (fun s t _ => pl (intOf s).toNat + pl (intOf t).toNat)
  case atStart => exact ⟨a, b, 0, rfl, rfl, ha, hb, rfl, Lib.hid (DD.mid_new T a b)⟩
  case round =>
    obtain ⟨x, y, d, rfl, rfl, hx, hy, rfl, HM⟩ := hrel
    by_cases hxy : x = y
    · subst hxy
      have hne : ((x : Int) != (x : Int)) = false := bne_self_eq_false _
      go_wp2_with fail
      go_ret
      exact ⟨⟨x, rfl, HM.out.com⟩, d, rfl⟩
    · have hne : ((x : Int) != (y : Int)) = true := by rw [bne_iff_ne]; omega
      have hpx := HPP.out x hx
      have hpy := HPP.out y hy
      have htx := HTT.out x hx
      have hty := HTT.out y hy
      have hpne : pl x ≠ pl y := fun e => hxy (HG.out.inj x y hx hy e)
      have i2 : (0 : Int) ≤ x ∧ (x : Int) < n := by omega
      have i3 : (0 : Int) ≤ y ∧ (y : Int) < n := by omega
      by_cases hp : pl y < pl x
      · have hx0 : x ≠ 0 := fun e => by rw [e, HG.out.first] at hp; omega
        obtain ⟨j, hj⟩ : ∃ j : Nat, T x = (j : Int) := by
          rcases HI.out.up_kn HM.out.1 HA.out with h | h
          · exact absurd h hx0
          · exact h
        obtain ⟨_, hjn, hjp, _⟩ := HI.out.ok x j hj
        rw [hj] at htx
        have HN := Lib.hid (HM.out.left HI.out hp hj)
        have hg : decide ((pl y : Int) < (pl x : Int)) = true := decide_eq_true (by omega)
        have HP2 := Lib.hid (show pl j + pl y < pl x + pl y by omega)
        clear hpne hxy hj hjp hty hx0
        go_wp2_with fail
        go_quiet (fail)
        go_wp2_with fail
        go_roundw
        case rel => exact ⟨j, y, _, rfl, rfl, hjn, hy, (by first | rfl | exact World.drewN_drewN _ _ _), HN⟩
        case measure => have := HP2.out; simp [intOf]; omega
      · have hp' : pl x < pl y := by omega
        have hy0 : y ≠ 0 := fun e => by rw [e, HG.out.first] at hp'; omega
        obtain ⟨j, hj⟩ : ∃ j : Nat, T y = (j : Int) := by
          rcases HI.out.up_kn HM.out.2.1 HB.out with h | h
          · exact absurd h hy0
          · exact h
        obtain ⟨_, hjn, hjp, _⟩ := HI.out.ok y j hj
        rw [hj] at hty
        have HN := Lib.hid (HM.out.right HI.out hp' hj)
        have hg : decide ((pl y : Int) < (pl x : Int)) = false := decide_eq_false (by omega)
        have HP2 := Lib.hid (show pl x + pl j < pl x + pl y by omega)
        clear hp' hpne hxy hj hjp htx hy0
        go_wp2_with fail
        go_quiet (fail)
        go_wp2_with fail
        go_roundw
        case rel => exact ⟨x, j, _, rfl, rfl, hx, hjn, (by first | rfl | exact World.drewN_drewN _ _ _), HN⟩
        case measure => have := HP2.out; simp [intOf]; omega

/-- the numbers of a list, each of a node -/
def natsOf (l : List Int) : List Nat := l.map Int.toNat
set_option maxHeartbeats 1600000 in
theorem above_any {adj : Nat → List Nat} {pl : Nat → Nat} {T : Nat → Int} {n : Nat} (tb so tc pb po pc : Nat) (fa : Option Addr) (fc : Nat) (l : List Int) (w : World) (HT : Rd w tb so n T) (HP : Rd w pb po n (fun i => (pl i : Int))) (HF : Row w.heap.size w (.slice fa l.length fc) l) (I : DD.Inv n adj pl T) (G : DD.Gr n adj pl) (hn : n ≤ 256) (hll : l.length ≤ 256) (hl : ∀ x ∈ l, 0 ≤ x ∧ x < n) :
    Calls Try.prog 44 #[.slice (some ⟨tb, so, none⟩) n tc, .slice (some ⟨pb, po, none⟩) n pc, .slice fa l.length fc] w fun e w' => (∃ c : Int, e = .returned (.int .i64 c) ∧ DD.Meet T (natsOf l) c) ∧ ∃ d, w' = w.drewN d := by
  have HTT := Lib.hid HT
  have HPP := Lib.hid HP
  have HFF := Lib.hid HF
  have HI := Lib.hid I
  have HG := Lib.hid G
  have HL := Lib.hid hl
  clear HT HP HF I G hl
  go_enter Try.func44, Try.ntmps44
  go_wp2_with fail
  go_loopw [7, 12] (fun s k wr => ∃ (q d : Nat) (v : Int), q ≤ l.length ∧ s = .int .i64 v ∧ k = .int .i64 (q : Int) ∧ wr = w.drewN d ∧ RowKit.Hid (DD.Meet T (natsOf (l.take q)) v)) (fun _ k _ => l.length - (intOf k).toNat)
  case atStart => exact ⟨0, 0, -1, Nat.zero_le _, rfl, rfl, rfl, Lib.hid (DD.meet_nil T)⟩
  case round =>
    obtain ⟨q, d, v, hq, rfl, rfl, rfl, HM⟩ := hrel
    by_cases hqt : q < l.length
    · obtain ⟨fb, fo, rfl, hc⟩ := (HFF.out.drewN d).cellAt hqt
      have i1 : (0 : Int) ≤ q ∧ (q : Int) < l.length := by omega
      have hx := HL.out _ (GG.getD_mem (d := (0 : Int)) hqt)
      have HTK := Lib.hid (show natsOf (l.take (q + 1)) = natsOf (l.take q) ++ [(l[q]?.getD 0).toNat] by
        unfold natsOf
        rw [List.take_succ_eq_append_getElem hqt, List.map_append, List.getElem?_eq_getElem hqt]; rfl)
      obtain ⟨x, ex⟩ : ∃ x, x = l[q]?.getD 0 := ⟨_, rfl⟩
      rw [← ex] at hc hx HTK
      clear ex
      obtain ⟨y, rfl⟩ : ∃ y : Nat, x = (y : Int) := ⟨x.toNat, by omega⟩
      rw [Int.toNat_natCast] at HTK
      have hyn : y < n := by omega
      have i2 : (0 : Int) ≤ y ∧ (y : Int) < n := by omega
      have hty := (HTT.out.drewN d) y hyn
      clear hx
      by_cases hky : DD.Kn T y
      · have HK := Lib.hid hky
        have hb : (decide (y ≠ 0) && (T y == -1)) = false := by
          rcases hky with rfl | ⟨j, hj⟩
          · rfl
          · have : (T y == -1) = false := beq_eq_false_iff_ne.2 (by omega)
            rw [this, Bool.and_false]
        by_cases hv : v = -1
        · subst hv
          have HN := Lib.hid (show DD.Meet T (natsOf (l.take (q + 1))) (y : Int) by rw [HTK.out]; exact HM.out.first HK.out)
          clear hky
          by_cases h0 : y = 0
          · subst h0
            clear hb
            go_wp2_with fail
            go_roundw
            case rel => exact ⟨q + 1, _, _, by omega, rfl, by go_num, rfl, HN⟩
            case measure => simp [intOf]; omega
          · have h0' : ((y : Int) != 0) = true := by rw [bne_iff_ne]; omega
            have h1 : (T y == -1) = false := by rw [decide_eq_true h0, Bool.true_and] at hb; exact hb
            clear hb
            go_wp2_with fail
            go_roundw
            case rel => exact ⟨q + 1, _, _, by omega, rfl, by go_num, rfl, HN⟩
            case measure => simp [intOf]; omega
        · obtain ⟨c, rfl⟩ : ∃ c : Nat, v = (c : Int) := by
            rcases HM.out with ⟨e, _⟩ | ⟨c, e, _⟩
            · exact absurd e hv
            · exact ⟨c, e⟩
          have hck := HM.out.known HI.out (fun j hj => by
            obtain ⟨x, hx, rfl⟩ := List.mem_map.1 hj
            have := HL.out x (List.mem_of_mem_take hx); omega)
          have HCK := Lib.hid hck
          have hv' : ((c : Int) == -1) = false := beq_eq_false_iff_ne.2 hv
          have HCM := Lib.hid (fun (e : Nat) (he : DD.Com T c y e) => (show DD.Meet T (natsOf (l.take (q + 1))) (e : Int) by rw [HTK.out]; exact HM.out.more HK.out he))
          clear hky hck hv
          by_cases h0 : y = 0
          · subst h0
            clear hb
            go_wp2_with (go_at_call 63; refine (common_any tb so tc pb po pc c 0 _ (HTT.out.drewN _) (HPP.out.drewN _) HI.out HG.out hn HCK.out.1 hyn HCK.out.2 HK.out).mono ?_; rintro e w' ⟨⟨c', rfl, hcm⟩, d', rfl⟩; have HN := Lib.hid (HCM.out c' hcm); clear hcm)
            go_roundw
            case rel => exact ⟨q + 1, _, _, by omega, rfl, by go_num, (by first | rfl | exact World.drewN_drewN _ _ _), HN⟩
            case measure => simp [intOf]; omega
          · have h0' : ((y : Int) != 0) = true := by rw [bne_iff_ne]; omega
            have h1 : (T y == -1) = false := by rw [decide_eq_true h0, Bool.true_and] at hb; exact hb
            clear hb
            go_wp2_with (go_at_call 63; refine (common_any tb so tc pb po pc c y _ (HTT.out.drewN _) (HPP.out.drewN _) HI.out HG.out hn HCK.out.1 hyn HCK.out.2 HK.out).mono ?_; rintro e w' ⟨⟨c', rfl, hcm⟩, d', rfl⟩; have HN := Lib.hid (HCM.out c' hcm); clear hcm)
            go_roundw
            case rel => exact ⟨q + 1, _, _, by omega, rfl, by go_num, (by first | rfl | exact World.drewN_drewN _ _ _), HN⟩
            case measure => simp [intOf]; omega
      · have HN := Lib.hid (show DD.Meet T (natsOf (l.take (q + 1))) v by rw [HTK.out]; exact HM.out.skip hky)
        have h0 : ((y : Int) != 0) = true := by rw [bne_iff_ne]; exact fun e => hky (.inl (by omega))
        have h1 : (T y == -1) = true := by
          rw [beq_iff_eq]
          rcases HI.out.num y with e | e
          · exact e
          · exact absurd (.inr e) hky
        clear hky
        go_wp2_with fail
        go_roundw
        case rel => exact ⟨q + 1, _, _, by omega, rfl, by go_num, rfl, HN⟩
        case measure => simp [intOf]; omega
    · have HN := Lib.hid (show DD.Meet T (natsOf l) v by have h := HM.out; rwa [List.take_of_length_le (by omega)] at h)
      go_wp2_with fail
      go_ret
      exact ⟨⟨v, rfl, HN.out⟩, d, rfl⟩
end Go.Proofs.Ytbdmpilaeoclgaa
