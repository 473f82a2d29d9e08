import Derived.Test.YthdcamklbjlanaaDoorTextV
import Derived.Test.YthdcamklbjlanaaDoorTextL
/-! the walks of the reference's Bad, Runes, Name -/
namespace Go.Proofs.YthdcamklbjlanaaDoor
set_option linter.unusedVariables false
open Go.RowKit

/-- where the first byte stands that begins no form; -1: there is none -/
def badI (s : ByteArray) : Int := match (allP s).find? (badB s) with | some p => (p : Int) | none => -1
theorem badI_hit (s : ByteArray) (pre : List Nat) (pos : Nat) (t : List Nat) (e : allP s = pre ++ pos :: t) (hp : ∀ p ∈ pre, badB s p = false) (hb : badB s pos = true) : badI s = (pos : Int) := by
  unfold badI
  rw [e, List.find?_append, List.find?_eq_none.2 (by intro x hx; rw [hp x hx]; simp)]
  simp [hb]
theorem badI_none (s : ByteArray) (pre : List Nat) (e : allP s = pre) (hp : ∀ p ∈ pre, badB s p = false) : badI s = -1 := by
  unfold badI
  rw [e, List.find?_eq_none.2 (by intro x hx; rw [hp x hx]; simp)]

set_option maxHeartbeats 400000 in
theorem rbad_any (s : ByteArray) (w : World) (hs : s.size ≤ 140737488351232) :
    Calls Tryd.prog 11 #[.string s] w fun e w' => e = .returned (.int .i64 (badI s)) ∧ ∃ n, w' = w.drewN n := by
  go_enter Tryd.func11, Tryd.ntmps11
  go_wp2
  go_loopw [3] (fun i wr => ∃ (pre : List Nat) (pos n : Nat), i = .int .i64 pos ∧ wr = w.drewN n ∧ Stand s pre pos ∧ Hid (∀ p ∈ pre, badB s p = false)) (fun i _ => s.size - (intOf i).toNat)
  case atStart => exact ⟨[], 0, 0, rfl, rfl, Stand.start s, Lib.hid (by simp)⟩
  case round =>
    obtain ⟨pre, pos, n, rfl, rfl, hst, hp⟩ := hrel
    have HS := Lib.hid hst
    clear hst
    by_cases hlt : pos < s.size
    · have h4 := wd_le4 s pos
      have h1 := wd_pos s pos
      cases hb : badB s pos
      · have hf := formI_good s pos hlt hb
        have hz : ((wd s pos : Int) == 0) = false := by rw [beq_eq_false_iff_ne]; omega
        have HN := Lib.hid (HS.out.next hlt)
        have HP := Lib.hid (show ∀ p ∈ pre ++ [pos], badB s p = false by
          intro p hm; rcases List.mem_append.1 hm with hm | hm
          · exact hp.out p hm
          · simp at hm; subst hm; exact hb)
        go_wp2_with fail
        refine (form_any s pos _ hs).mono ?_
        rintro e w1 ⟨rfl, m, rfl⟩
        rw [hf]
        go_wp2_with fail
        go_roundw
        case rel => exact ⟨pre ++ [pos], pos + wd s pos, n + m, by go_num, rfl, HN.out, HP⟩
        case measure => simp [intOf]; omega
      · have hf := formI_bad s pos hlt hb
        obtain ⟨t, ht⟩ := HS.out.mem hlt
        have HB := Lib.hid (badI_hit s pre pos t ht hp.out hb)
        clear ht
        go_wp2_with fail
        refine (form_any s pos _ hs).mono ?_
        rintro e w1 ⟨rfl, m, rfl⟩
        rw [hf]
        go_wp2_with fail
        go_ret
        exact ⟨ret_int HB.out.symm, _, rfl⟩
    · have HB := Lib.hid (badI_none s pre (HS.out.stop hlt) hp.out)
      go_wp2_with fail
      go_ret
      exact ⟨ret_int HB.out.symm, _, rfl⟩

set_option maxHeartbeats 400000 in
theorem rrunes_any (s : ByteArray) (w : World) (hs : s.size ≤ 140737488351232) :
    Calls Tryd.prog 13 #[.string s] w fun e w' => e = .returned (.int .i64 ((allP s).length : Int)) ∧ ∃ n, w' = w.drewN n := by
  go_enter Tryd.func13, Tryd.ntmps13
  go_wp2
  go_loopw [3, 4] (fun c i wr => ∃ (pre : List Nat) (pos n : Nat), i = .int .i64 pos ∧ c = .int .i64 pre.length ∧ wr = w.drewN n ∧ Stand s pre pos) (fun _ i _ => s.size - (intOf i).toNat)
  case atStart => exact ⟨[], 0, 0, rfl, rfl, rfl, Stand.start s⟩
  case round =>
    obtain ⟨pre, pos, n, rfl, rfl, rfl, hst⟩ := hrel
    have hl := hst.2.1
    have HS := Lib.hid hst
    clear hst
    by_cases hlt : pos < s.size
    · have h4 := wd_le4 s pos
      have h1 := wd_pos s pos
      have HN := Lib.hid (HS.out.next hlt)
      go_wp2_with fail
      refine (next_any s pos _ hs hlt).mono ?_
      rintro e w1 ⟨rfl, m, rfl⟩
      go_wp2_with fail
      go_roundw
      case rel => exact ⟨pre ++ [pos], pos + wd s pos, n + m, rfl, by rw [List.length_append]; go_num, rfl, HN.out⟩
      case measure => simp [intOf]; omega
    · have HB := Lib.hid (HS.out.stop hlt)
      go_wp2_with fail
      go_ret
      exact ⟨ret_int (by rw [HB.out]), _, rfl⟩

/-- is it a name? -/
def okB (s : ByteArray) (p : Nat) : Bool := letterB (rn s p) || (p != 0 && digitB (rn s p))
def nameB (s : ByteArray) : Bool := decide (0 < (allP s).length) && decide ((allP s).length ≤ 24) && (allP s).all (okB s)

theorem rn_bad (s : ByteArray) (p : Nat) (h : badB s p = true) : okB s p = false := by
  have : rn s p = 65533 := by unfold badB at h; simp at h; exact h.1
  unfold okB; rw [this, show letterB ((65533 : Nat) : Int) = false by decide, show digitB ((65533 : Nat) : Int) = false by decide]; simp
theorem badI_some (s : ByteArray) (h : 0 ≤ badI s) : nameB s = false := by
  unfold badI at h
  cases hf : (allP s).find? (badB s) with
  | none => rw [hf] at h; simp at h
  | some p =>
    have hb := List.find?_some hf
    have hm := List.mem_of_find?_eq_some hf
    unfold nameB
    have : (allP s).all (okB s) = false := by
      rw [List.all_eq_false]; exact ⟨p, hm, by rw [rn_bad s p hb]; simp⟩
    rw [this]; simp
theorem badI_no (s : ByteArray) (h : badI s < 0) : ∀ p ∈ allP s, badB s p = false := by
  intro p hp
  unfold badI at h
  cases hf : (allP s).find? (badB s) with
  | none =>
    have := List.find?_eq_none.1 hf p hp
    simpa using this
  | some q => rw [hf] at h; simp at h; omega
theorem nameB_empty (s : ByteArray) (h : s.size = 0) : nameB s = false := by
  have : allP s = [] := poss_end s _ _ (by omega)
  unfold nameB; rw [this]; rfl
theorem nameB_long (s : ByteArray) (h : 24 < (allP s).length) : nameB s = false := by
  unfold nameB; rw [decide_eq_false (show ¬ (allP s).length ≤ 24 by omega)]; simp
theorem nameB_no (s : ByteArray) (pre t : List Nat) (pos : Nat) (e : allP s = pre ++ pos :: t) (h : okB s pos = false) : nameB s = false := by
  unfold nameB; rw [e, List.all_append]; simp [h]
theorem nameB_yes (s : ByteArray) (pre : List Nat) (e : allP s = pre) (h0 : 0 < pre.length) (h1 : pre.length ≤ 24) (h : ∀ p ∈ pre, okB s p = true) : nameB s = true := by
  unfold nameB; rw [e, decide_eq_true h0, decide_eq_true h1]; simpa using h
theorem allP_pos (s : ByteArray) (h : 0 < s.size) : 0 < (allP s).length := by
  obtain ⟨f, e, e2, _⟩ := poss_step s s.size 0 h (by omega)
  unfold allP; rw [e2]; simp

end Go.Proofs.YthdcamklbjlanaaDoor
