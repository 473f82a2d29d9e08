import Derived.Test.YthdcamklbjlanaaDoorTextU
import Derived.Test.YthdcamklbjlanaaDoorTextQ
import Derived.Lib.OthersKept
/-! the walks of text.Name, text.Runes, text.Place: ranges over a string -/
namespace Go.Proofs.YthdcamklbjlanaaDoor
set_option linter.unusedVariables false
open Go.RowKit

/-- one step of a range over a string, the iterator in block B -/
theorem range_step {P : Program} (wr : World) (B : Nat) (s : ByteArray) (pos : Nat) (ty : TypeId) (hit : wr.heap[B]? = some (.stringIter s pos)) (h : pos < s.size) :
    ∃ W1, (Instr.next (.pointer (some ⟨B, 0, none⟩)) true ty).run P wr = .ok (.tuple #[.bool true, .int .i64 pos, .int .i32 (rn s pos)]) W1 ∧ W1.heap[B]? = some (.stringIter s (pos + wd s pos)) ∧ Below B wr W1 ∧ W1.heap.size = wr.heap.size :=
  ⟨_, Lib.run_next_any_at wr B s pos ty hit h, Lib.iterAt_heap wr B s pos _ hit, Lib.below_iterAt (Below.refl _ _) (Nat.le_refl _) _ _, Lib.iterAt_size _ _ _ _⟩
theorem iterPos_at {w : World} {B : Nat} {s : ByteArray} {pos : Nat} (h : w.heap[B]? = some (.stringIter s pos)) : w.iterPos B = pos := by
  simp [World.iterPos, h]
theorem iter_start (w : World) (s : ByteArray) : (w.iter s 0).heap[w.heap.size]? = some (.stringIter s 0) ∧ Below w.heap.size w (w.iter s 0) := ⟨World.iter_heap w s 0, (Below.refl _ w).alloc (Nat.le_refl _) _⟩
/-- the iterator stands while a call makes memory alone -/
theorem iter_kept {W W' : World} {B : Nat} {o : Obj} (h : W.heap[B]? = some o) (hb : Below W.heap.size W W') : W'.heap[B]? = some o :=
  (hb.block B (Array.getElem?_eq_some_iff.1 h).1).trans h

/-- what a walk through the runes of a name holds -/
def NameRel (s : ByteArray) (w : World) (c : Value) (wr : World) : Prop :=
  ∃ (pre : List Nat) (pos : Nat), c = .int .i64 pre.length ∧ wr.heap[w.heap.size]? = some (.stringIter s pos) ∧ Below w.heap.size w wr ∧ Stand s pre pos ∧ pre.length ≤ 24 ∧ ∀ p ∈ pre, okB s p = true

set_option maxHeartbeats 800000 in
theorem name_any (s : ByteArray) (w : World) (hs : s.size ≤ 562949953421312) :
    Calls Tryd.prog 19 #[.string s] w fun e w' => e = .returned (.bool (nameB s)) ∧ Below w.heap.size w w' := by
  have h0 := iter_start w s
  go_enter Tryd.func19, Tryd.ntmps19
  go_wp2_with fail
  go_loopw [3] (fun c wr => NameRel s w c wr) (fun _ wr => s.size - wr.iterPos w.heap.size)
  case atStart => exact ⟨[], 0, rfl, h0.1, h0.2, Stand.start s, by simp, by simp⟩
  case round =>
    clear h0
    obtain ⟨pre, pos, rfl, hit, hB, hst, hl, hok⟩ := hrel
    have HS := Lib.hid hst
    have HO := Lib.hid hok
    have hpp := hst.2.2.1
    clear hst hok
    by_cases hlt : pos < s.size
    · obtain ⟨W1, hnx, hit1, hb1, hz1⟩ := range_step (P := Tryd.prog) wr w.heap.size s pos 0 hit hlt
      have hB1 : Below w.heap.size w W1 := hB.trans hb1
      have hmeas := Lib.hid (iterPos_at hit)
      obtain ⟨t, ht⟩ := HS.out.mem hlt
      have HN := Lib.hid (HS.out.next hlt)
      have HT := Lib.hid ht
      clear ht hit hb1 hz1
      have HNO := Lib.hid (fun h => nameB_no s pre t pos HT.out h)
      have HP2 := Lib.hid (show okB s pos = true → ∀ p ∈ pre ++ [pos], okB s p = true by
        intro ho p hm; rcases List.mem_append.1 hm with hm | hm
        · exact HO.out p hm
        · simp at hm; subst hm; exact ho)
      have HL := Lib.hid (show 24 ≤ pre.length → nameB s = false by
        intro h; apply nameB_long; rw [HT.out]; simp; omega)
      cases hl1 : letterB (rn s pos)
      · by_cases hz0 : pos = 0
        · have HV := Lib.hid (HNO.out (by unfold okB; rw [hl1, hz0]; simp))
          have hp0 : ((pre.length : Int) == 0) = true := by rw [beq_iff_eq, hpp.2 hz0]; rfl
          clear hz0 hpp
          go_wp2_with fail
          refine (letter_any _ _).mono ?_
          rintro e w2 ⟨rfl, hb2⟩
          rw [hl1]
          go_wp2_with fail
          go_ret
          exact ⟨ret_bool HV.out.symm, hB1.trans (hb2.mono hB1.size)⟩
        · have hp0 : ((pre.length : Int) == 0) = false := by
            rw [beq_eq_false_iff_ne]; intro h; exact hz0 (hpp.1 (List.length_eq_zero_iff.1 (by omega)))
          clear hpp
          cases hd : digitB (rn s pos)
          · have HV := Lib.hid (HNO.out (by unfold okB; rw [hl1, hd]; simp))
            clear hz0
            go_wp2_with fail
            refine (letter_any _ _).mono ?_
            rintro e w2 ⟨rfl, hb2⟩
            rw [hl1]
            go_wp2_with fail
            refine (digit_any _ _).mono ?_
            rintro e w3 ⟨rfl, hb3⟩
            rw [hd]
            go_wp2_with fail
            go_ret
            exact ⟨ret_bool HV.out.symm, (hB1.trans (hb2.mono hB1.size)).trans (hb3.mono (Nat.le_trans hB1.size hb2.size))⟩
          · have HK := Lib.hid (HP2.out (by unfold okB; rw [hd]; simp [hz0]))
            clear hz0
            by_cases h24 : pre.length < 24
            · go_wp2_with fail
              refine (letter_any _ _).mono ?_
              rintro e w2 ⟨rfl, hb2⟩
              rw [hl1]
              have hit2 := iter_kept hit1 hb2
              have hB2 := hB1.trans (hb2.mono hB1.size)
              clear hit1 hB1 hb2
              go_wp2_with fail
              refine (digit_any _ _).mono ?_
              rintro e w3 ⟨rfl, hb3⟩
              rw [hd]
              have hit3 := iter_kept hit2 hb3
              have hB3 := hB2.trans (hb3.mono hB2.size)
              clear hit2 hB2 hb3
              go_wp2_with fail
              go_roundw
              case rel => exact ⟨pre ++ [pos], pos + wd s pos, by rw [List.length_append]; go_num, hit3, hB3, HN.out, by simp; omega, HK.out⟩
              case measure => rw [iterPos_at hit3, hmeas.out]; have := wd_pos s pos; omega
            · have HV := Lib.hid (HL.out (by omega))
              have h25 : (24 : Int) < (pre.length : Int) + 1 := by omega
              go_wp2_with fail
              refine (letter_any _ _).mono ?_
              rintro e w2 ⟨rfl, hb2⟩
              rw [hl1]
              go_wp2_with fail
              refine (digit_any _ _).mono ?_
              rintro e w3 ⟨rfl, hb3⟩
              rw [hd]
              go_wp2_with fail
              go_ret
              exact ⟨ret_bool HV.out.symm, (hB1.trans (hb2.mono hB1.size)).trans (hb3.mono (Nat.le_trans hB1.size hb2.size))⟩
      · have HK := Lib.hid (HP2.out (by unfold okB; rw [hl1]; simp))
        clear hpp
        by_cases h24 : pre.length < 24
        · go_wp2_with fail
          refine (letter_any _ _).mono ?_
          rintro e w2 ⟨rfl, hb2⟩
          rw [hl1]
          have hit2 := iter_kept hit1 hb2
          have hB2 := hB1.trans (hb2.mono hB1.size)
          clear hit1 hB1 hb2
          go_wp2_with fail
          go_roundw
          case rel => exact ⟨pre ++ [pos], pos + wd s pos, by rw [List.length_append]; go_num, hit2, hB2, HN.out, by simp; omega, HK.out⟩
          case measure => rw [iterPos_at hit2, hmeas.out]; have := wd_pos s pos; omega
        · have HV := Lib.hid (HL.out (by omega))
          have h25 : (24 : Int) < (pre.length : Int) + 1 := by omega
          go_wp2_with fail
          refine (letter_any _ _).mono ?_
          rintro e w2 ⟨rfl, hb2⟩
          rw [hl1]
          go_wp2_with fail
          go_ret
          exact ⟨ret_bool HV.out.symm, hB1.trans (hb2.mono hB1.size)⟩
    · have hnx := Lib.run_next_end_at (P := Tryd.prog) wr w.heap.size s pos 0 hit hlt
      have he := HS.out.stop hlt
      have HV : Hid (decide (0 < (pre.length : Int)) = nameB s) := by
        by_cases hp : 0 < pre.length
        · rw [nameB_yes s pre he hp hl HO.out]; exact Lib.hid (by simp; omega)
        · have : pre = [] := List.length_eq_zero_iff.1 (by omega)
          have hz : s.size = 0 := by have := hpp.1 this; omega
          rw [nameB_empty s hz]; exact Lib.hid (by simp; omega)
      clear he hpp
      go_wp2_with fail
      go_ret
      exact ⟨ret_bool (by have := HV.out; simpa using this), hB⟩
/-- what a walk through the runes ahead of a place holds -/
def PlaceRel (s : ByteArray) (at' : Nat) (w : World) (l c : Value) (wr : World) : Prop :=
  ∃ (pre : List Nat) (pos : Nat), l = .int .i64 (1 + (nl s pos : Int)) ∧ c = .int .i64 (1 + ((pre.length - qOf s (nlast s pos) : Nat) : Int)) ∧ wr.heap[w.heap.size]? = some (.stringIter s pos) ∧ Below w.heap.size w wr ∧ Stand s pre pos ∧
    qOf s (nlast s pos) ≤ pre.length ∧ (∀ p ∈ pre, p < at') ∧ (pos ≤ at' ∨ ∀ j, at' ≤ j → j < pos → byteAt s j ≠ 10)
theorem place_end {s : ByteArray} {at' pos : Nat} {pre : List Nat} (hst : Stand s pre pos) (hp : ∀ p ∈ pre, p < at') (hn : pos ≤ at' ∨ ∀ j, at' ≤ j → j < pos → byteAt s j ≠ 10) (hge : at' ≤ pos) :
    1 + (nl s pos : Int) = lineI s at' ∧ 1 + ((pre.length - qOf s (nlast s pos) : Nat) : Int) = colI s at' := by
  have h := nl_skip s at' pos hge (by
    rcases hn with hn | hn
    · intro j h1 h2; omega
    · exact hn)
  unfold lineI colI
  rw [h.1, h.2, hst.below hp hge]; exact ⟨rfl, rfl⟩

theorem qOf_zero (s : ByteArray) : qOf s 0 = 0 := (Stand.start s).q
set_option maxHeartbeats 800000 in
theorem place_any (s : ByteArray) (k : Nat) (w : World) (hs : s.size ≤ 140737488351232) (hk : k ≤ s.size) :
    Calls Tryd.prog 18 #[.string s, .int .i64 k] w fun e w' => e = .returned (.tuple #[.int .i64 (lineI s k), .int .i64 (colI s k)]) ∧ Below w.heap.size w w' := by
  have h0 := iter_start w s
  have hk1 : (k : Int) ≤ s.size := by omega
  go_enter Tryd.func18, Tryd.ntmps18
  go_wp2_with fail
  go_loopw [4, 5] (fun l c wr => PlaceRel s k w l c wr) (fun _ _ wr => s.size - wr.iterPos w.heap.size)
  case atStart => exact ⟨[], 0, rfl, by simp, h0.1, h0.2, Stand.start s, by rw [show nlast s 0 = 0 from rfl, qOf_zero]; exact Nat.zero_le _, by simp, .inl (Nat.zero_le _)⟩
  case round =>
    clear h0
    obtain ⟨pre, pos, rfl, rfl, hit, hB, hst, hq, hp, hn⟩ := hrel
    have hle := hst.2.1
    have hnl := nl_le s pos
    have HS := Lib.hid hst
    have HP := Lib.hid hp
    have HN := Lib.hid hn
    have HQ := Lib.hid hq
    clear hst hp hn hq
    by_cases hlt : pos < s.size
    · obtain ⟨W1, hnx, hit1, hb1, hz1⟩ := range_step (P := Tryd.prog) wr w.heap.size s pos 0 hit hlt
      have hB1 : Below w.heap.size w W1 := hB.trans hb1
      have hmeas := Lib.hid (iterPos_at hit)
      clear hit hb1 hz1
      by_cases hat : pos < k
      · have HX := Lib.hid (HS.out.next hlt)
        have HP2 := Lib.hid (show ∀ p ∈ pre ++ [pos], p < k by
          intro p hm; rcases List.mem_append.1 hm with hm | hm
          · exact HP.out p hm
          · simp at hm; omega)
        have HN2 := Lib.hid (show pos + wd s pos ≤ k ∨ ∀ j, k ≤ j → j < pos + wd s pos → byteAt s j ≠ 10 from .inr (fun j h1 h2 => inner_ten s pos j (by omega) h2))
        cases hr : ((rn s pos : Int) == 10)
        · have hr' : rn s pos ≠ 10 := by intro e; rw [e] at hr; simp at hr
          have HL := Lib.hid (nl_no s pos hr')
          clear hr'
          go_wp2_with fail
          go_roundw
          case rel => exact ⟨pre ++ [pos], pos + wd s pos, by rw [HL.out.1], by rw [HL.out.2]; have := HQ.out; rw [List.length_append]; simp; omega, hit1, hB1, HX.out, by rw [HL.out.2]; have := HQ.out; simp; omega, HP2.out, HN2.out⟩
          case measure => rw [iterPos_at hit1, hmeas.out]; have := wd_pos s pos; omega
        · have hr' : rn s pos = 10 := by have := beq_iff_eq.1 hr; omega
          have HL := Lib.hid (nl_yes s pos hr')
          clear hr'
          go_wp2_with fail
          go_roundw
          case rel => exact ⟨pre ++ [pos], pos + wd s pos, by rw [HL.out.1]; go_num, by rw [HL.out.2, HX.out.q]; simp, hit1, hB1, HX.out, by rw [HL.out.2, HX.out.q]; exact Nat.le_refl _, HP2.out, HN2.out⟩
          case measure => rw [iterPos_at hit1, hmeas.out]; have := wd_pos s pos; omega
      · have HE := Lib.hid (place_end HS.out HP.out HN.out (by omega))
        go_wp2_with fail
        go_ret2
        exact ⟨ret_ii HE.out.1 HE.out.2, hB1⟩
    · have hnx := Lib.run_next_end_at (P := Tryd.prog) wr w.heap.size s pos 0 hit hlt
      have HE := Lib.hid (place_end HS.out HP.out HN.out (by omega))
      go_wp2_with fail
      go_ret2
      exact ⟨ret_ii HE.out.1 HE.out.2, hB⟩

set_option maxHeartbeats 400000 in
theorem place_out (s : ByteArray) (i : Int) (w : World) (h : i < 0 ∨ (s.size : Int) < i) :
    Calls Tryd.prog 18 #[.string s, .int .i64 i] w fun e w' => e = .returned (.tuple #[.int .i64 0, .int .i64 0]) ∧ w = w' := by
  rcases h with h | h
  · go_enter Tryd.func18, Tryd.ntmps18
    go_wp2_with fail
    go_ret2
    exact ⟨rfl, rfl⟩
  · have h0 : 0 ≤ i := by omega
    go_enter Tryd.func18, Tryd.ntmps18
    go_wp2_with fail
    go_ret2
    exact ⟨rfl, rfl⟩
end Go.Proofs.YthdcamklbjlanaaDoor
