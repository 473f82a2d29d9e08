import Derived.Test.YtgfjdnmnjabbbaaDoorNoteQ
import Derived.Test.YtgfjdnmnjabbbaaDoorPolV
set_option linter.unusedSimpArgs false
set_option linter.unusedVariables false
/-! PolicyNotes: the walk -/
namespace Go.Proofs.YtgfjdnmnjabbbaaDoor
open Go.RowKit

theorem pol_cells6 {w W : World} {v0 v1 v2 v3 : Value} {d : Int} (h : Below (w.alloc (.cells #[v0, v1, v2, v3, .int .i64 d] 26)).heap.size (w.alloc (.cells #[v0, v1, v2, v3, .int .i64 d] 26)) W) :
    W.cell? ⟨w.heap.size, 0, none⟩ = some v0 ∧ W.cell? ⟨w.heap.size, 1, none⟩ = some v1 ∧ W.cell? ⟨w.heap.size, 2, none⟩ = some v2 ∧ W.cell? ⟨w.heap.size, 3, none⟩ = some v3 ∧ W.cell? ⟨w.heap.size, 4, none⟩ = some (.int .i64 d) :=
  block_cells ((h.block w.heap.size (by simp)).trans (new_block (w := w) rfl rfl))
/-- the note's first bytes hold no end of a line -/
def No10 (note : ByteArray) (k : Nat) : Prop := ∀ c ∈ note.data.toList.take k, c ≠ 10
theorem No10.zero (note : ByteArray) : No10 note 0 := fun c h => by simp at h
theorem take_succ8 (s : ByteArray) (k : Nat) (h : k < s.size) : s.data.toList.take (k + 1) = s.data.toList.take k ++ [s[k]] := by
  rw [List.take_succ_eq_append_getElem (by simpa using h)]; rfl
theorem No10.next {note : ByteArray} {k : Nat} (h : No10 note k) (hk : k < note.size) (hc : ((note[k].toNat : Int) == 10) = false) : No10 note (k + 1) := by
  intro c hm
  rw [take_succ8 note k hk, List.mem_append] at hm
  rcases hm with hm | hm
  · exact h c hm
  · simp at hm
    subst hm
    intro e
    rw [e] at hc
    exact absurd hc (by decide)

/-- the text with blanks more, so far -/
def WideK (note s : ByteArray) (k : Nat) (X : ByteArray) : Prop := X.data.toList = 35 :: 32 :: note.data.toList ++ 10 :: 9 :: 10 :: wideL (s.data.toList.take k)
theorem WideK.zero (note s : ByteArray) : WideK note s 0 ((⟨#[35, 32]⟩ : ByteArray) ++ note ++ ⟨#[10, 9, 10]⟩) := by
  unfold WideK
  simp [ByteArray.data_append, wideL]
theorem wide_next {note s : ByteArray} {k : Nat} (hk : k < s.size) : wideL (s.data.toList.take (k + 1)) = wideL (s.data.toList.take k) ++ wide1 s[k] := by
  rw [take_succ8 s k hk]
  simp [wideL]
theorem WideK.next {note s X Y : ByteArray} {k : Nat} (h : WideK note s k X) (hk : k < s.size) (hY : Y.data.toList = X.data.toList ++ wide1 s[k]) : WideK note s (k + 1) Y := by
  unfold WideK at h ⊢
  rw [hY, h, wide_next (note := note) hk]
  simp
theorem one_byte (s : ByteArray) (k : Nat) (hk : k < s.size) : (s.extract k (k + 1)).data.toList = [s[k]] := by
  rw [extract_list]
  unfold Lib.pieceU
  rw [Nat.add_sub_cancel_left, List.drop_eq_getElem_cons (by simpa using hk)]
  rfl
theorem WideK.all {note s X : ByteArray} (h : WideK note s s.size X) : X.data.toList = noteL note.data.toList s.data.toList := by
  unfold WideK at h
  rw [List.take_of_length_le (by simp)] at h
  exact h
theorem No10.all {note : ByteArray} (h : No10 note note.size) : ∀ c ∈ note.data.toList, c ≠ 10 := by
  unfold No10 at h
  rw [List.take_of_length_le (by simp)] at h
  exact h
theorem note_bytes (note : ByteArray) : ((⟨#[35, 32]⟩ : ByteArray) ++ note).data.toList = 35 :: 32 :: note.data.toList := by
  rw [ByteArray.data_append, Array.toList_append]; rfl
theorem byte_is {c : UInt8} {n : Nat} (h : ((c.toNat : Int) == (n : Int)) = true) : c.toNat = n := by have := beq_iff_eq.1 h; omega
theorem byte_not {c : UInt8} {n : Nat} (h : ((c.toNat : Int) == (n : Int)) = false) : c.toNat ≠ n := by intro e; rw [e] at h; simp at h
theorem wide_plain {s X : ByteArray} {k : Nat} (hk : k < s.size) (h1 : s[k].toNat ≠ 10) (h2 : s[k].toNat ≠ 32) : (X ++ s.extract k (k + 1)).data.toList = X.data.toList ++ wide1 s[k] := by
  rw [ByteArray.data_append, Array.toList_append, one_byte s k hk]
  unfold wide1
  rw [if_neg (fun e => h1 (by rw [e]; rfl)), if_neg (fun e => h2 (by rw [e]; rfl))]
theorem wide_10 {s X : ByteArray} {k : Nat} (hk : k < s.size) (h1 : s[k].toNat = 10) : (X ++ s.extract k (k + 1) ++ ⟨#[32, 32]⟩).data.toList = X.data.toList ++ wide1 s[k] := by
  rw [ByteArray.data_append, ByteArray.data_append, Array.toList_append, Array.toList_append, one_byte s k hk]
  have e : s[k] = 10 := UInt8.toNat_inj.1 h1
  unfold wide1
  rw [if_pos e, e]
  simp
theorem wide_32 {s X : ByteArray} {k : Nat} (hk : k < s.size) (h1 : s[k].toNat = 32) : (X ++ s.extract k (k + 1) ++ ⟨#[9]⟩).data.toList = X.data.toList ++ wide1 s[k] := by
  rw [ByteArray.data_append, ByteArray.data_append, Array.toList_append, Array.toList_append, one_byte s k hk]
  have e : s[k] = 32 := UInt8.toNat_inj.1 h1
  unfold wide1
  rw [if_neg (by rw [e]; decide), if_pos e, e]
  simp
theorem wide_size (s X Y : ByteArray) (k n : Nat) (hk : k < s.size) (hX : X.size ≤ 40000) (hY : Y.size = n) (hn : n ≤ 2) : (X ++ s.extract k (k + 1) ++ Y).size ≤ 40003 := by
  rw [ByteArray.size_append, ByteArray.size_append, ByteArray.size_extract]; omega
set_option maxRecDepth 100000 in
set_option maxHeartbeats 6400000 in
theorem notes_any (s note : ByteArray) (w : World) (z1 : s.size ≤ 140737488351232) (z2 : note.size ≤ 140737488351232) (hT : Go.Lib.Utf8Tabs 0 1 w) (hE : Errs w) (hP : Pow w) (hM : MaxL w) (hTz : Tz w) :
    Calls Tryd.prog 4 #[.string s, .string note] w fun e w' => e = .returned (.bool true) ∧ Below w.heap.size w w' := by
  have HT := Lib.hid hT
  have HE := Lib.hid hE
  have HPw := Lib.hid hP
  have HM := Lib.hid hM
  have HTz := Lib.hid hTz
  clear hT hE hP hM hTz
  by_cases h1 : 10000 < s.size
  · have e1 : decide ((10000 : Int) < (s.size : Int)) = true := decide_eq_true (by omega)
    go_enter Tryd.func4, Tryd.ntmps4
    go_wp2_with fail
    go_ret
    exact ⟨rfl, Below.refl _ _⟩
  have e1 : decide ((10000 : Int) < (s.size : Int)) = false := decide_eq_false (by omega)
  by_cases h2 : 1000 < note.size
  · have e2 : decide ((1000 : Int) < (note.size : Int)) = true := decide_eq_true (by omega)
    go_enter Tryd.func4, Tryd.ntmps4
    go_wp2_with fail
    go_ret
    exact ⟨rfl, Below.refl _ _⟩
  have e2 : decide ((1000 : Int) < (note.size : Int)) = false := decide_eq_false (by omega)
  go_enter Tryd.func4, Tryd.ntmps4
  go_wp2_with fail
  go_loop [5] (fun i => ∃ k : Nat, k ≤ note.size ∧ i = .int .i64 (k : Int) ∧ RowKit.Hid (No10 note k)) (fun i => note.size - (intOf i).toNat)
  case atStart => exact ⟨0, Nat.zero_le _, rfl, No10.zero note⟩
  case round =>
    obtain ⟨k, hk, rfl, HN⟩ := hrel
    by_cases hlt : k < note.size
    · cases hc : ((note[k].toNat : Int) == 10)
      · have HN2 := Lib.hid (No10.next HN.out hlt hc)
        go_wp2_with fail
        go_round
        case rel => exact ⟨k + 1, by omega, by go_num, HN2⟩
        case measure => simp [intOf]; omega
      · go_wp2_with fail
        go_ret
        exact ⟨rfl, Below.refl _ _⟩
    · obtain rfl : k = note.size := by omega
      clear hk hlt
      go_wp2_with fail
      go_loop [6, 7] (fun x i => ∃ (k : Nat) (X : ByteArray), k ≤ s.size ∧ i = .int .i64 (k : Int) ∧ x = .string X ∧ X.size ≤ 40003 ∧ RowKit.Hid (WideK note s k X)) (fun _ i => s.size - (intOf i).toNat)
      case atStart => exact ⟨0, _, Nat.zero_le _, rfl, rfl, by rw [ByteArray.size_append, ByteArray.size_append, show (⟨#[35, 32]⟩ : ByteArray).size = 2 from rfl, show (⟨#[10, 9, 10]⟩ : ByteArray).size = 3 from rfl]; omega, WideK.zero note s⟩
      case round =>
        obtain ⟨k, X, hk, rfl, rfl, hX, HW⟩ := hrel
        by_cases hlt : k < s.size
        · by_cases h4 : 40000 < X.size
          · have e4 : decide ((40000 : Int) < (X.size : Int)) = true := decide_eq_true (by omega)
            go_wp2_with fail
            go_ret
            exact ⟨rfl, Below.refl _ _⟩
          · have e4 : decide ((40000 : Int) < (X.size : Int)) = false := decide_eq_false (by omega)
            have i1 : (0 : Int) ≤ k ∧ (k : Int) + 1 ≤ s.size := by omega
            have hone := Lib.hid (one_byte s k hlt)
            have hX' : X.size ≤ 40000 := by omega
            clear h4
            cases hc : ((s[k].toNat : Int) == 10)
            · cases hd : ((s[k].toNat : Int) == 32)
              · have HW2 := Lib.hid (HW.out.next hlt (wide_plain hlt (byte_not (n := 10) hc) (byte_not (n := 32) hd)))
                go_wp2_with fail
                go_round
                case rel => exact ⟨k + 1, _, by omega, by go_num, rfl, by rw [ByteArray.size_append, ByteArray.size_extract]; omega, HW2⟩
                case measure => simp [intOf]; omega
              · have HW2 := Lib.hid (HW.out.next hlt (wide_32 hlt (byte_is (n := 32) hd)))
                go_wp2_with fail
                go_round
                case rel => exact ⟨k + 1, _, by omega, by go_num, rfl, wide_size s X _ k 1 hlt hX' rfl (by decide), HW2⟩
                case measure => simp [intOf]; omega
            · have hd : ((s[k].toNat : Int) == 32) = false := by
                have := byte_is (n := 10) hc
                rw [this]; rfl
              have HW2 := Lib.hid (HW.out.next hlt (wide_10 hlt (byte_is (n := 10) hc)))
              go_wp2_with fail
              go_round
              case rel => exact ⟨k + 1, _, by omega, by go_num, rfl, wide_size s X _ k 2 hlt hX' rfl (by decide), HW2⟩
              case measure => simp [intOf]; omega
        · obtain rfl : k = s.size := by omega
          clear hk hlt
          have HX := Lib.hid (WideK.all HW.out)
          have HNN := Lib.hid (No10.all HN.out)
          have hsz : s.size ≤ 65536 := by omega
          have hnz : ((⟨#[35, 32]⟩ : ByteArray) ++ note).size ≤ 65536 := by rw [ByteArray.size_append, show (⟨#[35, 32]⟩ : ByteArray).size = 2 from rfl]; omega
          have hxz : X.size ≤ 65536 := by omega
          have HB := Lib.hid (Below.refl w.heap.size w)
          have hn1 : note.size ≤ 1000 := by omega
          clear HW HN h1 h2 e1 e2 z1 z2
          go_wp2_with fail
          refine (parse6_any s _ (by omega) (Utf8Tabs_below HT.out HB.out) (HE.out.below HB.out) (HPw.out.below HB.out) (HM.out.below HB.out) (HTz.out.on HB.out)).mono ?_
          rintro e w1 ⟨v, st1, S1, at1, k1, rfl, ⟨vL, vU, vI, vO, rfl, b0, b1, b2, b3⟩, hp1, hb⟩
          obtain ⟨aL1, cL1, rfl⟩ := b0.form
          obtain ⟨aU1, cU1, rfl⟩ := b1.form
          obtain ⟨aI1, cI1, rfl⟩ := b2.form
          obtain ⟨aO1, cO1, rfl⟩ := b3.form
          have HP1 := Lib.hid hp1
          have hst : Below w1.heap.size w1 (w1.alloc (.cells #[.slice aL1 st1.L.length cL1, .slice aU1 S1.length cU1, .slice aI1 st1.I.length cI1, .slice aO1 st1.O.length cO1, .int .i64 st1.D] 26)) := (Below.refl _ _).alloc (Nat.le_refl _) _
          have HV1 := Lib.hid (PolV.below (show PolV w1 (.agg #[.slice aL1 st1.L.length cL1, .slice aU1 S1.length cU1, .slice aI1 st1.I.length cI1, .slice aO1 st1.O.length cO1, .int .i64 st1.D]) st1 S1 from ⟨_, _, _, _, rfl, b0, b1, b2, b3⟩) hst)
          have HG1 := Lib.hid (Below.refl (w1.alloc (.cells #[.slice aL1 st1.L.length cL1, .slice aU1 S1.length cU1, .slice aI1 st1.I.length cI1, .slice aO1 st1.O.length cO1, .int .i64 st1.D] 26)).heap.size (w1.alloc (.cells #[.slice aL1 st1.L.length cL1, .slice aU1 S1.length cU1, .slice aI1 st1.I.length cI1, .slice aO1 st1.O.length cO1, .int .i64 st1.D] 26)))
          have HB_ := Lib.hid (HB.out.trans ((hb.trans (hst.mono hb.size)).mono HB.out.size))
          clear HB hp1 b0 b1 b2 b3 hb hst
          have HB := HB_
          clear HB_
          go_wp2_with fail
          refine (parse6_any ((⟨#[35, 32]⟩ : ByteArray) ++ note) _ (by omega) (Utf8Tabs_below HT.out HB.out) (HE.out.below HB.out) (HPw.out.below HB.out) (HM.out.below HB.out) (HTz.out.on HB.out)).mono ?_
          rintro e w2 ⟨v, st2, S2, at2, k2, rfl, ⟨vL, vU, vI, vO, rfl, b0, b1, b2, b3⟩, hp2, hb⟩
          obtain ⟨aL2, cL2, rfl⟩ := b0.form
          obtain ⟨aU2, cU2, rfl⟩ := b1.form
          obtain ⟨aI2, cI2, rfl⟩ := b2.form
          obtain ⟨aO2, cO2, rfl⟩ := b3.form
          have HP2 := Lib.hid hp2
          have hst : Below w2.heap.size w2 (w2.alloc (.cells #[.slice aL2 st2.L.length cL2, .slice aU2 S2.length cU2, .slice aI2 st2.I.length cI2, .slice aO2 st2.O.length cO2, .int .i64 st2.D] 26)) := (Below.refl _ _).alloc (Nat.le_refl _) _
          have HV2 := Lib.hid (PolV.below (show PolV w2 (.agg #[.slice aL2 st2.L.length cL2, .slice aU2 S2.length cU2, .slice aI2 st2.I.length cI2, .slice aO2 st2.O.length cO2, .int .i64 st2.D]) st2 S2 from ⟨_, _, _, _, rfl, b0, b1, b2, b3⟩) hst)
          have HV1_ := Lib.hid (PolV.below HV1.out (hb.trans (hst.mono hb.size)))
          have HG1_ := Lib.hid (HG1.out.trans ((hb.trans (hst.mono hb.size)).mono HG1.out.size))
          clear HV1 HG1
          have HV1 := HV1_
          have HG1 := HG1_
          clear HV1_ HG1_
          have HG2 := Lib.hid (Below.refl (w2.alloc (.cells #[.slice aL2 st2.L.length cL2, .slice aU2 S2.length cU2, .slice aI2 st2.I.length cI2, .slice aO2 st2.O.length cO2, .int .i64 st2.D] 26)).heap.size (w2.alloc (.cells #[.slice aL2 st2.L.length cL2, .slice aU2 S2.length cU2, .slice aI2 st2.I.length cI2, .slice aO2 st2.O.length cO2, .int .i64 st2.D] 26)))
          have HB_ := Lib.hid (HB.out.trans ((hb.trans (hst.mono hb.size)).mono HB.out.size))
          clear HB hp2 b0 b1 b2 b3 hb hst
          have HB := HB_
          clear HB_
          go_wp2_with fail
          refine (parse6_any X _ (by omega) (Utf8Tabs_below HT.out HB.out) (HE.out.below HB.out) (HPw.out.below HB.out) (HM.out.below HB.out) (HTz.out.on HB.out)).mono ?_
          rintro e w3 ⟨v, st3, S3, at3, k3, rfl, ⟨vL, vU, vI, vO, rfl, b0, b1, b2, b3⟩, hp3, hb⟩
          obtain ⟨aL3, cL3, rfl⟩ := b0.form
          obtain ⟨aU3, cU3, rfl⟩ := b1.form
          obtain ⟨aI3, cI3, rfl⟩ := b2.form
          obtain ⟨aO3, cO3, rfl⟩ := b3.form
          have HP3 := Lib.hid hp3
          have hst : Below w3.heap.size w3 (w3.alloc (.cells #[.slice aL3 st3.L.length cL3, .slice aU3 S3.length cU3, .slice aI3 st3.I.length cI3, .slice aO3 st3.O.length cO3, .int .i64 st3.D] 26)) := (Below.refl _ _).alloc (Nat.le_refl _) _
          have HV3 := Lib.hid (PolV.below (show PolV w3 (.agg #[.slice aL3 st3.L.length cL3, .slice aU3 S3.length cU3, .slice aI3 st3.I.length cI3, .slice aO3 st3.O.length cO3, .int .i64 st3.D]) st3 S3 from ⟨_, _, _, _, rfl, b0, b1, b2, b3⟩) hst)
          have HV1_ := Lib.hid (PolV.below HV1.out (hb.trans (hst.mono hb.size)))
          have HG1_ := Lib.hid (HG1.out.trans ((hb.trans (hst.mono hb.size)).mono HG1.out.size))
          clear HV1 HG1
          have HV1 := HV1_
          have HG1 := HG1_
          clear HV1_ HG1_
          have HV2_ := Lib.hid (PolV.below HV2.out (hb.trans (hst.mono hb.size)))
          have HG2_ := Lib.hid (HG2.out.trans ((hb.trans (hst.mono hb.size)).mono HG2.out.size))
          clear HV2 HG2
          have HV2 := HV2_
          have HG2 := HG2_
          clear HV2_ HG2_
          have HG3 := Lib.hid (Below.refl (w3.alloc (.cells #[.slice aL3 st3.L.length cL3, .slice aU3 S3.length cU3, .slice aI3 st3.I.length cI3, .slice aO3 st3.O.length cO3, .int .i64 st3.D] 26)).heap.size (w3.alloc (.cells #[.slice aL3 st3.L.length cL3, .slice aU3 S3.length cU3, .slice aI3 st3.I.length cI3, .slice aO3 st3.O.length cO3, .int .i64 st3.D] 26)))
          have HB_ := Lib.hid (HB.out.trans ((hb.trans (hst.mono hb.size)).mono HB.out.size))
          clear HB hp3 b0 b1 b2 b3 hb hst
          have HB := HB_
          clear HB_
          obtain ⟨⟨lL, lI, lO⟩, lS⟩ := parse_len HP1.out
          have hz1 := note_parse HNN.out (note_bytes note) HX.out hsz hnz hxz HP1.out HP2.out HP3.out
          clear HP1 HP2 HP3 HX HNN hsz hnz hxz
          rcases hz1 with ⟨rfl, rfl⟩ | ⟨hf5, rfl, rfl, rfl⟩
          · clear HV1 HV2 HV3 HG1 HG2 HG3
            go_wp2_with fail
            refine (awake6_any _ (Utf8Tabs_below HT.out HB.out) (HE.out.below HB.out) (HPw.out.below HB.out) (HM.out.below HB.out) (HTz.out.on HB.out)).mono ?_
            rintro e w4 ⟨rfl, hb⟩
            go_wp2_with fail
            go_ret
            exact ⟨rfl, bstep HB.out hb⟩
          · have e5 : (k2 == 5) = false := by rw [beq_eq_false_iff_ne]; exact hf5
            have e6 : (k1 == k1) = true := beq_self_eq_true k1
            obtain ⟨c0, c1, c2, c3, c4⟩ := pol_cells6 HG1.out
            obtain ⟨d0, d1, d2, d3, d4⟩ := pol_cells6 HG3.out
            clear HV2 HG1 HG2 HG3 hf5
            go_wp2_with fail
            refine (rsame6_any _ _ st1 S1 _ HV1.out HV3.out (by omega) (by omega) (by omega) (by omega)).mono ?_
            rintro e w4 ⟨rfl, hb⟩
            have HB4 := Lib.hid (bstep HB.out hb)
            clear hb HB c0 c1 c2 c3 c4 d0 d1 d2 d3 d4 HV1 HV3
            go_wp2_with fail
            refine (awake6_any _ (Utf8Tabs_below HT.out HB4.out) (HE.out.below HB4.out) (HPw.out.below HB4.out) (HM.out.below HB4.out) (HTz.out.on HB4.out)).mono ?_
            rintro e w5 ⟨rfl, hb⟩
            go_wp2_with fail
            go_ret
            exact ⟨rfl, bstep HB4.out hb⟩
end Go.Proofs.YtgfjdnmnjabbbaaDoor
