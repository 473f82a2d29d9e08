import Derived.Test.YthdcamklbjlanaaDoorBase
import Derived.Test.YthdcamklbjlanaaDoorLays
import Derived.Lib.ItoaLen
/-! the walks of text.Show and of the reference's Show -/
namespace Go.Proofs.YthdcamklbjlanaaDoor
set_option linter.unusedVariables false
open Go.RowKit Go.Sort Go.Shelf

/-- the numeral as bytes -/
def num (n : Int) : ByteArray := ⟨(Lib.itoa n).toArray⟩
def Pow (w : World) : Prop := Lib.TabIs Tryd.prog w "internal/strconv.uint64pow10" .u64 Lib.pow10Tab

theorem num_size (n : Int) (h0 : -9223372036854775808 ≤ n) (h1 : n ≤ 9223372036854775807) : (num n).size ≤ 21 := by
  have := Lib.itoa_length_le n h0 h1
  simpa [num, ByteArray.size] using this

theorem below_grew (w : World) (q : Nat) (os : Array Obj) : Below w.heap.size w (grow (w.drewN q) os) :=
  ⟨rfl, rfl, rfl, by first | (simp [grow]; done) | (simp [grow]; omega), fun i hi => by
    show ((w.drewN q).heap ++ os)[i]? = _
    rw [Array.getElem?_append_left (by show i < w.heap.size; omega)]
    rfl⟩

set_option maxHeartbeats 400000 in
theorem show_any (n : Int) (hn : (Lit.int .i64 n).wf = true) (w : World) (htab : Pow w) :
    Calls Tryd.prog 16 #[.int .i64 n] w fun e w' => e = .returned (.string (num n)) ∧ Below w.heap.size w w' := by
  have H := Lib.hid (wf_i64_bd hn)
  have HT := Lib.hid htab
  clear htab hn
  go_enter Tryd.func16, Tryd.ntmps16
  go_wp2_with fail
  refine (Tryd.strconv_FormatInt_10 n H.out.1 H.out.2 _ HT.out).mono ?_
  rintro e w1 ⟨rfl, k, os, rfl⟩
  go_wp2_with fail
  go_ret
  exact ⟨rfl, below_grew w k os⟩

theorem digit_ext : ∀ d : Fin 10, (⟨#[48, 49, 50, 51, 52, 53, 54, 55, 56, 57]⟩ : ByteArray).extract d.val (d.val + 1) = ⟨#[UInt8.ofNat (48 + d.val)]⟩ := by decide +kernel
theorem digit_cons (d : Nat) (h : d < 10) (o : List UInt8) : (⟨#[48, 49, 50, 51, 52, 53, 54, 55, 56, 57]⟩ : ByteArray).extract d (d + 1) ++ ⟨o.toArray⟩ = ⟨(UInt8.ofNat (48 + d) :: o).toArray⟩ := by
  have := digit_ext ⟨d, h⟩
  simp only at this
  rw [this, show (⟨#[UInt8.ofNat (48 + d)]⟩ : ByteArray) = ⟨[UInt8.ofNat (48 + d)].toArray⟩ from rfl, ByteArray.mk_append_mk]
  rfl

theorem dec_len (n u : Nat) (o : List UInt8) (hn : n ≤ 9223372036854775807) (h : Lib.decDigits n = Lib.decDigits u ++ o) : o.length ≤ 20 := by
  have e := congrArg List.length h
  have := Lib.nDigits_le20 n (by omega)
  rw [List.length_append, Lib.decDigits_length] at e
  omega

set_option maxHeartbeats 400000 in
theorem rshow_pos (n : Nat) (hn : n ≤ 9223372036854775807) (w : World) :
    Calls Tryd.prog 17 #[.int .i64 n] w fun e w' => e = .returned (.string (num n)) ∧ ∃ k, w' = w.drewN k := by
  have hm : ((n : Int) == -9223372036854775808) = false := by rw [beq_eq_false_iff_ne]; omega
  have h0 : ¬ (n : Int) < 0 := by omega
  go_enter Tryd.func17, Tryd.ntmps17
  go_wp2
  go_loopw [0, 3] (fun i c wr => ∃ (u k : Nat) (o : List UInt8), i = .int .i64 (u : Int) ∧ c = .string ⟨o.toArray⟩ ∧ wr = w.drewN k ∧ RowKit.Hid (u ≤ n ∧ Lib.decDigits n = Lib.decDigits u ++ o)) (fun i _ _ => (intOf i).toNat)
  case atStart => exact ⟨n, 0, [], rfl, rfl, rfl, Nat.le_refl _, by simp⟩
  case round =>
    obtain ⟨u, k, o, rfl, rfl, rfl, hst⟩ := hrel
    have ho := dec_len n u o hn hst.out.2
    have hu := hst.out.1
    by_cases hlt : (10 : Int) ≤ (u : Int)
    · have HD := Lib.hid (digit_cons (u % 10) (by omega) o)
      have HE := Lib.hid (show Lib.decDigits n = Lib.decDigits (u / 10) ++ (UInt8.ofNat (48 + u % 10) :: o) by
        rw [hst.out.2, Lib.decDigits, dif_neg (by omega)]; simp)
      go_wp2_with fail
      go_roundw
      case rel => exact ⟨u / 10, _, _, by go_num, by rw [HD.out], rfl, by omega, HE.out⟩
      case measure => simp only [intOf]; omega
    · have HD := Lib.hid (digit_cons u (by omega) o)
      have HE := Lib.hid (show Lib.decDigits n = UInt8.ofNat (48 + u) :: o by rw [hst.out.2, Lib.decDigits, dif_pos (by omega)]; rfl)
      go_wp2_with fail
      go_ret
      refine ⟨?_, _, rfl⟩
      rw [HD.out, ← HE.out, num, Lib.itoa_nonneg]; rfl

theorem min_num : num (-9223372036854775808) = ⟨#[45, 57, 50, 50, 51, 51, 55, 50, 48, 51, 54, 56, 53, 52, 55, 55, 53, 56, 48, 56]⟩ := by
  unfold num Lib.itoa
  decide +kernel

set_option maxHeartbeats 400000 in
theorem rshow_any (n : Int) (h0 : -9223372036854775808 ≤ n) (h1 : n ≤ 9223372036854775807) (w : World) :
    Calls Tryd.prog 17 #[.int .i64 n] w fun e w' => e = .returned (.string (num n)) ∧ ∃ k, w' = w.drewN k := by
  by_cases hp : 0 ≤ n
  · obtain ⟨m, rfl⟩ : ∃ m : Nat, n = m := ⟨n.toNat, by omega⟩
    exact rshow_pos m (by omega) w
  · by_cases hm : n = -9223372036854775808
    · subst hm
      have HM := Lib.hid min_num
      clear h0 h1 hp
      go_enter Tryd.func17, Tryd.ntmps17
      go_wp2
      go_ret
      exact ⟨by rw [HM.out]; rfl, 0, rfl⟩
    · obtain ⟨m, rfl⟩ : ∃ m : Nat, n = -(m : Int) := ⟨(-n).toNat, by omega⟩
      have hm' : ((-(m : Int)) == -9223372036854775808) = false := by rw [beq_eq_false_iff_ne]; exact hm
      have hlt : -(m : Int) < 0 := by omega
      have hmb : m ≤ 9223372036854775807 := by omega
      have hs := num_size m (by omega) (by omega)
      have HN := Lib.hid (show (⟨#[45]⟩ : ByteArray) ++ num m = num (-(m : Int)) by
        unfold num
        rw [Lib.itoa_neg m (by omega), Lib.itoa_nonneg, show (⟨#[45]⟩ : ByteArray) = ⟨[45].toArray⟩ from rfl, ByteArray.mk_append_mk]; rfl)
      clear hm hp
      go_enter Tryd.func17, Tryd.ntmps17
      go_wp2_with fail
      refine (rshow_pos m hmb _).mono ?_
      rintro e w1 ⟨rfl, k, rfl⟩
      go_wp2_with fail
      go_ret
      refine ⟨?_, _, rfl⟩
      rw [← HN.out]
      rfl
end Go.Proofs.YthdcamklbjlanaaDoor
