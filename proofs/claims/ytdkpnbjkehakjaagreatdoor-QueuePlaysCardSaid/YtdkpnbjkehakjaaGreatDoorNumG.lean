import Derived.Test.YtdkpnbjkehakjaaGreatDoorBase
import Derived.Test.YtdkpnbjkehakjaaGreatDoorLays
import Derived.Lib.ItoaLen
import Derived.Lib.ParseIntBTie
import Derived.Lib.ParseIntBCases
import Derived.Test.YtdkpnbjkehakjaaGreatDoorLaysP
import Derived.Lib.AtoiErrMem
/-! the walks of text.Show and of the reference's Show -/
namespace Go.Proofs.YtdkpnbjkehakjaaGreatDoor
set_option linter.unusedVariables false
open Go.RowKit Go.Sort Go.Shelf

/-- the numeral as bytes -/
def num (n : Int) : ByteArray := ⟨(Lib.itoa n).toArray⟩
def Pow (w : World) : Prop := Lib.TabIs Tryz.prog w "internal/strconv.uint64pow10" .u64 Lib.pow10Tab

theorem num_size (n : Int) (h0 : -9223372036854775808 ≤ n) (h1 : n ≤ 9223372036854775807) : (num n).size ≤ 21 := by
  have := Lib.itoa_length_le n h0 h1
  simpa [num, ByteArray.size] using this

theorem below_grew (w : World) (q : Nat) (os : Array Obj) : Below w.heap.size w (grow (w.drewN q) os) :=
  ⟨rfl, rfl, rfl, by first | (simp [grow]; done) | (simp [grow]; omega), fun i hi => by
    show ((w.drewN q).heap ++ os)[i]? = _
    rw [Array.getElem?_append_left (by show i < w.heap.size; omega)]
    rfl⟩

set_option maxHeartbeats 400000 in
theorem show_any (n : Int) (hn : (Lit.int .i64 n).wf = true) (w : World) (htab : Pow w) :
    Calls Tryz.prog 106 #[.int .i64 n] w fun e w' => e = .returned (.string (num n)) ∧ Below w.heap.size w w' := by
  have H := Lib.hid (wf_i64_bd hn)
  have HT := Lib.hid htab
  clear htab hn
  go_enter Tryz.func106, Tryz.ntmps106
  go_wp2_with fail
  refine (Tryz.strconv_FormatInt_10 n H.out.1 H.out.2 _ HT.out).mono ?_
  rintro e w1 ⟨rfl, k, os, rfl⟩
  go_wp2_with fail
  go_ret
  exact ⟨rfl, below_grew w k os⟩

theorem digit_ext : ∀ d : Fin 10, (⟨#[48, 49, 50, 51, 52, 53, 54, 55, 56, 57]⟩ : ByteArray).extract d.val (d.val + 1) = ⟨#[UInt8.ofNat (48 + d.val)]⟩ := by decide +kernel
theorem digit_cons (d : Nat) (h : d < 10) (o : List UInt8) : (⟨#[48, 49, 50, 51, 52, 53, 54, 55, 56, 57]⟩ : ByteArray).extract d (d + 1) ++ ⟨o.toArray⟩ = ⟨(UInt8.ofNat (48 + d) :: o).toArray⟩ := by
  have := digit_ext ⟨d, h⟩
  simp only at this
  rw [this, show (⟨#[UInt8.ofNat (48 + d)]⟩ : ByteArray) = ⟨[UInt8.ofNat (48 + d)].toArray⟩ from rfl, ByteArray.mk_append_mk]
  rfl

theorem dec_len (n u : Nat) (o : List UInt8) (hn : n ≤ 9223372036854775807) (h : Lib.decDigits n = Lib.decDigits u ++ o) : o.length ≤ 20 := by
  have e := congrArg List.length h
  have := Lib.nDigits_le20 n (by omega)
  rw [List.length_append, Lib.decDigits_length] at e
  omega

theorem min_num : num (-9223372036854775808) = ⟨#[45, 57, 50, 50, 51, 51, 55, 50, 48, 51, 54, 56, 53, 52, 55, 55, 53, 56, 48, 56]⟩ := by
  unfold num Lib.itoa
  decide +kernel

end Go.Proofs.YtdkpnbjkehakjaaGreatDoor

/-! plain: what is written is read back -/
namespace Go.Proofs.YtdkpnbjkehakjaaGreatDoor
open Go.RowKit

theorem digit_toNat (d : Nat) (h : d < 10) : (UInt8.ofNat (48 + d)).toNat = 48 + d := by
  simp [UInt8.toNat_ofNat']; omega
theorem dec_mem (u : Nat) : ∀ c ∈ Lib.decDigits u, 48 ≤ c.toNat ∧ c.toNat ≤ 57 := by
  induction u using Nat.strongRecOn with
  | _ u ih =>
    intro c hc
    by_cases h : u < 10
    · rw [Lib.decDigits, dif_pos h] at hc
      simp only [List.mem_singleton] at hc
      subst hc
      rw [digit_toNat u h]; omega
    · rw [Lib.decDigits, dif_neg h] at hc
      rcases List.mem_append.1 hc with hc | hc
      · exact ih (u / 10) (by omega) c hc
      · simp only [List.mem_singleton] at hc
        subst hc
        rw [digit_toNat _ (by omega)]; omega
theorem dec_ne (u : Nat) : Lib.decDigits u ≠ [] := by
  intro e
  have h := Lib.decDigits_length u
  have := Lib.nDigits_pos u
  rw [e] at h; simp at h; omega
theorem parse_dec (u : Nat) : ∀ r : List UInt8, u ≤ 18446744073709551615 → Lib.parseUintM 18446744073709551615 0 (Lib.decDigits u ++ r) = Lib.parseUintM 18446744073709551615 u r := by
  induction u using Nat.strongRecOn with
  | _ u ih =>
    intro r hu
    by_cases h : u < 10
    · rw [Lib.decDigits, dif_pos h]
      simp only [List.cons_append, List.nil_append, Lib.parseUintM]
      rw [digit_toNat u h, if_pos (by omega), if_neg (by omega), if_neg (by omega)]
      congr 1; omega
    · rw [Lib.decDigits, dif_neg h, List.append_assoc, ih (u / 10) (by omega) _ (by omega)]
      simp only [List.cons_append, List.nil_append, Lib.parseUintM]
      rw [digit_toNat _ (by omega), if_pos (by omega), if_neg (by omega), if_neg (by omega)]
      congr 1; omega
theorem parse_mag (u : Nat) (hu : u ≤ 18446744073709551615) : Lib.parseUintB 64 (Lib.decDigits u) = .ok u := by
  unfold Lib.parseUintB
  rw [if_neg (dec_ne u)]
  have := parse_dec u [] hu
  rw [List.append_nil] at this
  exact this
theorem parse_itoa (n : Int) (h0 : -9223372036854775808 ≤ n) (h1 : n ≤ 9223372036854775807) : Lib.parseIntB 64 (Lib.itoa n) = .ok n := by
  by_cases hn : n < 0
  · obtain ⟨u, rfl⟩ : ∃ u : Nat, n = -(u : Int) := ⟨n.natAbs, by omega⟩
    rw [Lib.itoa_neg u (by omega), Lib.parseIntB_minus, parse_mag u (by omega)]
    show (if 2 ^ 63 < u then _ else _) = _
    rw [if_neg (by omega)]
  · obtain ⟨u, rfl⟩ : ∃ u : Nat, n = u := ⟨n.toNat, by omega⟩
    have hm := dec_mem u
    rw [Lib.itoa_nonneg]
    cases hd : Lib.decDigits u with
    | nil => exact absurd hd (dec_ne u)
    | cons c r =>
      have hc := hm c (by rw [hd]; exact List.mem_cons_self ..)
      rw [Lib.parseIntB_plain 64 c r (by omega) (by omega), ← hd, parse_mag u (by omega)]
      show (if 2 ^ 63 ≤ u then _ else _) = _
      rw [if_neg (by omega)]
theorem num_list (n : Int) : (num n).data.toList = Lib.itoa n := by simp [num]

/-- a number's text: which number, if any -/
def NumRel (s : ByteArray) (v : Int) (ok : Bool) : Prop :=
  (ok = true ∧ num v = s ∧ -9223372036854775808 ≤ v ∧ v ≤ 9223372036854775807) ∨ (ok = false ∧ v = 0 ∧ ∀ m : Int, -9223372036854775808 ≤ m → m ≤ 9223372036854775807 → num m ≠ s)
theorem NumRel.same {s : ByteArray} {v v' : Int} {ok ok' : Bool} (h : NumRel s v ok) (h' : NumRel s v' ok') : v = v' ∧ ok = ok' := by
  rcases h with ⟨rfl, e, b0, b1⟩ | ⟨rfl, rfl, n⟩ <;> rcases h' with ⟨rfl, e', b0', b1'⟩ | ⟨rfl, rfl, n'⟩
  · refine ⟨?_, rfl⟩
    have h1 := parse_itoa v b0 b1
    have h2 := parse_itoa v' b0' b1'
    rw [← num_list, e] at h1
    rw [← num_list, e', h1] at h2
    injection h2
  · exact absurd e (n' v b0 b1)
  · exact absurd e' (n v' b0' b1')
  · exact ⟨rfl, rfl⟩
theorem NumRel.of_num {n v : Int} {ok : Bool} (h0 : -9223372036854775808 ≤ n) (h1 : n ≤ 9223372036854775807) (h : NumRel (num n) v ok) : v = n ∧ ok = true :=
  h.same (.inl ⟨rfl, rfl, h0, h1⟩)
theorem NumRel.of_bad {s : ByteArray} (h : ∀ v, Lib.parseIntB 64 s.data.toList ≠ .ok v) : NumRel s 0 false := by
  refine .inr ⟨rfl, rfl, fun m b0 b1 e => h m ?_⟩
  rw [← e, num_list]; exact parse_itoa m b0 b1
theorem NumRel.of_ok {s : ByteArray} {v : Int} (h : Lib.parseIntB 64 s.data.toList = .ok v) : (num v = s → NumRel s v true) ∧ (num v ≠ s → NumRel s 0 false) ∧ -9223372036854775808 ≤ v ∧ v ≤ 9223372036854775807 := by
  have hb := Lib.parseIntB_bounds h
  have h0 : -9223372036854775808 ≤ v := by have := hb.1; simpa using this
  have h1 : v ≤ 9223372036854775807 := by have := hb.2; simp at this; omega
  refine ⟨fun e => .inl ⟨rfl, e, h0, h1⟩, fun ne => .inr ⟨rfl, rfl, fun m b0 b1 e => ne ?_⟩, h0, h1⟩
  have h2 := parse_itoa m b0 b1
  rw [← num_list, e, h] at h2
  injection h2 with h2
  rw [h2]; exact e
end Go.Proofs.YtdkpnbjkehakjaaGreatDoor

/-! the walk of text.Number -/
namespace Go.Proofs.YtdkpnbjkehakjaaGreatDoor
open Go.RowKit

theorem var_below {P : Program} {w w' : World} {n : String} {cs : Array Value} (h : w.var? P n = some cs) (hb : Below w.heap.size w w') : w'.var? P n = some cs := by
  unfold World.var? at h ⊢
  cases hg : P.globalNamed n with
  | none => simp [hg] at h
  | some g =>
    simp only [hg, Option.bind_some] at h ⊢
    have hlt : g < w.heap.size := by
      rcases Nat.lt_or_ge g w.heap.size with h' | h'
      · exact h'
      · simp [Array.getElem?_eq_none h'] at h
    rw [hb.block g hlt]
    exact h
theorem Pow.below {w w' : World} (h : Pow w) (hb : Below w.heap.size w w') : Pow w' := var_below h hb
/-- the two errors that strconv names -/
def Errs (w : World) : Prop := (∃ tp p, w.var? Tryz.prog "strconv.ErrSyntax" = some #[.iface tp p]) ∧ ∃ tp p, w.var? Tryz.prog "strconv.ErrRange" = some #[.iface tp p]
theorem Errs.below {w w' : World} (h : Errs w) (hb : Below w.heap.size w w') : Errs w' :=
  ⟨h.1.imp fun _ h => h.imp fun _ h => var_below h hb, h.2.imp fun _ h => h.imp fun _ h => var_below h hb⟩

/-- strconv.ParseInt(s, 10, 64) at every string -/
theorem parse_any (s : ByteArray) (hs : s.size ≤ 281474976710656) (w : World) (hE : Errs w) :
    Calls Tryz.prog 105 #[.string s, .int .i64 10, .int .i64 64] w fun e w' =>
      ((∃ v, e = .returned (.tuple #[.int .i64 v, .nilIface]) ∧ Lib.parseIntB 64 s.data.toList = .ok v) ∨ (∃ x tp N, e = .returned (.tuple #[.int .i64 x, .iface tp (.pointer (some ⟨N, 0, none⟩))]) ∧ ∀ v, Lib.parseIntB 64 s.data.toList ≠ .ok v)) ∧ Below w.heap.size w w' := by
  obtain ⟨⟨tp, p, h1⟩, tq, q, h2⟩ := hE
  cases h : Lib.parseIntB 64 s.data.toList with
  | ok v =>
    refine (Any.strconv_ParseInt_10_at64_ok Tryz.laysC174 s (by omega) v h w).mono ?_
    rintro e w' ⟨rfl, hw⟩
    refine ⟨.inl ⟨v, rfl, rfl⟩, ?_⟩
    rcases hw with rfl | ⟨t, rfl⟩
    · exact Below.refl _ _
    · exact Lib.bytesWorld_below w _ t
  | range =>
    refine (Any.strconv_ParseInt_10_at64_range_var Tryz.laysC174 s hs h tq q w h2).mono ?_
    rintro e w' ⟨N, rfl, _, _, hb⟩
    exact ⟨.inr ⟨_, _, N, rfl, fun v hv => by cases hv⟩, hb⟩
  | _ =>
    refine (Any.strconv_ParseInt_10_at64_syntax_var Tryz.laysC174 s hs h tp p w h1).mono ?_
    rintro e w' ⟨N, rfl, _, _, hb⟩
    exact ⟨.inr ⟨_, _, N, rfl, fun v hv => by cases hv⟩, hb⟩

theorem bytes_ne {a b : ByteArray} (h : ¬ a = b) : (a.toList == b.toList) = false := by
  rw [beq_eq_false_iff_ne]
  intro e
  rw [ByteArray.toList_eq, ByteArray.toList_eq] at e
  exact h (ByteArray.ext (Array.toList_inj.1 e))
theorem ret_nb {v v' : Int} {b b' : Bool} (h : v = v') (g : b = b') : Ending.returned (.tuple #[.int .i64 v, .bool b]) = .returned (.tuple #[.int .i64 v', .bool b']) := by rw [h, g]

set_option maxHeartbeats 800000 in
theorem number_any (s : ByteArray) (w : World) (hs : s.size ≤ 140737488351232) (hE : Errs w) (hP : Pow w) :
    Calls Tryz.prog 94 #[.string s] w fun e w' => (∃ v ok, e = .returned (.tuple #[.int .i64 v, .bool ok]) ∧ NumRel s v ok) ∧ Below w.heap.size w w' := by
  have HE := Lib.hid hE
  have HP := Lib.hid hP
  clear hE hP
  go_enter Tryz.func94, Tryz.ntmps94
  go_wp2_with fail
  refine (parse_any s (by omega) _ HE.out).mono ?_
  rintro e w1 ⟨hr, hb1⟩
  rcases hr with ⟨v, rfl, hv⟩ | ⟨x, tp, N, rfl, hv⟩
  · obtain ⟨hy, hno, b0, b1⟩ := NumRel.of_ok hv
    have HY := Lib.hid hy
    have HNO := Lib.hid hno
    have HP1 := Lib.hid (HP.out.below hb1)
    have HW : Hid ((Lit.int .i64 v).wf = true) := Lib.hid (by simp only [Lit.wf, Bool.and_eq_true, decide_eq_true_eq]; exact ⟨b0, b1⟩)
    clear hy hno hv
    go_wp2_with fail
    refine (show_any v HW.out _ HP1.out).mono ?_
    rintro e w2 ⟨rfl, hb2⟩
    have hB := bstep hb1 hb2
    clear hb1 hb2
    by_cases hq : num v = s
    · have HR := Lib.hid (HY.out hq)
      subst hq
      go_wp2_with fail
      go_ret2
      exact ⟨⟨_, _, rfl, HR.out⟩, hB⟩
    · have HR := Lib.hid (HNO.out hq)
      have hne := bytes_ne hq
      clear hq
      go_wp2_with fail
      go_ret2
      exact ⟨⟨_, _, rfl, HR.out⟩, hB⟩
  · have HR := Lib.hid (NumRel.of_bad hv)
    clear hv
    go_wp2_with fail
    go_ret2
    exact ⟨⟨_, _, rfl, HR.out⟩, hb1⟩
end Go.Proofs.YtdkpnbjkehakjaaGreatDoor
