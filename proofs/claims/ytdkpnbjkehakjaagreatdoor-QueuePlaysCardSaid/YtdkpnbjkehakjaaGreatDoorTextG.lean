import Derived.Lib.DecodeN
import Derived.Test.YtdkpnbjkehakjaaGreatDoorBase
import Derived.Lib.TrimU
import Derived.Deep.QuietTactic
import Derived.BigQuiet
import Derived.Lib.OthersKept
set_option linter.unusedSimpArgs false
set_option linter.unusedVariables false
/-! plain: the forms of runes, by a form's first byte -/
namespace Go.Proofs.YtdkpnbjkehakjaaGreatDoor.TM
open Go.Lib

def fN (n c b1 b2 b3 : Nat) : Nat × Nat := if decodeN n c b1 b2 b3 = (65533, 1) then (0, 0) else decodeN n c b1 b2 b3
theorem fN_yes (n c b1 b2 b3 v k : Nat) (h : decodeN n c b1 b2 b3 = (v, k)) (hk : k ≠ 1 ∨ v ≠ 65533) : fN n c b1 b2 b3 = (v, k) := by
  unfold fN; rw [h, if_neg]; intro e; cases e; omega
theorem fN_no (n c b1 b2 b3 : Nat) (h : decodeN n c b1 b2 b3 = (65533, 1)) : fN n c b1 b2 b3 = (0, 0) := by unfold fN; rw [h, if_pos rfl]

theorem fN_1 (n c b1 b2 b3 : Nat) (h : c < 128) : fN n c b1 b2 b3 = (c, 1) := by
  apply fN_yes
  · unfold decodeN; rw [if_pos h]
  · omega
set_option maxRecDepth 100000 in
set_option maxHeartbeats 2000000 in
theorem fN_0 (n c b1 b2 b3 : Nat) (h : 128 ≤ c ∧ c < 194 ∨ 245 ≤ c ∧ c < 256) : fN n c b1 b2 b3 = (0, 0) := by
  apply fN_no; unfold decodeN
  repeat' split
  all_goals first | (exfalso; omega) | rfl
set_option maxRecDepth 100000 in
set_option maxHeartbeats 2000000 in
theorem fN_2 (n c b1 b2 b3 : Nat) (h : 194 ≤ c ∧ c ≤ 223) (h1 : 1 < n ∧ 128 ≤ b1 ∧ b1 ≤ 191) : fN n c b1 b2 b3 = (c % 32 * 64 + b1 % 64, 2) := by
  apply fN_yes
  · unfold decodeN
    repeat' split
    all_goals first | (exfalso; omega) | rfl
  · omega
set_option maxRecDepth 100000 in
set_option maxHeartbeats 2000000 in
theorem fN_2n (n c b1 b2 b3 : Nat) (h : 194 ≤ c ∧ c ≤ 223) (h1 : ¬ (1 < n ∧ 128 ≤ b1 ∧ b1 ≤ 191)) (hb : b1 < 256) : fN n c b1 b2 b3 = (0, 0) := by
  apply fN_no; unfold decodeN
  repeat' split
  all_goals first | (exfalso; omega) | rfl
set_option maxRecDepth 100000 in
set_option maxHeartbeats 2000000 in
theorem fN_3 (n c b1 b2 b3 : Nat) (h : 224 ≤ c ∧ c ≤ 239) (h1 : 1 < n ∧ 128 ≤ b1 ∧ b1 ≤ 191) (he : c = 224 → 160 ≤ b1) (hd : c = 237 → b1 ≤ 159) (h2 : 2 < n ∧ 128 ≤ b2 ∧ b2 ≤ 191) :
    fN n c b1 b2 b3 = (c % 16 * 4096 + b1 % 64 * 64 + b2 % 64, 3) := by
  apply fN_yes
  · unfold decodeN
    repeat' split
    all_goals first | (exfalso; omega) | rfl
  · omega
set_option maxRecDepth 100000 in
set_option maxHeartbeats 2000000 in
theorem fN_3n (n c b1 b2 b3 : Nat) (h : 224 ≤ c ∧ c ≤ 239) (hn : ¬ (1 < n ∧ 128 ≤ b1 ∧ b1 ≤ 191) ∨ (c = 224 ∧ b1 < 160) ∨ (c = 237 ∧ 159 < b1) ∨ ¬ (2 < n ∧ 128 ≤ b2 ∧ b2 ≤ 191)) (hb1 : b1 < 256) (hb2 : b2 < 256) :
    fN n c b1 b2 b3 = (0, 0) := by
  apply fN_no; unfold decodeN
  repeat' split
  all_goals first | (exfalso; omega) | rfl
set_option maxRecDepth 100000 in
set_option maxHeartbeats 4000000 in
theorem fN_4 (n c b1 b2 b3 : Nat) (h : 240 ≤ c ∧ c ≤ 244) (h1 : 1 < n ∧ 128 ≤ b1 ∧ b1 ≤ 191) (he : c = 240 → 144 ≤ b1) (hd : c = 244 → b1 ≤ 143) (h2 : 2 < n ∧ 128 ≤ b2 ∧ b2 ≤ 191) (h3 : 3 < n ∧ 128 ≤ b3 ∧ b3 ≤ 191) :
    fN n c b1 b2 b3 = (c % 8 * 262144 + b1 % 64 * 4096 + b2 % 64 * 64 + b3 % 64, 4) := by
  apply fN_yes
  · unfold decodeN
    repeat' split
    all_goals first | (exfalso; omega) | rfl
  · omega
set_option maxRecDepth 100000 in
set_option maxHeartbeats 4000000 in
theorem fN_4n (n c b1 b2 b3 : Nat) (h : 240 ≤ c ∧ c ≤ 244)
    (hn : ¬ (1 < n ∧ 128 ≤ b1 ∧ b1 ≤ 191) ∨ (c = 240 ∧ b1 < 144) ∨ (c = 244 ∧ 143 < b1) ∨ ¬ (2 < n ∧ 128 ≤ b2 ∧ b2 ≤ 191) ∨ ¬ (3 < n ∧ 128 ≤ b3 ∧ b3 ≤ 191)) (hb1 : b1 < 256) (hb2 : b2 < 256) (hb3 : b3 < 256) :
    fN n c b1 b2 b3 = (0, 0) := by
  apply fN_no; unfold decodeN
  repeat' split
  all_goals first | (exfalso; omega) | rfl
end Go.Proofs.YtdkpnbjkehakjaaGreatDoor.TM

/-! the reference's forms of runes -/
namespace Go.Proofs.YtdkpnbjkehakjaaGreatDoor
open Go.RowKit

def byteAt (s : ByteArray) (i : Nat) : Int := ((s.get! i).toNat : Int)
def moreB (s : ByteArray) (i : Int) (l m : Int) : Bool := decide (i < s.size) && (decide (l ≤ byteAt s i.toNat) && decide (byteAt s i.toNat ≤ m))
theorem byteAt_get (s : ByteArray) (i : Nat) (h : i < s.size) : ((s[i]'h).toNat : Int) = byteAt s i := by
  unfold byteAt
  rw [show s.get! i = s[i]'h by simp [ByteArray.get!, getElem!_pos, h]; rfl]
theorem byteAt_bd (s : ByteArray) (i : Nat) : 0 ≤ byteAt s i ∧ byteAt s i ≤ 255 := by
  unfold byteAt; have := (s.get! i).toNat_lt; omega

set_option maxHeartbeats 400000 in
theorem more_any (s : ByteArray) (i l m : Int) (w : World) (h0 : 0 ≤ i) :
    Calls Tryz.prog 103 #[.string s, .int .i64 i, .int .u8 l, .int .u8 m] w fun e w' => e = .returned (.bool (moreB s i l m)) ∧ w = w' := by
  obtain ⟨k, rfl⟩ := Int.eq_ofNat_of_zero_le h0
  by_cases h1 : k < s.size
  · have hg := Lib.hid (byteAt_get s k h1)
    by_cases h2 : l ≤ byteAt s k
    · have hv := Lib.hid (show decide (byteAt s k ≤ m) = moreB s k l m by unfold moreB; rw [Int.toNat_natCast, decide_eq_true (show (k : Int) < s.size by omega), decide_eq_true h2]; rfl)
      have h2' : l ≤ ((s[k]'h1).toNat : Int) := by rw [hg.out]; exact h2
      go_enter Tryz.func103, Tryz.ntmps103
      go_wp2
      go_ret
      exact ⟨ret_bool (by rw [hg.out]; exact hv.out), rfl⟩
    · have hv := Lib.hid (show false = moreB s k l m by unfold moreB; rw [Int.toNat_natCast, decide_eq_true (show (k : Int) < s.size by omega), decide_eq_false h2]; rfl)
      have h2' : ((s[k]'h1).toNat : Int) < l := by rw [hg.out]; omega
      go_enter Tryz.func103, Tryz.ntmps103
      go_wp2
      go_ret
      exact ⟨ret_bool hv.out, rfl⟩
  · have hv := Lib.hid (show false = moreB s k l m by unfold moreB; rw [decide_eq_false (show ¬ (k : Int) < s.size by omega)]; rfl)
    have h1' : (s.size : Int) ≤ k := by omega
    go_enter Tryz.func103, Tryz.ntmps103
    go_wp2
    go_ret
    exact ⟨ret_bool hv.out, rfl⟩
/-- the form that begins at i: its rune, its length; 0, 0: none -/
def formI (s : ByteArray) (i : Int) : Int × Int :=
  if 0 ≤ i ∧ i < s.size then (((TM.fN (s.size - i.toNat) (s.get! i.toNat).toNat (s.get! (i.toNat + 1)).toNat (s.get! (i.toNat + 2)).toNat (s.get! (i.toNat + 3)).toNat).1 : Int),
    ((TM.fN (s.size - i.toNat) (s.get! i.toNat).toNat (s.get! (i.toNat + 1)).toNat (s.get! (i.toNat + 2)).toNat (s.get! (i.toNat + 3)).toNat).2 : Int)) else (0, 0)
theorem formI_out (s : ByteArray) (i : Int) (h : ¬ (0 ≤ i ∧ i < s.size)) : formI s i = (0, 0) := by unfold formI; rw [if_neg h]
theorem formI_in (s : ByteArray) (k : Nat) (h : k < s.size) (v j : Nat)
    (e : TM.fN (s.size - k) (s.get! k).toNat (s.get! (k + 1)).toNat (s.get! (k + 2)).toNat (s.get! (k + 3)).toNat = (v, j)) : formI s k = ((v : Int), (j : Int)) := by
  unfold formI; rw [if_pos (by omega), Int.toNat_natCast, e]
theorem more_yes (s : ByteArray) (k j : Nat) (l m : Int) (h : moreB s ((k : Int) + j) l m = true) : j < s.size - k ∧ l ≤ byteAt s (k + j) ∧ byteAt s (k + j) ≤ m := by
  unfold moreB at h
  simp only [Bool.and_eq_true, decide_eq_true_eq] at h
  rw [show ((k : Int) + j).toNat = k + j by omega] at h
  exact ⟨by omega, h.2.1, h.2.2⟩
theorem more_no (s : ByteArray) (k j : Nat) (l m : Int) (h : moreB s ((k : Int) + j) l m = false) : ¬ (j < s.size - k ∧ l ≤ byteAt s (k + j) ∧ byteAt s (k + j) ≤ m) := by
  intro ⟨h1, h2, h3⟩
  unfold moreB at h
  rw [show ((k : Int) + j).toNat = k + j by omega, decide_eq_true (show (k : Int) + j < s.size by omega), decide_eq_true h2, decide_eq_true h3] at h
  cases h
theorem ret_form {s : ByteArray} {i a b : Int} (h : formI s i = (a, b)) : Ending.returned (.tuple #[.int .i64 a, .int .i64 b]) = .returned (.tuple #[.int .i64 (formI s i).1, .int .i64 (formI s i).2]) := by rw [h]
theorem and63 (b : Int) (h0 : 0 ≤ b) (h1 : b ≤ 255) : bits .and .u8 b 63 = b % 64 := by
  rw [u8_and b 63 h0 (by omega) (by omega) (by omega), show (63 : Int).toNat = 63 from rfl, nat_mask6]; omega
theorem and15 (b : Int) (h0 : 0 ≤ b) (h1 : b ≤ 255) : bits .and .u8 b 15 = b % 16 := by
  rw [u8_and b 15 h0 (by omega) (by omega) (by omega), show (15 : Int).toNat = 15 from rfl, nat_mask4]; omega
theorem and31 (b : Int) (h0 : 0 ≤ b) (h1 : b ≤ 255) : bits .and .u8 b 31 = b % 32 := by
  rw [u8_and b 31 h0 (by omega) (by omega) (by omega), show (31 : Int).toNat = 31 from rfl, nat_mask5]; omega
theorem and7 (b : Int) (h0 : 0 ≤ b) (h1 : b ≤ 255) : bits .and .u8 b 7 = b % 8 := by
  rw [u8_and b 7 h0 (by omega) (by omega) (by omega), show (7 : Int).toNat = 7 from rfl, nat_mask3]; omega

end Go.Proofs.YtdkpnbjkehakjaaGreatDoor

/-! plain: where the runes of a string begin -/
namespace Go.Proofs.YtdkpnbjkehakjaaGreatDoor
open Go.RowKit

def wd (s : ByteArray) (k : Nat) : Nat := (Utf8.decode s k).2
def rn (s : ByteArray) (k : Nat) : Nat := (Utf8.decode s k).1
def badB (s : ByteArray) (k : Nat) : Bool := decide (rn s k = 65533) && decide (wd s k = 1)
theorem wd_pos (s : ByteArray) (k : Nat) : 1 ≤ wd s k := Lib.width_pos s k
theorem rn_le (s : ByteArray) (k : Nat) : rn s k ≤ 1114111 := Lib.rune_le s k
theorem wd_le4 (s : ByteArray) (k : Nat) : wd s k ≤ 4 := by
  unfold wd; rw [Lib.decode_at]; unfold Lib.decodeN
  repeat' split
  all_goals (simp only; omega)

theorem formI_bad (s : ByteArray) (k : Nat) (h : k < s.size) (hb : badB s k = true) : formI s k = (0, 0) := by
  unfold badB rn wd at hb
  simp only [Bool.and_eq_true, decide_eq_true_eq] at hb
  refine formI_in s k h 0 0 (TM.fN_no _ _ _ _ _ ?_)
  rw [← Lib.decode_at]; exact Prod.ext hb.1 hb.2
theorem formI_good (s : ByteArray) (k : Nat) (h : k < s.size) (hb : badB s k = false) : formI s k = ((rn s k : Int), (wd s k : Int)) := by
  refine formI_in s k h (rn s k) (wd s k) ?_
  unfold TM.fN
  rw [← Lib.decode_at, if_neg]
  · rfl
  · intro e
    unfold badB rn wd at hb
    rw [e] at hb
    simp at hb

/-- the places where runes begin, from pos on -/
def poss (s : ByteArray) : Nat → Nat → List Nat
  | 0, _ => []
  | fuel + 1, pos => if pos < s.size then pos :: poss s fuel (pos + wd s pos) else []
def allP (s : ByteArray) : List Nat := poss s s.size 0

theorem poss_end (s : ByteArray) (fuel pos : Nat) (h : ¬ pos < s.size) : poss s fuel pos = [] := by cases fuel <;> simp [poss, h]
theorem poss_step (s : ByteArray) (fuel pos : Nat) (h : pos < s.size) (hf : s.size ≤ pos + fuel) : ∃ f', fuel = f' + 1 ∧ poss s fuel pos = pos :: poss s f' (pos + wd s pos) ∧ s.size ≤ pos + wd s pos + f' := by
  cases fuel with
  | zero => omega
  | succ f => exact ⟨f, rfl, by simp [poss, h], by have := wd_pos s pos; omega⟩

/-- a walk through the runes stands at pos; pre are those gone over -/
def Stand (s : ByteArray) (pre : List Nat) (pos : Nat) : Prop := (∃ fuel, s.size ≤ pos + fuel ∧ allP s = pre ++ poss s fuel pos) ∧ pre.length ≤ pos ∧ (pre = [] ↔ pos = 0) ∧ ∀ p ∈ pre, p < pos
theorem Stand.start (s : ByteArray) : Stand s [] 0 := ⟨⟨s.size, by omega, rfl⟩, Nat.le_refl _, by simp, by simp⟩
theorem Stand.next {s : ByteArray} {pre : List Nat} {pos : Nat} (h : Stand s pre pos) (hlt : pos < s.size) : Stand s (pre ++ [pos]) (pos + wd s pos) := by
  obtain ⟨⟨fuel, hf, e⟩, hl, h0, hp⟩ := h
  obtain ⟨f', rfl, e2, hf'⟩ := poss_step s fuel pos hlt hf
  have := wd_pos s pos
  refine ⟨⟨f', hf', by rw [e, e2]; simp⟩, by simp; omega, ?_, ?_⟩
  · constructor
    · intro h; simp at h
    · intro h; omega
  · intro p hm
    rcases List.mem_append.1 hm with hm | hm
    · have := hp p hm; omega
    · simp at hm; omega
theorem Stand.stop {s : ByteArray} {pre : List Nat} {pos : Nat} (h : Stand s pre pos) (hge : ¬ pos < s.size) : allP s = pre := by
  obtain ⟨⟨fuel, _, e⟩, _⟩ := h
  rw [e, poss_end s fuel pos hge, List.append_nil]
theorem Stand.mem {s : ByteArray} {pre : List Nat} {pos : Nat} (h : Stand s pre pos) (hlt : pos < s.size) : ∃ t, allP s = pre ++ pos :: t := by
  obtain ⟨⟨fuel, hf, e⟩, _⟩ := h
  obtain ⟨f', rfl, e2, _⟩ := poss_step s fuel pos hlt hf
  exact ⟨_, by rw [e, e2]⟩
theorem poss_fuel (s : ByteArray) : ∀ f g pos, s.size ≤ pos + f → s.size ≤ pos + g → poss s f pos = poss s g pos
  | 0, g, pos, hf, _ => by rw [poss_end s 0 pos (by omega), poss_end s g pos (by omega)]
  | f + 1, 0, pos, _, hg => by rw [poss_end s _ pos (by omega), poss_end s 0 pos (by omega)]
  | f + 1, g + 1, pos, hf, hg => by
    by_cases h : pos < s.size
    · have := wd_pos s pos
      simp only [poss, h, if_true]
      rw [poss_fuel s f g (pos + wd s pos) (by omega) (by omega)]
    · rw [poss_end s _ pos h, poss_end s _ pos h]
/-- how many runes begin ahead of pos -/
def qOf (s : ByteArray) (pos : Nat) : Nat := (allP s).length - (poss s s.size pos).length
theorem Stand.q {s : ByteArray} {pre : List Nat} {pos : Nat} (h : Stand s pre pos) : qOf s pos = pre.length := by
  obtain ⟨⟨fuel, hf, e⟩, _⟩ := h
  unfold qOf
  rw [e, poss_fuel s fuel s.size pos hf (by omega)]; simp
end Go.Proofs.YtdkpnbjkehakjaaGreatDoor

/-! the walk of the reference's Form: forms of one and two bytes, and none -/
namespace Go.Proofs.YtdkpnbjkehakjaaGreatDoor
open Go.RowKit

set_option maxRecDepth 100000 in
set_option maxHeartbeats 1000000 in
theorem form_a (s : ByteArray) (k : Nat) (w : World) (hs : s.size ≤ 140737488351232) (h1 : k < s.size) (c0 : 0 ≤ byteAt s k) (c1 : byteAt s k ≤ 127) :
    Calls Tryz.prog 90 #[.string s, .int .i64 k] w fun e w' => e = .returned (.tuple #[.int .i64 (formI s k).1, .int .i64 (formI s k).2]) ∧ ∃ n, w' = w.drewN n := by
  have b0 := byteAt_bd s k
  have b1 := byteAt_bd s (k + 1)
  have b2 := byteAt_bd s (k + 2)
  have b3 := byteAt_bd s (k + 3)
  have g0 := byteAt_get s k h1
  have hv : Hid (formI s k = (byteAt s k, 1)) := by
    unfold byteAt at b0 b1 b2 b3 c0 c1 
    rw [formI_in s k h1 _ _ (TM.fN_1 _ _ _ _ _ (by omega))]
    exact Lib.hid (by first | rfl | (unfold byteAt; first | rfl | (apply Prod.ext <;> simp)))
  go_enter Tryz.func90, Tryz.ntmps90
  go_wp2_with (go_at_call 103; refine (more_any _ _ _ _ _ (by omega)).mono ?_; rintro e w' ⟨rfl, rfl⟩)
  go_ret2
  exact ⟨ret_form hv.out, 0, rfl⟩

set_option maxRecDepth 100000 in
set_option maxHeartbeats 1000000 in
theorem form_b (s : ByteArray) (k : Nat) (w : World) (hs : s.size ≤ 140737488351232) (h1 : k < s.size) (c0 : 128 ≤ byteAt s k) (c1 : byteAt s k ≤ 193) :
    Calls Tryz.prog 90 #[.string s, .int .i64 k] w fun e w' => e = .returned (.tuple #[.int .i64 (formI s k).1, .int .i64 (formI s k).2]) ∧ ∃ n, w' = w.drewN n := by
  have b0 := byteAt_bd s k
  have b1 := byteAt_bd s (k + 1)
  have b2 := byteAt_bd s (k + 2)
  have b3 := byteAt_bd s (k + 3)
  have g0 := byteAt_get s k h1
  have hv : Hid (formI s k = (0, 0)) := by
    unfold byteAt at b0 b1 b2 b3 c0 c1 
    rw [formI_in s k h1 _ _ (TM.fN_0 _ _ _ _ _ (by omega))]
    exact Lib.hid (by first | rfl | (unfold byteAt; first | rfl | (apply Prod.ext <;> simp)))
  go_enter Tryz.func90, Tryz.ntmps90
  go_wp2_with (go_at_call 103; refine (more_any _ _ _ _ _ (by omega)).mono ?_; rintro e w' ⟨rfl, rfl⟩)
  go_ret2
  exact ⟨ret_form hv.out, 0, rfl⟩

set_option maxRecDepth 100000 in
set_option maxHeartbeats 1000000 in
theorem form_c (s : ByteArray) (k : Nat) (w : World) (hs : s.size ≤ 140737488351232) (h1 : k < s.size) (c0 : 194 ≤ byteAt s k) (c1 : byteAt s k ≤ 223) (m0 : moreB s ((k : Int) + 1) 128 191 = true) :
    Calls Tryz.prog 90 #[.string s, .int .i64 k] w fun e w' => e = .returned (.tuple #[.int .i64 (formI s k).1, .int .i64 (formI s k).2]) ∧ ∃ n, w' = w.drewN n := by
  have b0 := byteAt_bd s k
  have b1 := byteAt_bd s (k + 1)
  have b2 := byteAt_bd s (k + 2)
  have b3 := byteAt_bd s (k + 3)
  have n0 := more_yes s k 1 128 191 m0
  have g0 := byteAt_get s k h1
  have l1 : k + 1 < s.size := by omega
  have g1 := byteAt_get s (k + 1) l1
  have x1 := and63 (byteAt s (k + 1)) b1.1 b1.2
  have x0 := and31 (byteAt s k) b0.1 b0.2
  have hv : Hid (formI s k = (byteAt s k % 32 * 64 + byteAt s (k + 1) % 64, 2)) := by
    unfold byteAt at b0 b1 b2 b3 c0 c1 n0
    rw [formI_in s k h1 _ _ (TM.fN_2 _ _ _ _ _ (by omega) (by omega))]
    exact Lib.hid (by first | rfl | (unfold byteAt; first | rfl | (apply Prod.ext <;> simp)))
  clear n0
  go_enter Tryz.func90, Tryz.ntmps90
  go_wp2_with (go_at_call 103; refine (more_any _ _ _ _ _ (by omega)).mono ?_; rintro e w' ⟨rfl, rfl⟩)
  go_ret2
  exact ⟨ret_form hv.out, 0, rfl⟩

set_option maxRecDepth 100000 in
set_option maxHeartbeats 1000000 in
theorem form_cn (s : ByteArray) (k : Nat) (w : World) (hs : s.size ≤ 140737488351232) (h1 : k < s.size) (c0 : 194 ≤ byteAt s k) (c1 : byteAt s k ≤ 223) (m0 : moreB s ((k : Int) + 1) 128 191 = false) :
    Calls Tryz.prog 90 #[.string s, .int .i64 k] w fun e w' => e = .returned (.tuple #[.int .i64 (formI s k).1, .int .i64 (formI s k).2]) ∧ ∃ n, w' = w.drewN n := by
  have b0 := byteAt_bd s k
  have b1 := byteAt_bd s (k + 1)
  have b2 := byteAt_bd s (k + 2)
  have b3 := byteAt_bd s (k + 3)
  have n0 := more_no s k 1 128 191 m0
  have g0 := byteAt_get s k h1
  have hv : Hid (formI s k = (0, 0)) := by
    unfold byteAt at b0 b1 b2 b3 c0 c1 n0
    rw [formI_in s k h1 _ _ (TM.fN_2n _ _ _ _ _ (by omega) (by omega) (by omega))]
    exact Lib.hid (by first | rfl | (unfold byteAt; first | rfl | (apply Prod.ext <;> simp)))
  clear n0
  go_enter Tryz.func90, Tryz.ntmps90
  go_wp2_with (go_at_call 103; refine (more_any _ _ _ _ _ (by omega)).mono ?_; rintro e w' ⟨rfl, rfl⟩)
  go_ret2
  exact ⟨ret_form hv.out, 0, rfl⟩

set_option maxRecDepth 100000 in
set_option maxHeartbeats 1000000 in
theorem form_z (s : ByteArray) (k : Nat) (w : World) (hs : s.size ≤ 140737488351232) (h1 : k < s.size) (c0 : 245 ≤ byteAt s k) (c1 : byteAt s k ≤ 255) :
    Calls Tryz.prog 90 #[.string s, .int .i64 k] w fun e w' => e = .returned (.tuple #[.int .i64 (formI s k).1, .int .i64 (formI s k).2]) ∧ ∃ n, w' = w.drewN n := by
  have b0 := byteAt_bd s k
  have b1 := byteAt_bd s (k + 1)
  have b2 := byteAt_bd s (k + 2)
  have b3 := byteAt_bd s (k + 3)
  have g0 := byteAt_get s k h1
  have hv : Hid (formI s k = (0, 0)) := by
    unfold byteAt at b0 b1 b2 b3 c0 c1 
    rw [formI_in s k h1 _ _ (TM.fN_0 _ _ _ _ _ (by omega))]
    exact Lib.hid (by first | rfl | (unfold byteAt; first | rfl | (apply Prod.ext <;> simp)))
  go_enter Tryz.func90, Tryz.ntmps90
  go_wp2_with (go_at_call 103; refine (more_any _ _ _ _ _ (by omega)).mono ?_; rintro e w' ⟨rfl, rfl⟩)
  go_ret2
  exact ⟨ret_form hv.out, 0, rfl⟩
end Go.Proofs.YtdkpnbjkehakjaaGreatDoor

/-! the walk of the reference's Form: forms of three bytes -/
namespace Go.Proofs.YtdkpnbjkehakjaaGreatDoor
open Go.RowKit

set_option maxRecDepth 100000 in
set_option maxHeartbeats 1000000 in
theorem form_d (s : ByteArray) (k : Nat) (w : World) (hs : s.size ≤ 140737488351232) (h1 : k < s.size) (c0 : 224 ≤ byteAt s k) (c1 : byteAt s k ≤ 224) (m0 : moreB s ((k : Int) + 1) 160 191 = true) (m1 : moreB s ((k : Int) + 2) 128 191 = true) :
    Calls Tryz.prog 90 #[.string s, .int .i64 k] w fun e w' => e = .returned (.tuple #[.int .i64 (formI s k).1, .int .i64 (formI s k).2]) ∧ ∃ n, w' = w.drewN n := by
  have b0 := byteAt_bd s k
  have b1 := byteAt_bd s (k + 1)
  have b2 := byteAt_bd s (k + 2)
  have b3 := byteAt_bd s (k + 3)
  have n0 := more_yes s k 1 160 191 m0
  have n1 := more_yes s k 2 128 191 m1
  have g0 := byteAt_get s k h1
  have l1 : k + 1 < s.size := by omega
  have g1 := byteAt_get s (k + 1) l1
  have x1 := and63 (byteAt s (k + 1)) b1.1 b1.2
  have l2 : k + 2 < s.size := by omega
  have g2 := byteAt_get s (k + 2) l2
  have x2 := and63 (byteAt s (k + 2)) b2.1 b2.2
  have x0 := and15 (byteAt s k) b0.1 b0.2
  have hv : Hid (formI s k = (byteAt s k % 16 * 4096 + byteAt s (k + 1) % 64 * 64 + byteAt s (k + 2) % 64, 3)) := by
    unfold byteAt at b0 b1 b2 b3 c0 c1 n0 n1
    rw [formI_in s k h1 _ _ (TM.fN_3 _ _ _ _ _ (by omega) (by omega) (by omega) (by omega) (by omega))]
    exact Lib.hid (by first | rfl | (unfold byteAt; first | rfl | (apply Prod.ext <;> simp)))
  have q0 : (byteAt s k == 224) = true := by rw [beq_iff_eq]; omega
  have q1 : (byteAt s k == 237) = false := by rw [beq_eq_false_iff_ne]; omega
  clear n0 n1
  go_enter Tryz.func90, Tryz.ntmps90
  go_wp2_with (go_at_call 103; refine (more_any _ _ _ _ _ (by omega)).mono ?_; rintro e w' ⟨rfl, rfl⟩)
  have y1 : IntKind.i64.wrap ((k : Int) + 1) = (k : Int) + 1 := IntWalk.i64_in _ (by omega)
  have y2 : IntKind.i64.wrap ((k : Int) + 2) = (k : Int) + 2 := IntWalk.i64_in _ (by omega)
  have z1 : (0 : Int) ≤ (k : Int) + 1 ∧ (k : Int) + 1 < s.size := by omega
  have z2 : (0 : Int) ≤ (k : Int) + 2 ∧ (k : Int) + 2 < s.size := by omega
  have t1 : ((k : Int) + 1).toNat = k + 1 := by omega
  have t2 : ((k : Int) + 2).toNat = k + 2 := by omega
  go_quiet (fail)
  clear y1 z1 t1 y2 z2 t2
  go_wp2
  go_ret2
  exact ⟨ret_form hv.out, _, rfl⟩

set_option maxRecDepth 100000 in
set_option maxHeartbeats 1000000 in
theorem form_dn1 (s : ByteArray) (k : Nat) (w : World) (hs : s.size ≤ 140737488351232) (h1 : k < s.size) (c0 : 224 ≤ byteAt s k) (c1 : byteAt s k ≤ 224) (m0 : moreB s ((k : Int) + 1) 160 191 = false) :
    Calls Tryz.prog 90 #[.string s, .int .i64 k] w fun e w' => e = .returned (.tuple #[.int .i64 (formI s k).1, .int .i64 (formI s k).2]) ∧ ∃ n, w' = w.drewN n := by
  have b0 := byteAt_bd s k
  have b1 := byteAt_bd s (k + 1)
  have b2 := byteAt_bd s (k + 2)
  have b3 := byteAt_bd s (k + 3)
  have n0 := more_no s k 1 160 191 m0
  have g0 := byteAt_get s k h1
  have hv : Hid (formI s k = (0, 0)) := by
    unfold byteAt at b0 b1 b2 b3 c0 c1 n0
    rw [formI_in s k h1 _ _ (TM.fN_3n _ _ _ _ _ (by omega) (by omega) (by omega) (by omega))]
    exact Lib.hid (by first | rfl | (unfold byteAt; first | rfl | (apply Prod.ext <;> simp)))
  have q0 : (byteAt s k == 224) = true := by rw [beq_iff_eq]; omega
  have q1 : (byteAt s k == 237) = false := by rw [beq_eq_false_iff_ne]; omega
  clear n0
  go_enter Tryz.func90, Tryz.ntmps90
  go_wp2_with (go_at_call 103; refine (more_any _ _ _ _ _ (by omega)).mono ?_; rintro e w' ⟨rfl, rfl⟩)
  go_ret2
  exact ⟨ret_form hv.out, 0, rfl⟩

set_option maxRecDepth 100000 in
set_option maxHeartbeats 1000000 in
theorem form_dn2 (s : ByteArray) (k : Nat) (w : World) (hs : s.size ≤ 140737488351232) (h1 : k < s.size) (c0 : 224 ≤ byteAt s k) (c1 : byteAt s k ≤ 224) (m0 : moreB s ((k : Int) + 1) 160 191 = true) (m1 : moreB s ((k : Int) + 2) 128 191 = false) :
    Calls Tryz.prog 90 #[.string s, .int .i64 k] w fun e w' => e = .returned (.tuple #[.int .i64 (formI s k).1, .int .i64 (formI s k).2]) ∧ ∃ n, w' = w.drewN n := by
  have b0 := byteAt_bd s k
  have b1 := byteAt_bd s (k + 1)
  have b2 := byteAt_bd s (k + 2)
  have b3 := byteAt_bd s (k + 3)
  have n0 := more_yes s k 1 160 191 m0
  have n1 := more_no s k 2 128 191 m1
  have g0 := byteAt_get s k h1
  have hv : Hid (formI s k = (0, 0)) := by
    unfold byteAt at b0 b1 b2 b3 c0 c1 n0 n1
    rw [formI_in s k h1 _ _ (TM.fN_3n _ _ _ _ _ (by omega) (by omega) (by omega) (by omega))]
    exact Lib.hid (by first | rfl | (unfold byteAt; first | rfl | (apply Prod.ext <;> simp)))
  have q0 : (byteAt s k == 224) = true := by rw [beq_iff_eq]; omega
  have q1 : (byteAt s k == 237) = false := by rw [beq_eq_false_iff_ne]; omega
  clear n0 n1
  go_enter Tryz.func90, Tryz.ntmps90
  go_wp2_with (go_at_call 103; refine (more_any _ _ _ _ _ (by omega)).mono ?_; rintro e w' ⟨rfl, rfl⟩)
  go_ret2
  exact ⟨ret_form hv.out, 0, rfl⟩

set_option maxRecDepth 100000 in
set_option maxHeartbeats 1000000 in
theorem form_e (s : ByteArray) (k : Nat) (w : World) (hs : s.size ≤ 140737488351232) (h1 : k < s.size) (c0 : 225 ≤ byteAt s k) (c1 : byteAt s k ≤ 236) (m0 : moreB s ((k : Int) + 1) 128 191 = true) (m1 : moreB s ((k : Int) + 2) 128 191 = true) :
    Calls Tryz.prog 90 #[.string s, .int .i64 k] w fun e w' => e = .returned (.tuple #[.int .i64 (formI s k).1, .int .i64 (formI s k).2]) ∧ ∃ n, w' = w.drewN n := by
  have b0 := byteAt_bd s k
  have b1 := byteAt_bd s (k + 1)
  have b2 := byteAt_bd s (k + 2)
  have b3 := byteAt_bd s (k + 3)
  have n0 := more_yes s k 1 128 191 m0
  have n1 := more_yes s k 2 128 191 m1
  have g0 := byteAt_get s k h1
  have l1 : k + 1 < s.size := by omega
  have g1 := byteAt_get s (k + 1) l1
  have x1 := and63 (byteAt s (k + 1)) b1.1 b1.2
  have l2 : k + 2 < s.size := by omega
  have g2 := byteAt_get s (k + 2) l2
  have x2 := and63 (byteAt s (k + 2)) b2.1 b2.2
  have x0 := and15 (byteAt s k) b0.1 b0.2
  have hv : Hid (formI s k = (byteAt s k % 16 * 4096 + byteAt s (k + 1) % 64 * 64 + byteAt s (k + 2) % 64, 3)) := by
    unfold byteAt at b0 b1 b2 b3 c0 c1 n0 n1
    rw [formI_in s k h1 _ _ (TM.fN_3 _ _ _ _ _ (by omega) (by omega) (by omega) (by omega) (by omega))]
    exact Lib.hid (by first | rfl | (unfold byteAt; first | rfl | (apply Prod.ext <;> simp)))
  have q0 : (byteAt s k == 224) = false := by rw [beq_eq_false_iff_ne]; omega
  have q1 : (byteAt s k == 237) = false := by rw [beq_eq_false_iff_ne]; omega
  clear n0 n1
  go_enter Tryz.func90, Tryz.ntmps90
  go_wp2_with (go_at_call 103; refine (more_any _ _ _ _ _ (by omega)).mono ?_; rintro e w' ⟨rfl, rfl⟩)
  have y1 : IntKind.i64.wrap ((k : Int) + 1) = (k : Int) + 1 := IntWalk.i64_in _ (by omega)
  have y2 : IntKind.i64.wrap ((k : Int) + 2) = (k : Int) + 2 := IntWalk.i64_in _ (by omega)
  have z1 : (0 : Int) ≤ (k : Int) + 1 ∧ (k : Int) + 1 < s.size := by omega
  have z2 : (0 : Int) ≤ (k : Int) + 2 ∧ (k : Int) + 2 < s.size := by omega
  have t1 : ((k : Int) + 1).toNat = k + 1 := by omega
  have t2 : ((k : Int) + 2).toNat = k + 2 := by omega
  go_quiet (fail)
  clear y1 z1 t1 y2 z2 t2
  go_wp2
  go_ret2
  exact ⟨ret_form hv.out, _, rfl⟩

set_option maxRecDepth 100000 in
set_option maxHeartbeats 1000000 in
theorem form_en1 (s : ByteArray) (k : Nat) (w : World) (hs : s.size ≤ 140737488351232) (h1 : k < s.size) (c0 : 225 ≤ byteAt s k) (c1 : byteAt s k ≤ 236) (m0 : moreB s ((k : Int) + 1) 128 191 = false) :
    Calls Tryz.prog 90 #[.string s, .int .i64 k] w fun e w' => e = .returned (.tuple #[.int .i64 (formI s k).1, .int .i64 (formI s k).2]) ∧ ∃ n, w' = w.drewN n := by
  have b0 := byteAt_bd s k
  have b1 := byteAt_bd s (k + 1)
  have b2 := byteAt_bd s (k + 2)
  have b3 := byteAt_bd s (k + 3)
  have n0 := more_no s k 1 128 191 m0
  have g0 := byteAt_get s k h1
  have hv : Hid (formI s k = (0, 0)) := by
    unfold byteAt at b0 b1 b2 b3 c0 c1 n0
    rw [formI_in s k h1 _ _ (TM.fN_3n _ _ _ _ _ (by omega) (by omega) (by omega) (by omega))]
    exact Lib.hid (by first | rfl | (unfold byteAt; first | rfl | (apply Prod.ext <;> simp)))
  have q0 : (byteAt s k == 224) = false := by rw [beq_eq_false_iff_ne]; omega
  have q1 : (byteAt s k == 237) = false := by rw [beq_eq_false_iff_ne]; omega
  clear n0
  go_enter Tryz.func90, Tryz.ntmps90
  go_wp2_with (go_at_call 103; refine (more_any _ _ _ _ _ (by omega)).mono ?_; rintro e w' ⟨rfl, rfl⟩)
  go_ret2
  exact ⟨ret_form hv.out, 0, rfl⟩

set_option maxRecDepth 100000 in
set_option maxHeartbeats 1000000 in
theorem form_en2 (s : ByteArray) (k : Nat) (w : World) (hs : s.size ≤ 140737488351232) (h1 : k < s.size) (c0 : 225 ≤ byteAt s k) (c1 : byteAt s k ≤ 236) (m0 : moreB s ((k : Int) + 1) 128 191 = true) (m1 : moreB s ((k : Int) + 2) 128 191 = false) :
    Calls Tryz.prog 90 #[.string s, .int .i64 k] w fun e w' => e = .returned (.tuple #[.int .i64 (formI s k).1, .int .i64 (formI s k).2]) ∧ ∃ n, w' = w.drewN n := by
  have b0 := byteAt_bd s k
  have b1 := byteAt_bd s (k + 1)
  have b2 := byteAt_bd s (k + 2)
  have b3 := byteAt_bd s (k + 3)
  have n0 := more_yes s k 1 128 191 m0
  have n1 := more_no s k 2 128 191 m1
  have g0 := byteAt_get s k h1
  have hv : Hid (formI s k = (0, 0)) := by
    unfold byteAt at b0 b1 b2 b3 c0 c1 n0 n1
    rw [formI_in s k h1 _ _ (TM.fN_3n _ _ _ _ _ (by omega) (by omega) (by omega) (by omega))]
    exact Lib.hid (by first | rfl | (unfold byteAt; first | rfl | (apply Prod.ext <;> simp)))
  have q0 : (byteAt s k == 224) = false := by rw [beq_eq_false_iff_ne]; omega
  have q1 : (byteAt s k == 237) = false := by rw [beq_eq_false_iff_ne]; omega
  clear n0 n1
  go_enter Tryz.func90, Tryz.ntmps90
  go_wp2_with (go_at_call 103; refine (more_any _ _ _ _ _ (by omega)).mono ?_; rintro e w' ⟨rfl, rfl⟩)
  go_ret2
  exact ⟨ret_form hv.out, 0, rfl⟩

set_option maxRecDepth 100000 in
set_option maxHeartbeats 1000000 in
theorem form_f (s : ByteArray) (k : Nat) (w : World) (hs : s.size ≤ 140737488351232) (h1 : k < s.size) (c0 : 237 ≤ byteAt s k) (c1 : byteAt s k ≤ 237) (m0 : moreB s ((k : Int) + 1) 128 159 = true) (m1 : moreB s ((k : Int) + 2) 128 191 = true) :
    Calls Tryz.prog 90 #[.string s, .int .i64 k] w fun e w' => e = .returned (.tuple #[.int .i64 (formI s k).1, .int .i64 (formI s k).2]) ∧ ∃ n, w' = w.drewN n := by
  have b0 := byteAt_bd s k
  have b1 := byteAt_bd s (k + 1)
  have b2 := byteAt_bd s (k + 2)
  have b3 := byteAt_bd s (k + 3)
  have n0 := more_yes s k 1 128 159 m0
  have n1 := more_yes s k 2 128 191 m1
  have g0 := byteAt_get s k h1
  have l1 : k + 1 < s.size := by omega
  have g1 := byteAt_get s (k + 1) l1
  have x1 := and63 (byteAt s (k + 1)) b1.1 b1.2
  have l2 : k + 2 < s.size := by omega
  have g2 := byteAt_get s (k + 2) l2
  have x2 := and63 (byteAt s (k + 2)) b2.1 b2.2
  have x0 := and15 (byteAt s k) b0.1 b0.2
  have hv : Hid (formI s k = (byteAt s k % 16 * 4096 + byteAt s (k + 1) % 64 * 64 + byteAt s (k + 2) % 64, 3)) := by
    unfold byteAt at b0 b1 b2 b3 c0 c1 n0 n1
    rw [formI_in s k h1 _ _ (TM.fN_3 _ _ _ _ _ (by omega) (by omega) (by omega) (by omega) (by omega))]
    exact Lib.hid (by first | rfl | (unfold byteAt; first | rfl | (apply Prod.ext <;> simp)))
  have q0 : (byteAt s k == 224) = false := by rw [beq_eq_false_iff_ne]; omega
  have q1 : (byteAt s k == 237) = true := by rw [beq_iff_eq]; omega
  clear n0 n1
  go_enter Tryz.func90, Tryz.ntmps90
  go_wp2_with (go_at_call 103; refine (more_any _ _ _ _ _ (by omega)).mono ?_; rintro e w' ⟨rfl, rfl⟩)
  have y1 : IntKind.i64.wrap ((k : Int) + 1) = (k : Int) + 1 := IntWalk.i64_in _ (by omega)
  have y2 : IntKind.i64.wrap ((k : Int) + 2) = (k : Int) + 2 := IntWalk.i64_in _ (by omega)
  have z1 : (0 : Int) ≤ (k : Int) + 1 ∧ (k : Int) + 1 < s.size := by omega
  have z2 : (0 : Int) ≤ (k : Int) + 2 ∧ (k : Int) + 2 < s.size := by omega
  have t1 : ((k : Int) + 1).toNat = k + 1 := by omega
  have t2 : ((k : Int) + 2).toNat = k + 2 := by omega
  go_quiet (fail)
  clear y1 z1 t1 y2 z2 t2
  go_wp2
  go_ret2
  exact ⟨ret_form hv.out, _, rfl⟩

set_option maxRecDepth 100000 in
set_option maxHeartbeats 1000000 in
theorem form_fn1 (s : ByteArray) (k : Nat) (w : World) (hs : s.size ≤ 140737488351232) (h1 : k < s.size) (c0 : 237 ≤ byteAt s k) (c1 : byteAt s k ≤ 237) (m0 : moreB s ((k : Int) + 1) 128 159 = false) :
    Calls Tryz.prog 90 #[.string s, .int .i64 k] w fun e w' => e = .returned (.tuple #[.int .i64 (formI s k).1, .int .i64 (formI s k).2]) ∧ ∃ n, w' = w.drewN n := by
  have b0 := byteAt_bd s k
  have b1 := byteAt_bd s (k + 1)
  have b2 := byteAt_bd s (k + 2)
  have b3 := byteAt_bd s (k + 3)
  have n0 := more_no s k 1 128 159 m0
  have g0 := byteAt_get s k h1
  have hv : Hid (formI s k = (0, 0)) := by
    unfold byteAt at b0 b1 b2 b3 c0 c1 n0
    rw [formI_in s k h1 _ _ (TM.fN_3n _ _ _ _ _ (by omega) (by omega) (by omega) (by omega))]
    exact Lib.hid (by first | rfl | (unfold byteAt; first | rfl | (apply Prod.ext <;> simp)))
  have q0 : (byteAt s k == 224) = false := by rw [beq_eq_false_iff_ne]; omega
  have q1 : (byteAt s k == 237) = true := by rw [beq_iff_eq]; omega
  clear n0
  go_enter Tryz.func90, Tryz.ntmps90
  go_wp2_with (go_at_call 103; refine (more_any _ _ _ _ _ (by omega)).mono ?_; rintro e w' ⟨rfl, rfl⟩)
  go_ret2
  exact ⟨ret_form hv.out, 0, rfl⟩

set_option maxRecDepth 100000 in
set_option maxHeartbeats 1000000 in
theorem form_fn2 (s : ByteArray) (k : Nat) (w : World) (hs : s.size ≤ 140737488351232) (h1 : k < s.size) (c0 : 237 ≤ byteAt s k) (c1 : byteAt s k ≤ 237) (m0 : moreB s ((k : Int) + 1) 128 159 = true) (m1 : moreB s ((k : Int) + 2) 128 191 = false) :
    Calls Tryz.prog 90 #[.string s, .int .i64 k] w fun e w' => e = .returned (.tuple #[.int .i64 (formI s k).1, .int .i64 (formI s k).2]) ∧ ∃ n, w' = w.drewN n := by
  have b0 := byteAt_bd s k
  have b1 := byteAt_bd s (k + 1)
  have b2 := byteAt_bd s (k + 2)
  have b3 := byteAt_bd s (k + 3)
  have n0 := more_yes s k 1 128 159 m0
  have n1 := more_no s k 2 128 191 m1
  have g0 := byteAt_get s k h1
  have hv : Hid (formI s k = (0, 0)) := by
    unfold byteAt at b0 b1 b2 b3 c0 c1 n0 n1
    rw [formI_in s k h1 _ _ (TM.fN_3n _ _ _ _ _ (by omega) (by omega) (by omega) (by omega))]
    exact Lib.hid (by first | rfl | (unfold byteAt; first | rfl | (apply Prod.ext <;> simp)))
  have q0 : (byteAt s k == 224) = false := by rw [beq_eq_false_iff_ne]; omega
  have q1 : (byteAt s k == 237) = true := by rw [beq_iff_eq]; omega
  clear n0 n1
  go_enter Tryz.func90, Tryz.ntmps90
  go_wp2_with (go_at_call 103; refine (more_any _ _ _ _ _ (by omega)).mono ?_; rintro e w' ⟨rfl, rfl⟩)
  go_ret2
  exact ⟨ret_form hv.out, 0, rfl⟩

set_option maxRecDepth 100000 in
set_option maxHeartbeats 1000000 in
theorem form_g (s : ByteArray) (k : Nat) (w : World) (hs : s.size ≤ 140737488351232) (h1 : k < s.size) (c0 : 238 ≤ byteAt s k) (c1 : byteAt s k ≤ 239) (m0 : moreB s ((k : Int) + 1) 128 191 = true) (m1 : moreB s ((k : Int) + 2) 128 191 = true) :
    Calls Tryz.prog 90 #[.string s, .int .i64 k] w fun e w' => e = .returned (.tuple #[.int .i64 (formI s k).1, .int .i64 (formI s k).2]) ∧ ∃ n, w' = w.drewN n := by
  have b0 := byteAt_bd s k
  have b1 := byteAt_bd s (k + 1)
  have b2 := byteAt_bd s (k + 2)
  have b3 := byteAt_bd s (k + 3)
  have n0 := more_yes s k 1 128 191 m0
  have n1 := more_yes s k 2 128 191 m1
  have g0 := byteAt_get s k h1
  have l1 : k + 1 < s.size := by omega
  have g1 := byteAt_get s (k + 1) l1
  have x1 := and63 (byteAt s (k + 1)) b1.1 b1.2
  have l2 : k + 2 < s.size := by omega
  have g2 := byteAt_get s (k + 2) l2
  have x2 := and63 (byteAt s (k + 2)) b2.1 b2.2
  have x0 := and15 (byteAt s k) b0.1 b0.2
  have hv : Hid (formI s k = (byteAt s k % 16 * 4096 + byteAt s (k + 1) % 64 * 64 + byteAt s (k + 2) % 64, 3)) := by
    unfold byteAt at b0 b1 b2 b3 c0 c1 n0 n1
    rw [formI_in s k h1 _ _ (TM.fN_3 _ _ _ _ _ (by omega) (by omega) (by omega) (by omega) (by omega))]
    exact Lib.hid (by first | rfl | (unfold byteAt; first | rfl | (apply Prod.ext <;> simp)))
  have q0 : (byteAt s k == 224) = false := by rw [beq_eq_false_iff_ne]; omega
  have q1 : (byteAt s k == 237) = false := by rw [beq_eq_false_iff_ne]; omega
  clear n0 n1
  go_enter Tryz.func90, Tryz.ntmps90
  go_wp2_with (go_at_call 103; refine (more_any _ _ _ _ _ (by omega)).mono ?_; rintro e w' ⟨rfl, rfl⟩)
  have y1 : IntKind.i64.wrap ((k : Int) + 1) = (k : Int) + 1 := IntWalk.i64_in _ (by omega)
  have y2 : IntKind.i64.wrap ((k : Int) + 2) = (k : Int) + 2 := IntWalk.i64_in _ (by omega)
  have z1 : (0 : Int) ≤ (k : Int) + 1 ∧ (k : Int) + 1 < s.size := by omega
  have z2 : (0 : Int) ≤ (k : Int) + 2 ∧ (k : Int) + 2 < s.size := by omega
  have t1 : ((k : Int) + 1).toNat = k + 1 := by omega
  have t2 : ((k : Int) + 2).toNat = k + 2 := by omega
  go_quiet (fail)
  clear y1 z1 t1 y2 z2 t2
  go_wp2
  go_ret2
  exact ⟨ret_form hv.out, _, rfl⟩

set_option maxRecDepth 100000 in
set_option maxHeartbeats 1000000 in
theorem form_gn1 (s : ByteArray) (k : Nat) (w : World) (hs : s.size ≤ 140737488351232) (h1 : k < s.size) (c0 : 238 ≤ byteAt s k) (c1 : byteAt s k ≤ 239) (m0 : moreB s ((k : Int) + 1) 128 191 = false) :
    Calls Tryz.prog 90 #[.string s, .int .i64 k] w fun e w' => e = .returned (.tuple #[.int .i64 (formI s k).1, .int .i64 (formI s k).2]) ∧ ∃ n, w' = w.drewN n := by
  have b0 := byteAt_bd s k
  have b1 := byteAt_bd s (k + 1)
  have b2 := byteAt_bd s (k + 2)
  have b3 := byteAt_bd s (k + 3)
  have n0 := more_no s k 1 128 191 m0
  have g0 := byteAt_get s k h1
  have hv : Hid (formI s k = (0, 0)) := by
    unfold byteAt at b0 b1 b2 b3 c0 c1 n0
    rw [formI_in s k h1 _ _ (TM.fN_3n _ _ _ _ _ (by omega) (by omega) (by omega) (by omega))]
    exact Lib.hid (by first | rfl | (unfold byteAt; first | rfl | (apply Prod.ext <;> simp)))
  have q0 : (byteAt s k == 224) = false := by rw [beq_eq_false_iff_ne]; omega
  have q1 : (byteAt s k == 237) = false := by rw [beq_eq_false_iff_ne]; omega
  clear n0
  go_enter Tryz.func90, Tryz.ntmps90
  go_wp2_with (go_at_call 103; refine (more_any _ _ _ _ _ (by omega)).mono ?_; rintro e w' ⟨rfl, rfl⟩)
  go_ret2
  exact ⟨ret_form hv.out, 0, rfl⟩

set_option maxRecDepth 100000 in
set_option maxHeartbeats 1000000 in
theorem form_gn2 (s : ByteArray) (k : Nat) (w : World) (hs : s.size ≤ 140737488351232) (h1 : k < s.size) (c0 : 238 ≤ byteAt s k) (c1 : byteAt s k ≤ 239) (m0 : moreB s ((k : Int) + 1) 128 191 = true) (m1 : moreB s ((k : Int) + 2) 128 191 = false) :
    Calls Tryz.prog 90 #[.string s, .int .i64 k] w fun e w' => e = .returned (.tuple #[.int .i64 (formI s k).1, .int .i64 (formI s k).2]) ∧ ∃ n, w' = w.drewN n := by
  have b0 := byteAt_bd s k
  have b1 := byteAt_bd s (k + 1)
  have b2 := byteAt_bd s (k + 2)
  have b3 := byteAt_bd s (k + 3)
  have n0 := more_yes s k 1 128 191 m0
  have n1 := more_no s k 2 128 191 m1
  have g0 := byteAt_get s k h1
  have hv : Hid (formI s k = (0, 0)) := by
    unfold byteAt at b0 b1 b2 b3 c0 c1 n0 n1
    rw [formI_in s k h1 _ _ (TM.fN_3n _ _ _ _ _ (by omega) (by omega) (by omega) (by omega))]
    exact Lib.hid (by first | rfl | (unfold byteAt; first | rfl | (apply Prod.ext <;> simp)))
  have q0 : (byteAt s k == 224) = false := by rw [beq_eq_false_iff_ne]; omega
  have q1 : (byteAt s k == 237) = false := by rw [beq_eq_false_iff_ne]; omega
  clear n0 n1
  go_enter Tryz.func90, Tryz.ntmps90
  go_wp2_with (go_at_call 103; refine (more_any _ _ _ _ _ (by omega)).mono ?_; rintro e w' ⟨rfl, rfl⟩)
  go_ret2
  exact ⟨ret_form hv.out, 0, rfl⟩
end Go.Proofs.YtdkpnbjkehakjaaGreatDoor

/-! the walk of the reference's Form: forms of four bytes -/
namespace Go.Proofs.YtdkpnbjkehakjaaGreatDoor
open Go.RowKit

set_option maxRecDepth 100000 in
set_option maxHeartbeats 1000000 in
theorem form_h (s : ByteArray) (k : Nat) (w : World) (hs : s.size ≤ 140737488351232) (h1 : k < s.size) (c0 : 240 ≤ byteAt s k) (c1 : byteAt s k ≤ 240) (m0 : moreB s ((k : Int) + 1) 144 191 = true) (m1 : moreB s ((k : Int) + 2) 128 191 = true) (m2 : moreB s ((k : Int) + 3) 128 191 = true) :
    Calls Tryz.prog 90 #[.string s, .int .i64 k] w fun e w' => e = .returned (.tuple #[.int .i64 (formI s k).1, .int .i64 (formI s k).2]) ∧ ∃ n, w' = w.drewN n := by
  have b0 := byteAt_bd s k
  have b1 := byteAt_bd s (k + 1)
  have b2 := byteAt_bd s (k + 2)
  have b3 := byteAt_bd s (k + 3)
  have n0 := more_yes s k 1 144 191 m0
  have n1 := more_yes s k 2 128 191 m1
  have n2 := more_yes s k 3 128 191 m2
  have g0 := byteAt_get s k h1
  have l1 : k + 1 < s.size := by omega
  have g1 := byteAt_get s (k + 1) l1
  have x1 := and63 (byteAt s (k + 1)) b1.1 b1.2
  have l2 : k + 2 < s.size := by omega
  have g2 := byteAt_get s (k + 2) l2
  have x2 := and63 (byteAt s (k + 2)) b2.1 b2.2
  have l3 : k + 3 < s.size := by omega
  have g3 := byteAt_get s (k + 3) l3
  have x3 := and63 (byteAt s (k + 3)) b3.1 b3.2
  have x0 := and7 (byteAt s k) b0.1 b0.2
  have hv : Hid (formI s k = (byteAt s k % 8 * 262144 + byteAt s (k + 1) % 64 * 4096 + byteAt s (k + 2) % 64 * 64 + byteAt s (k + 3) % 64, 4)) := by
    unfold byteAt at b0 b1 b2 b3 c0 c1 n0 n1 n2
    rw [formI_in s k h1 _ _ (TM.fN_4 _ _ _ _ _ (by omega) (by omega) (by omega) (by omega) (by omega) (by omega))]
    exact Lib.hid (by first | rfl | (unfold byteAt; first | rfl | (apply Prod.ext <;> simp)))
  have q0 : (byteAt s k == 240) = true := by rw [beq_iff_eq]; omega
  have q1 : (byteAt s k == 244) = false := by rw [beq_eq_false_iff_ne]; omega
  clear n0 n1 n2
  go_enter Tryz.func90, Tryz.ntmps90
  go_wp2_with (go_at_call 103; refine (more_any _ _ _ _ _ (by omega)).mono ?_; rintro e w' ⟨rfl, rfl⟩)
  have y1 : IntKind.i64.wrap ((k : Int) + 1) = (k : Int) + 1 := IntWalk.i64_in _ (by omega)
  have y2 : IntKind.i64.wrap ((k : Int) + 2) = (k : Int) + 2 := IntWalk.i64_in _ (by omega)
  have y3 : IntKind.i64.wrap ((k : Int) + 3) = (k : Int) + 3 := IntWalk.i64_in _ (by omega)
  have z1 : (0 : Int) ≤ (k : Int) + 1 ∧ (k : Int) + 1 < s.size := by omega
  have z2 : (0 : Int) ≤ (k : Int) + 2 ∧ (k : Int) + 2 < s.size := by omega
  have z3 : (0 : Int) ≤ (k : Int) + 3 ∧ (k : Int) + 3 < s.size := by omega
  have t1 : ((k : Int) + 1).toNat = k + 1 := by omega
  have t2 : ((k : Int) + 2).toNat = k + 2 := by omega
  have t3 : ((k : Int) + 3).toNat = k + 3 := by omega
  go_quiet (fail)
  clear y1 z1 t1 y2 z2 t2 y3 z3 t3
  go_wp2
  go_ret2
  exact ⟨ret_form hv.out, _, rfl⟩

set_option maxRecDepth 100000 in
set_option maxHeartbeats 1000000 in
theorem form_hn1 (s : ByteArray) (k : Nat) (w : World) (hs : s.size ≤ 140737488351232) (h1 : k < s.size) (c0 : 240 ≤ byteAt s k) (c1 : byteAt s k ≤ 240) (m0 : moreB s ((k : Int) + 1) 144 191 = false) :
    Calls Tryz.prog 90 #[.string s, .int .i64 k] w fun e w' => e = .returned (.tuple #[.int .i64 (formI s k).1, .int .i64 (formI s k).2]) ∧ ∃ n, w' = w.drewN n := by
  have b0 := byteAt_bd s k
  have b1 := byteAt_bd s (k + 1)
  have b2 := byteAt_bd s (k + 2)
  have b3 := byteAt_bd s (k + 3)
  have n0 := more_no s k 1 144 191 m0
  have g0 := byteAt_get s k h1
  have hv : Hid (formI s k = (0, 0)) := by
    unfold byteAt at b0 b1 b2 b3 c0 c1 n0
    rw [formI_in s k h1 _ _ (TM.fN_4n _ _ _ _ _ (by omega) (by omega) (by omega) (by omega) (by omega))]
    exact Lib.hid (by first | rfl | (unfold byteAt; first | rfl | (apply Prod.ext <;> simp)))
  have q0 : (byteAt s k == 240) = true := by rw [beq_iff_eq]; omega
  have q1 : (byteAt s k == 244) = false := by rw [beq_eq_false_iff_ne]; omega
  clear n0
  go_enter Tryz.func90, Tryz.ntmps90
  go_wp2_with (go_at_call 103; refine (more_any _ _ _ _ _ (by omega)).mono ?_; rintro e w' ⟨rfl, rfl⟩)
  go_ret2
  exact ⟨ret_form hv.out, 0, rfl⟩

set_option maxRecDepth 100000 in
set_option maxHeartbeats 1000000 in
theorem form_hn2 (s : ByteArray) (k : Nat) (w : World) (hs : s.size ≤ 140737488351232) (h1 : k < s.size) (c0 : 240 ≤ byteAt s k) (c1 : byteAt s k ≤ 240) (m0 : moreB s ((k : Int) + 1) 144 191 = true) (m1 : moreB s ((k : Int) + 2) 128 191 = false) :
    Calls Tryz.prog 90 #[.string s, .int .i64 k] w fun e w' => e = .returned (.tuple #[.int .i64 (formI s k).1, .int .i64 (formI s k).2]) ∧ ∃ n, w' = w.drewN n := by
  have b0 := byteAt_bd s k
  have b1 := byteAt_bd s (k + 1)
  have b2 := byteAt_bd s (k + 2)
  have b3 := byteAt_bd s (k + 3)
  have n0 := more_yes s k 1 144 191 m0
  have n1 := more_no s k 2 128 191 m1
  have g0 := byteAt_get s k h1
  have hv : Hid (formI s k = (0, 0)) := by
    unfold byteAt at b0 b1 b2 b3 c0 c1 n0 n1
    rw [formI_in s k h1 _ _ (TM.fN_4n _ _ _ _ _ (by omega) (by omega) (by omega) (by omega) (by omega))]
    exact Lib.hid (by first | rfl | (unfold byteAt; first | rfl | (apply Prod.ext <;> simp)))
  have q0 : (byteAt s k == 240) = true := by rw [beq_iff_eq]; omega
  have q1 : (byteAt s k == 244) = false := by rw [beq_eq_false_iff_ne]; omega
  clear n0 n1
  go_enter Tryz.func90, Tryz.ntmps90
  go_wp2_with (go_at_call 103; refine (more_any _ _ _ _ _ (by omega)).mono ?_; rintro e w' ⟨rfl, rfl⟩)
  go_ret2
  exact ⟨ret_form hv.out, 0, rfl⟩

set_option maxRecDepth 100000 in
set_option maxHeartbeats 1000000 in
theorem form_hn3 (s : ByteArray) (k : Nat) (w : World) (hs : s.size ≤ 140737488351232) (h1 : k < s.size) (c0 : 240 ≤ byteAt s k) (c1 : byteAt s k ≤ 240) (m0 : moreB s ((k : Int) + 1) 144 191 = true) (m1 : moreB s ((k : Int) + 2) 128 191 = true) (m2 : moreB s ((k : Int) + 3) 128 191 = false) :
    Calls Tryz.prog 90 #[.string s, .int .i64 k] w fun e w' => e = .returned (.tuple #[.int .i64 (formI s k).1, .int .i64 (formI s k).2]) ∧ ∃ n, w' = w.drewN n := by
  have b0 := byteAt_bd s k
  have b1 := byteAt_bd s (k + 1)
  have b2 := byteAt_bd s (k + 2)
  have b3 := byteAt_bd s (k + 3)
  have n0 := more_yes s k 1 144 191 m0
  have n1 := more_yes s k 2 128 191 m1
  have n2 := more_no s k 3 128 191 m2
  have g0 := byteAt_get s k h1
  have hv : Hid (formI s k = (0, 0)) := by
    unfold byteAt at b0 b1 b2 b3 c0 c1 n0 n1 n2
    rw [formI_in s k h1 _ _ (TM.fN_4n _ _ _ _ _ (by omega) (by omega) (by omega) (by omega) (by omega))]
    exact Lib.hid (by first | rfl | (unfold byteAt; first | rfl | (apply Prod.ext <;> simp)))
  have q0 : (byteAt s k == 240) = true := by rw [beq_iff_eq]; omega
  have q1 : (byteAt s k == 244) = false := by rw [beq_eq_false_iff_ne]; omega
  clear n0 n1 n2
  go_enter Tryz.func90, Tryz.ntmps90
  go_wp2_with (go_at_call 103; refine (more_any _ _ _ _ _ (by omega)).mono ?_; rintro e w' ⟨rfl, rfl⟩)
  go_ret2
  exact ⟨ret_form hv.out, 0, rfl⟩

set_option maxRecDepth 100000 in
set_option maxHeartbeats 1000000 in
theorem form_i (s : ByteArray) (k : Nat) (w : World) (hs : s.size ≤ 140737488351232) (h1 : k < s.size) (c0 : 241 ≤ byteAt s k) (c1 : byteAt s k ≤ 243) (m0 : moreB s ((k : Int) + 1) 128 191 = true) (m1 : moreB s ((k : Int) + 2) 128 191 = true) (m2 : moreB s ((k : Int) + 3) 128 191 = true) :
    Calls Tryz.prog 90 #[.string s, .int .i64 k] w fun e w' => e = .returned (.tuple #[.int .i64 (formI s k).1, .int .i64 (formI s k).2]) ∧ ∃ n, w' = w.drewN n := by
  have b0 := byteAt_bd s k
  have b1 := byteAt_bd s (k + 1)
  have b2 := byteAt_bd s (k + 2)
  have b3 := byteAt_bd s (k + 3)
  have n0 := more_yes s k 1 128 191 m0
  have n1 := more_yes s k 2 128 191 m1
  have n2 := more_yes s k 3 128 191 m2
  have g0 := byteAt_get s k h1
  have l1 : k + 1 < s.size := by omega
  have g1 := byteAt_get s (k + 1) l1
  have x1 := and63 (byteAt s (k + 1)) b1.1 b1.2
  have l2 : k + 2 < s.size := by omega
  have g2 := byteAt_get s (k + 2) l2
  have x2 := and63 (byteAt s (k + 2)) b2.1 b2.2
  have l3 : k + 3 < s.size := by omega
  have g3 := byteAt_get s (k + 3) l3
  have x3 := and63 (byteAt s (k + 3)) b3.1 b3.2
  have x0 := and7 (byteAt s k) b0.1 b0.2
  have hv : Hid (formI s k = (byteAt s k % 8 * 262144 + byteAt s (k + 1) % 64 * 4096 + byteAt s (k + 2) % 64 * 64 + byteAt s (k + 3) % 64, 4)) := by
    unfold byteAt at b0 b1 b2 b3 c0 c1 n0 n1 n2
    rw [formI_in s k h1 _ _ (TM.fN_4 _ _ _ _ _ (by omega) (by omega) (by omega) (by omega) (by omega) (by omega))]
    exact Lib.hid (by first | rfl | (unfold byteAt; first | rfl | (apply Prod.ext <;> simp)))
  have q0 : (byteAt s k == 240) = false := by rw [beq_eq_false_iff_ne]; omega
  have q1 : (byteAt s k == 244) = false := by rw [beq_eq_false_iff_ne]; omega
  clear n0 n1 n2
  go_enter Tryz.func90, Tryz.ntmps90
  go_wp2_with (go_at_call 103; refine (more_any _ _ _ _ _ (by omega)).mono ?_; rintro e w' ⟨rfl, rfl⟩)
  have y1 : IntKind.i64.wrap ((k : Int) + 1) = (k : Int) + 1 := IntWalk.i64_in _ (by omega)
  have y2 : IntKind.i64.wrap ((k : Int) + 2) = (k : Int) + 2 := IntWalk.i64_in _ (by omega)
  have y3 : IntKind.i64.wrap ((k : Int) + 3) = (k : Int) + 3 := IntWalk.i64_in _ (by omega)
  have z1 : (0 : Int) ≤ (k : Int) + 1 ∧ (k : Int) + 1 < s.size := by omega
  have z2 : (0 : Int) ≤ (k : Int) + 2 ∧ (k : Int) + 2 < s.size := by omega
  have z3 : (0 : Int) ≤ (k : Int) + 3 ∧ (k : Int) + 3 < s.size := by omega
  have t1 : ((k : Int) + 1).toNat = k + 1 := by omega
  have t2 : ((k : Int) + 2).toNat = k + 2 := by omega
  have t3 : ((k : Int) + 3).toNat = k + 3 := by omega
  go_quiet (fail)
  clear y1 z1 t1 y2 z2 t2 y3 z3 t3
  go_wp2
  go_ret2
  exact ⟨ret_form hv.out, _, rfl⟩

set_option maxRecDepth 100000 in
set_option maxHeartbeats 1000000 in
theorem form_in1 (s : ByteArray) (k : Nat) (w : World) (hs : s.size ≤ 140737488351232) (h1 : k < s.size) (c0 : 241 ≤ byteAt s k) (c1 : byteAt s k ≤ 243) (m0 : moreB s ((k : Int) + 1) 128 191 = false) :
    Calls Tryz.prog 90 #[.string s, .int .i64 k] w fun e w' => e = .returned (.tuple #[.int .i64 (formI s k).1, .int .i64 (formI s k).2]) ∧ ∃ n, w' = w.drewN n := by
  have b0 := byteAt_bd s k
  have b1 := byteAt_bd s (k + 1)
  have b2 := byteAt_bd s (k + 2)
  have b3 := byteAt_bd s (k + 3)
  have n0 := more_no s k 1 128 191 m0
  have g0 := byteAt_get s k h1
  have hv : Hid (formI s k = (0, 0)) := by
    unfold byteAt at b0 b1 b2 b3 c0 c1 n0
    rw [formI_in s k h1 _ _ (TM.fN_4n _ _ _ _ _ (by omega) (by omega) (by omega) (by omega) (by omega))]
    exact Lib.hid (by first | rfl | (unfold byteAt; first | rfl | (apply Prod.ext <;> simp)))
  have q0 : (byteAt s k == 240) = false := by rw [beq_eq_false_iff_ne]; omega
  have q1 : (byteAt s k == 244) = false := by rw [beq_eq_false_iff_ne]; omega
  clear n0
  go_enter Tryz.func90, Tryz.ntmps90
  go_wp2_with (go_at_call 103; refine (more_any _ _ _ _ _ (by omega)).mono ?_; rintro e w' ⟨rfl, rfl⟩)
  go_ret2
  exact ⟨ret_form hv.out, 0, rfl⟩

set_option maxRecDepth 100000 in
set_option maxHeartbeats 1000000 in
theorem form_in2 (s : ByteArray) (k : Nat) (w : World) (hs : s.size ≤ 140737488351232) (h1 : k < s.size) (c0 : 241 ≤ byteAt s k) (c1 : byteAt s k ≤ 243) (m0 : moreB s ((k : Int) + 1) 128 191 = true) (m1 : moreB s ((k : Int) + 2) 128 191 = false) :
    Calls Tryz.prog 90 #[.string s, .int .i64 k] w fun e w' => e = .returned (.tuple #[.int .i64 (formI s k).1, .int .i64 (formI s k).2]) ∧ ∃ n, w' = w.drewN n := by
  have b0 := byteAt_bd s k
  have b1 := byteAt_bd s (k + 1)
  have b2 := byteAt_bd s (k + 2)
  have b3 := byteAt_bd s (k + 3)
  have n0 := more_yes s k 1 128 191 m0
  have n1 := more_no s k 2 128 191 m1
  have g0 := byteAt_get s k h1
  have hv : Hid (formI s k = (0, 0)) := by
    unfold byteAt at b0 b1 b2 b3 c0 c1 n0 n1
    rw [formI_in s k h1 _ _ (TM.fN_4n _ _ _ _ _ (by omega) (by omega) (by omega) (by omega) (by omega))]
    exact Lib.hid (by first | rfl | (unfold byteAt; first | rfl | (apply Prod.ext <;> simp)))
  have q0 : (byteAt s k == 240) = false := by rw [beq_eq_false_iff_ne]; omega
  have q1 : (byteAt s k == 244) = false := by rw [beq_eq_false_iff_ne]; omega
  clear n0 n1
  go_enter Tryz.func90, Tryz.ntmps90
  go_wp2_with (go_at_call 103; refine (more_any _ _ _ _ _ (by omega)).mono ?_; rintro e w' ⟨rfl, rfl⟩)
  go_ret2
  exact ⟨ret_form hv.out, 0, rfl⟩

set_option maxRecDepth 100000 in
set_option maxHeartbeats 1000000 in
theorem form_in3 (s : ByteArray) (k : Nat) (w : World) (hs : s.size ≤ 140737488351232) (h1 : k < s.size) (c0 : 241 ≤ byteAt s k) (c1 : byteAt s k ≤ 243) (m0 : moreB s ((k : Int) + 1) 128 191 = true) (m1 : moreB s ((k : Int) + 2) 128 191 = true) (m2 : moreB s ((k : Int) + 3) 128 191 = false) :
    Calls Tryz.prog 90 #[.string s, .int .i64 k] w fun e w' => e = .returned (.tuple #[.int .i64 (formI s k).1, .int .i64 (formI s k).2]) ∧ ∃ n, w' = w.drewN n := by
  have b0 := byteAt_bd s k
  have b1 := byteAt_bd s (k + 1)
  have b2 := byteAt_bd s (k + 2)
  have b3 := byteAt_bd s (k + 3)
  have n0 := more_yes s k 1 128 191 m0
  have n1 := more_yes s k 2 128 191 m1
  have n2 := more_no s k 3 128 191 m2
  have g0 := byteAt_get s k h1
  have hv : Hid (formI s k = (0, 0)) := by
    unfold byteAt at b0 b1 b2 b3 c0 c1 n0 n1 n2
    rw [formI_in s k h1 _ _ (TM.fN_4n _ _ _ _ _ (by omega) (by omega) (by omega) (by omega) (by omega))]
    exact Lib.hid (by first | rfl | (unfold byteAt; first | rfl | (apply Prod.ext <;> simp)))
  have q0 : (byteAt s k == 240) = false := by rw [beq_eq_false_iff_ne]; omega
  have q1 : (byteAt s k == 244) = false := by rw [beq_eq_false_iff_ne]; omega
  clear n0 n1 n2
  go_enter Tryz.func90, Tryz.ntmps90
  go_wp2_with (go_at_call 103; refine (more_any _ _ _ _ _ (by omega)).mono ?_; rintro e w' ⟨rfl, rfl⟩)
  go_ret2
  exact ⟨ret_form hv.out, 0, rfl⟩

set_option maxRecDepth 100000 in
set_option maxHeartbeats 1000000 in
theorem form_j (s : ByteArray) (k : Nat) (w : World) (hs : s.size ≤ 140737488351232) (h1 : k < s.size) (c0 : 244 ≤ byteAt s k) (c1 : byteAt s k ≤ 244) (m0 : moreB s ((k : Int) + 1) 128 143 = true) (m1 : moreB s ((k : Int) + 2) 128 191 = true) (m2 : moreB s ((k : Int) + 3) 128 191 = true) :
    Calls Tryz.prog 90 #[.string s, .int .i64 k] w fun e w' => e = .returned (.tuple #[.int .i64 (formI s k).1, .int .i64 (formI s k).2]) ∧ ∃ n, w' = w.drewN n := by
  have b0 := byteAt_bd s k
  have b1 := byteAt_bd s (k + 1)
  have b2 := byteAt_bd s (k + 2)
  have b3 := byteAt_bd s (k + 3)
  have n0 := more_yes s k 1 128 143 m0
  have n1 := more_yes s k 2 128 191 m1
  have n2 := more_yes s k 3 128 191 m2
  have g0 := byteAt_get s k h1
  have l1 : k + 1 < s.size := by omega
  have g1 := byteAt_get s (k + 1) l1
  have x1 := and63 (byteAt s (k + 1)) b1.1 b1.2
  have l2 : k + 2 < s.size := by omega
  have g2 := byteAt_get s (k + 2) l2
  have x2 := and63 (byteAt s (k + 2)) b2.1 b2.2
  have l3 : k + 3 < s.size := by omega
  have g3 := byteAt_get s (k + 3) l3
  have x3 := and63 (byteAt s (k + 3)) b3.1 b3.2
  have x0 := and7 (byteAt s k) b0.1 b0.2
  have hv : Hid (formI s k = (byteAt s k % 8 * 262144 + byteAt s (k + 1) % 64 * 4096 + byteAt s (k + 2) % 64 * 64 + byteAt s (k + 3) % 64, 4)) := by
    unfold byteAt at b0 b1 b2 b3 c0 c1 n0 n1 n2
    rw [formI_in s k h1 _ _ (TM.fN_4 _ _ _ _ _ (by omega) (by omega) (by omega) (by omega) (by omega) (by omega))]
    exact Lib.hid (by first | rfl | (unfold byteAt; first | rfl | (apply Prod.ext <;> simp)))
  have q0 : (byteAt s k == 240) = false := by rw [beq_eq_false_iff_ne]; omega
  have q1 : (byteAt s k == 244) = true := by rw [beq_iff_eq]; omega
  clear n0 n1 n2
  go_enter Tryz.func90, Tryz.ntmps90
  go_wp2_with (go_at_call 103; refine (more_any _ _ _ _ _ (by omega)).mono ?_; rintro e w' ⟨rfl, rfl⟩)
  have y1 : IntKind.i64.wrap ((k : Int) + 1) = (k : Int) + 1 := IntWalk.i64_in _ (by omega)
  have y2 : IntKind.i64.wrap ((k : Int) + 2) = (k : Int) + 2 := IntWalk.i64_in _ (by omega)
  have y3 : IntKind.i64.wrap ((k : Int) + 3) = (k : Int) + 3 := IntWalk.i64_in _ (by omega)
  have z1 : (0 : Int) ≤ (k : Int) + 1 ∧ (k : Int) + 1 < s.size := by omega
  have z2 : (0 : Int) ≤ (k : Int) + 2 ∧ (k : Int) + 2 < s.size := by omega
  have z3 : (0 : Int) ≤ (k : Int) + 3 ∧ (k : Int) + 3 < s.size := by omega
  have t1 : ((k : Int) + 1).toNat = k + 1 := by omega
  have t2 : ((k : Int) + 2).toNat = k + 2 := by omega
  have t3 : ((k : Int) + 3).toNat = k + 3 := by omega
  go_quiet (fail)
  clear y1 z1 t1 y2 z2 t2 y3 z3 t3
  go_wp2
  go_ret2
  exact ⟨ret_form hv.out, _, rfl⟩

set_option maxRecDepth 100000 in
set_option maxHeartbeats 1000000 in
theorem form_jn1 (s : ByteArray) (k : Nat) (w : World) (hs : s.size ≤ 140737488351232) (h1 : k < s.size) (c0 : 244 ≤ byteAt s k) (c1 : byteAt s k ≤ 244) (m0 : moreB s ((k : Int) + 1) 128 143 = false) :
    Calls Tryz.prog 90 #[.string s, .int .i64 k] w fun e w' => e = .returned (.tuple #[.int .i64 (formI s k).1, .int .i64 (formI s k).2]) ∧ ∃ n, w' = w.drewN n := by
  have b0 := byteAt_bd s k
  have b1 := byteAt_bd s (k + 1)
  have b2 := byteAt_bd s (k + 2)
  have b3 := byteAt_bd s (k + 3)
  have n0 := more_no s k 1 128 143 m0
  have g0 := byteAt_get s k h1
  have hv : Hid (formI s k = (0, 0)) := by
    unfold byteAt at b0 b1 b2 b3 c0 c1 n0
    rw [formI_in s k h1 _ _ (TM.fN_4n _ _ _ _ _ (by omega) (by omega) (by omega) (by omega) (by omega))]
    exact Lib.hid (by first | rfl | (unfold byteAt; first | rfl | (apply Prod.ext <;> simp)))
  have q0 : (byteAt s k == 240) = false := by rw [beq_eq_false_iff_ne]; omega
  have q1 : (byteAt s k == 244) = true := by rw [beq_iff_eq]; omega
  clear n0
  go_enter Tryz.func90, Tryz.ntmps90
  go_wp2_with (go_at_call 103; refine (more_any _ _ _ _ _ (by omega)).mono ?_; rintro e w' ⟨rfl, rfl⟩)
  go_ret2
  exact ⟨ret_form hv.out, 0, rfl⟩

set_option maxRecDepth 100000 in
set_option maxHeartbeats 1000000 in
theorem form_jn2 (s : ByteArray) (k : Nat) (w : World) (hs : s.size ≤ 140737488351232) (h1 : k < s.size) (c0 : 244 ≤ byteAt s k) (c1 : byteAt s k ≤ 244) (m0 : moreB s ((k : Int) + 1) 128 143 = true) (m1 : moreB s ((k : Int) + 2) 128 191 = false) :
    Calls Tryz.prog 90 #[.string s, .int .i64 k] w fun e w' => e = .returned (.tuple #[.int .i64 (formI s k).1, .int .i64 (formI s k).2]) ∧ ∃ n, w' = w.drewN n := by
  have b0 := byteAt_bd s k
  have b1 := byteAt_bd s (k + 1)
  have b2 := byteAt_bd s (k + 2)
  have b3 := byteAt_bd s (k + 3)
  have n0 := more_yes s k 1 128 143 m0
  have n1 := more_no s k 2 128 191 m1
  have g0 := byteAt_get s k h1
  have hv : Hid (formI s k = (0, 0)) := by
    unfold byteAt at b0 b1 b2 b3 c0 c1 n0 n1
    rw [formI_in s k h1 _ _ (TM.fN_4n _ _ _ _ _ (by omega) (by omega) (by omega) (by omega) (by omega))]
    exact Lib.hid (by first | rfl | (unfold byteAt; first | rfl | (apply Prod.ext <;> simp)))
  have q0 : (byteAt s k == 240) = false := by rw [beq_eq_false_iff_ne]; omega
  have q1 : (byteAt s k == 244) = true := by rw [beq_iff_eq]; omega
  clear n0 n1
  go_enter Tryz.func90, Tryz.ntmps90
  go_wp2_with (go_at_call 103; refine (more_any _ _ _ _ _ (by omega)).mono ?_; rintro e w' ⟨rfl, rfl⟩)
  go_ret2
  exact ⟨ret_form hv.out, 0, rfl⟩

set_option maxRecDepth 100000 in
set_option maxHeartbeats 1000000 in
theorem form_jn3 (s : ByteArray) (k : Nat) (w : World) (hs : s.size ≤ 140737488351232) (h1 : k < s.size) (c0 : 244 ≤ byteAt s k) (c1 : byteAt s k ≤ 244) (m0 : moreB s ((k : Int) + 1) 128 143 = true) (m1 : moreB s ((k : Int) + 2) 128 191 = true) (m2 : moreB s ((k : Int) + 3) 128 191 = false) :
    Calls Tryz.prog 90 #[.string s, .int .i64 k] w fun e w' => e = .returned (.tuple #[.int .i64 (formI s k).1, .int .i64 (formI s k).2]) ∧ ∃ n, w' = w.drewN n := by
  have b0 := byteAt_bd s k
  have b1 := byteAt_bd s (k + 1)
  have b2 := byteAt_bd s (k + 2)
  have b3 := byteAt_bd s (k + 3)
  have n0 := more_yes s k 1 128 143 m0
  have n1 := more_yes s k 2 128 191 m1
  have n2 := more_no s k 3 128 191 m2
  have g0 := byteAt_get s k h1
  have hv : Hid (formI s k = (0, 0)) := by
    unfold byteAt at b0 b1 b2 b3 c0 c1 n0 n1 n2
    rw [formI_in s k h1 _ _ (TM.fN_4n _ _ _ _ _ (by omega) (by omega) (by omega) (by omega) (by omega))]
    exact Lib.hid (by first | rfl | (unfold byteAt; first | rfl | (apply Prod.ext <;> simp)))
  have q0 : (byteAt s k == 240) = false := by rw [beq_eq_false_iff_ne]; omega
  have q1 : (byteAt s k == 244) = true := by rw [beq_iff_eq]; omega
  clear n0 n1 n2
  go_enter Tryz.func90, Tryz.ntmps90
  go_wp2_with (go_at_call 103; refine (more_any _ _ _ _ _ (by omega)).mono ?_; rintro e w' ⟨rfl, rfl⟩)
  go_ret2
  exact ⟨ret_form hv.out, 0, rfl⟩
end Go.Proofs.YtdkpnbjkehakjaaGreatDoor

/-! the walks of the reference's Form (whole), Next, Bad, Runes -/
namespace Go.Proofs.YtdkpnbjkehakjaaGreatDoor
open Go.RowKit

set_option maxRecDepth 100000 in
set_option maxHeartbeats 400000 in
theorem form_out (s : ByteArray) (i : Int) (w : World) (h : i < 0 ∨ (s.size : Int) ≤ i) :
    Calls Tryz.prog 90 #[.string s, .int .i64 i] w fun e w' => e = .returned (.tuple #[.int .i64 (formI s i).1, .int .i64 (formI s i).2]) ∧ ∃ n, w' = w.drewN n := by
  have hv := Lib.hid (formI_out s i (by omega))
  rcases h with h | h
  · go_enter Tryz.func90, Tryz.ntmps90
    go_wp2
    go_ret2
    exact ⟨ret_form hv.out, 0, rfl⟩
  · have h0 : 0 ≤ i := by omega
    go_enter Tryz.func90, Tryz.ntmps90
    go_wp2
    go_ret2
    exact ⟨ret_form hv.out, 0, rfl⟩

theorem form_any (s : ByteArray) (i : Int) (w : World) (hs : s.size ≤ 140737488351232) :
    Calls Tryz.prog 90 #[.string s, .int .i64 i] w fun e w' => e = .returned (.tuple #[.int .i64 (formI s i).1, .int .i64 (formI s i).2]) ∧ ∃ n, w' = w.drewN n := by
  by_cases h : 0 ≤ i ∧ i < s.size
  · obtain ⟨k, rfl⟩ := Int.eq_ofNat_of_zero_le h.1
    have h1 : k < s.size := by omega
    have hb := byteAt_bd s k
    rcases (show byteAt s k ≤ 127 ∨ (128 ≤ byteAt s k ∧ byteAt s k ≤ 193) ∨ (194 ≤ byteAt s k ∧ byteAt s k ≤ 223) ∨ (224 ≤ byteAt s k ∧ byteAt s k ≤ 224) ∨ (225 ≤ byteAt s k ∧ byteAt s k ≤ 236) ∨ (237 ≤ byteAt s k ∧ byteAt s k ≤ 237) ∨
        (238 ≤ byteAt s k ∧ byteAt s k ≤ 239) ∨ (240 ≤ byteAt s k ∧ byteAt s k ≤ 240) ∨ (241 ≤ byteAt s k ∧ byteAt s k ≤ 243) ∨ (244 ≤ byteAt s k ∧ byteAt s k ≤ 244) ∨ 245 ≤ byteAt s k by omega)
      with c | ⟨c, d⟩ | ⟨c, d⟩ | ⟨c, d⟩ | ⟨c, d⟩ | ⟨c, d⟩ | ⟨c, d⟩ | ⟨c, d⟩ | ⟨c, d⟩ | ⟨c, d⟩ | c
    · exact form_a s k w hs h1 hb.1 c
    · exact form_b s k w hs h1 c d
    · cases m : moreB s ((k : Int) + 1) 128 191
      · exact form_cn s k w hs h1 c d m
      · exact form_c s k w hs h1 c d m
    · cases m : moreB s ((k : Int) + 1) 160 191
      · exact form_dn1 s k w hs h1 c d m
      · cases m2 : moreB s ((k : Int) + 2) 128 191
        · exact form_dn2 s k w hs h1 c d m m2
        · exact form_d s k w hs h1 c d m m2
    · cases m : moreB s ((k : Int) + 1) 128 191
      · exact form_en1 s k w hs h1 c d m
      · cases m2 : moreB s ((k : Int) + 2) 128 191
        · exact form_en2 s k w hs h1 c d m m2
        · exact form_e s k w hs h1 c d m m2
    · cases m : moreB s ((k : Int) + 1) 128 159
      · exact form_fn1 s k w hs h1 c d m
      · cases m2 : moreB s ((k : Int) + 2) 128 191
        · exact form_fn2 s k w hs h1 c d m m2
        · exact form_f s k w hs h1 c d m m2
    · cases m : moreB s ((k : Int) + 1) 128 191
      · exact form_gn1 s k w hs h1 c d m
      · cases m2 : moreB s ((k : Int) + 2) 128 191
        · exact form_gn2 s k w hs h1 c d m m2
        · exact form_g s k w hs h1 c d m m2
    · cases m : moreB s ((k : Int) + 1) 144 191
      · exact form_hn1 s k w hs h1 c d m
      · cases m2 : moreB s ((k : Int) + 2) 128 191
        · exact form_hn2 s k w hs h1 c d m m2
        · cases m3 : moreB s ((k : Int) + 3) 128 191
          · exact form_hn3 s k w hs h1 c d m m2 m3
          · exact form_h s k w hs h1 c d m m2 m3
    · cases m : moreB s ((k : Int) + 1) 128 191
      · exact form_in1 s k w hs h1 c d m
      · cases m2 : moreB s ((k : Int) + 2) 128 191
        · exact form_in2 s k w hs h1 c d m m2
        · cases m3 : moreB s ((k : Int) + 3) 128 191
          · exact form_in3 s k w hs h1 c d m m2 m3
          · exact form_i s k w hs h1 c d m m2 m3
    · cases m : moreB s ((k : Int) + 1) 128 143
      · exact form_jn1 s k w hs h1 c d m
      · cases m2 : moreB s ((k : Int) + 2) 128 191
        · exact form_jn2 s k w hs h1 c d m m2
        · cases m3 : moreB s ((k : Int) + 3) 128 191
          · exact form_jn3 s k w hs h1 c d m m2 m3
          · exact form_j s k w hs h1 c d m m2 m3
    · exact form_z s k w hs h1 c hb.2
  · exact form_out s i w (by omega)

set_option maxHeartbeats 400000 in
theorem next_any (s : ByteArray) (k : Nat) (w : World) (hs : s.size ≤ 140737488351232) (h : k < s.size) :
    Calls Tryz.prog 89 #[.string s, .int .i64 k] w fun e w' => e = .returned (.int .i64 ((k + wd s k : Nat) : Int)) ∧ ∃ n, w' = w.drewN n := by
  have h4 := wd_le4 s k
  have h1 := wd_pos s k
  cases hb : badB s k
  · have hf := formI_good s k h hb
    have hz : ((wd s k : Int) == 0) = false := by rw [beq_eq_false_iff_ne]; omega
    go_enter Tryz.func89, Tryz.ntmps89
    go_wp2_with fail
    refine (form_any s k w hs).mono ?_
    rintro e w1 ⟨rfl, n, rfl⟩
    rw [hf]
    go_wp2_with fail
    go_ret
    exact ⟨ret_int (by omega), _, rfl⟩
  · have hf := formI_bad s k h hb
    have hw := Lib.hid (show wd s k = 1 by unfold badB at hb; simp at hb; exact hb.2)
    go_enter Tryz.func89, Tryz.ntmps89
    go_wp2_with fail
    refine (form_any s k w hs).mono ?_
    rintro e w1 ⟨rfl, n, rfl⟩
    rw [hf]
    go_wp2_with fail
    go_ret
    exact ⟨ret_int (by rw [hw.out]; omega), _, rfl⟩
end Go.Proofs.YtdkpnbjkehakjaaGreatDoor

/-! letters and digits: the walks of text.Letter, text.Digit and of the reference's -/
namespace Go.Proofs.YtdkpnbjkehakjaaGreatDoor
open Go.RowKit

/-- does r stand between two ends? -/
def inB (f t r : Int) : Bool := decide (f ≤ r) && decide (r ≤ t)
def letterB (r : Int) : Bool := inB 97 122 r || inB 65 90 r || (r == 95) || inB 945 969 r || (inB 913 937 r && r != 930)
def digitB (r : Int) : Bool := inB 48 57 r

set_option maxHeartbeats 400000 in
theorem between_any (r : Int) (w : World) :
    Calls Tryz.prog 101 #[.int .i32 r] w fun e w' => e = .returned (.func (.func 111) #[] #[.pointer (some ⟨w.heap.size, 0, none⟩)]) ∧ w' = w.alloc (.cells #[.int .i32 r] 21) := by
  go_enter Tryz.func101, Tryz.ntmps101
  go_wp2
  go_ret
  exact ⟨rfl, rfl⟩

set_option maxHeartbeats 400000 in
theorem in_any (f t r : Int) (B : Nat) (w : World) (hc : w.cell? ⟨B, 0, none⟩ = some (.int .i32 r)) :
    Calls Tryz.prog 111 #[.int .i32 f, .int .i32 t, .pointer (some ⟨B, 0, none⟩)] w fun e w' => e = .returned (.bool (inB f t r)) ∧ w = w' := by
  by_cases h : f ≤ r
  · have hv := Lib.hid (show decide (r ≤ t) = inB f t r by unfold inB; rw [decide_eq_true h, Bool.true_and])
    go_enter Tryz.func111, Tryz.ntmps111
    go_wp2
    go_ret
    exact ⟨ret_bool hv.out, rfl⟩
  · have hv := Lib.hid (show false = inB f t r by unfold inB; rw [decide_eq_false h, Bool.false_and])
    have h : r < f := by omega
    go_enter Tryz.func111, Tryz.ntmps111
    go_wp2
    go_ret
    exact ⟨ret_bool hv.out, rfl⟩

theorem cell_new (W : World) (v : Value) (t : TypeId) : (W.alloc (.cells #[v] t)).cell? ⟨W.heap.size, 0, none⟩ = some v := by
  rw [World.cell?_alloc_at _ _ _ _ rfl]; rfl
theorem below_new (W : World) (o : Obj) : Below W.heap.size W (W.alloc o) := (Below.refl _ _).alloc (Nat.le_refl _) _

set_option maxHeartbeats 800000 in
theorem letter_any (r : Int) (w : World) :
    Calls Tryz.prog 84 #[.int .i32 r] w fun e w' => e = .returned (.bool (letterB r)) ∧ Below w.heap.size w w' := by
  have hcell := cell_new w (.int .i32 r) 21
  have hB := below_new w (.cells #[.int .i32 r] 21)
  cases c1 : inB 97 122 r
  · cases c2 : inB 65 90 r
    · cases c3 : (r == 95)
      · cases c4 : inB 945 969 r
        · cases c5 : inB 913 937 r
          · have hv := Lib.hid (show letterB r = false by unfold letterB; rw [c1, c2, c3, c4, c5]; rfl)
            go_enter Tryz.func84, Tryz.ntmps84
            go_wp2_with (first | (go_at_call 101; refine (between_any _ _).mono ?_; rintro e w' ⟨rfl, rfl⟩) | (go_at_call 111; refine (in_any _ _ _ _ _ hcell).mono ?_; rintro e w' ⟨rfl, rfl⟩))
            go_ret
            exact ⟨ret_bool hv.out.symm, hB⟩
          · have hv := Lib.hid (show letterB r = (r != 930) by unfold letterB; rw [c1, c2, c3, c4, c5]; rfl)
            go_enter Tryz.func84, Tryz.ntmps84
            go_wp2_with (first | (go_at_call 101; refine (between_any _ _).mono ?_; rintro e w' ⟨rfl, rfl⟩) | (go_at_call 111; refine (in_any _ _ _ _ _ hcell).mono ?_; rintro e w' ⟨rfl, rfl⟩))
            go_ret
            exact ⟨ret_bool hv.out.symm, hB⟩
        · have hv := Lib.hid (show letterB r = true by unfold letterB; rw [c1, c2, c3, c4]; rfl)
          go_enter Tryz.func84, Tryz.ntmps84
          go_wp2_with (first | (go_at_call 101; refine (between_any _ _).mono ?_; rintro e w' ⟨rfl, rfl⟩) | (go_at_call 111; refine (in_any _ _ _ _ _ hcell).mono ?_; rintro e w' ⟨rfl, rfl⟩))
          go_ret
          exact ⟨ret_bool hv.out.symm, hB⟩
      · have hv := Lib.hid (show letterB r = true by unfold letterB; rw [c1, c2, c3]; rfl)
        go_enter Tryz.func84, Tryz.ntmps84
        go_wp2_with (first | (go_at_call 101; refine (between_any _ _).mono ?_; rintro e w' ⟨rfl, rfl⟩) | (go_at_call 111; refine (in_any _ _ _ _ _ hcell).mono ?_; rintro e w' ⟨rfl, rfl⟩))
        go_ret
        exact ⟨ret_bool hv.out.symm, hB⟩
    · have hv := Lib.hid (show letterB r = true by unfold letterB; rw [c1, c2]; rfl)
      go_enter Tryz.func84, Tryz.ntmps84
      go_wp2_with (first | (go_at_call 101; refine (between_any _ _).mono ?_; rintro e w' ⟨rfl, rfl⟩) | (go_at_call 111; refine (in_any _ _ _ _ _ hcell).mono ?_; rintro e w' ⟨rfl, rfl⟩))
      go_ret
      exact ⟨ret_bool hv.out.symm, hB⟩
  · have hv := Lib.hid (show letterB r = true by unfold letterB; rw [c1]; rfl)
    go_enter Tryz.func84, Tryz.ntmps84
    go_wp2_with (first | (go_at_call 101; refine (between_any _ _).mono ?_; rintro e w' ⟨rfl, rfl⟩) | (go_at_call 111; refine (in_any _ _ _ _ _ hcell).mono ?_; rintro e w' ⟨rfl, rfl⟩))
    go_ret
    exact ⟨ret_bool hv.out.symm, hB⟩

set_option maxHeartbeats 400000 in
theorem digit_any (r : Int) (w : World) :
    Calls Tryz.prog 85 #[.int .i32 r] w fun e w' => e = .returned (.bool (digitB r)) ∧ Below w.heap.size w w' := by
  have hcell := cell_new w (.int .i32 r) 21
  have hB := below_new w (.cells #[.int .i32 r] 21)
  go_enter Tryz.func85, Tryz.ntmps85
  go_wp2_with (first | (go_at_call 101; refine (between_any _ _).mono ?_; rintro e w' ⟨rfl, rfl⟩) | (go_at_call 111; refine (in_any _ _ _ _ _ hcell).mono ?_; rintro e w' ⟨rfl, rfl⟩))
  go_ret
  exact ⟨rfl, hB⟩

theorem letter_at (r : Int) (b : Bool) (h : (97 ≤ r ∧ r ≤ 122 ∨ 65 ≤ r ∧ r ≤ 90 ∨ r = 95 ∨ 945 ≤ r ∧ r ≤ 969 ∨ 913 ≤ r ∧ r ≤ 937 ∧ r ≠ 930) ↔ b = true) : letterB r = b := by
  rw [Bool.eq_iff_iff, ← h]
  unfold letterB inB
  simp only [Bool.or_eq_true, Bool.and_eq_true, decide_eq_true_eq, beq_iff_eq, bne_iff_ne]
  omega

set_option maxHeartbeats 800000 in
theorem rletter_any (r : Int) (w : World) :
    Calls Tryz.prog 91 #[.int .i64 r] w fun e w' => e = .returned (.bool (letterB r)) ∧ w = w' := by
  rcases (show (r ≤ 64) ∨ (65 ≤ r ∧ r ≤ 90) ∨ (91 ≤ r ∧ r ≤ 94) ∨ (95 ≤ r ∧ r ≤ 95) ∨ (96 ≤ r ∧ r ≤ 96) ∨ (97 ≤ r ∧ r ≤ 122) ∨ (123 ≤ r ∧ r ≤ 912) ∨ (913 ≤ r ∧ r ≤ 929) ∨ (930 ≤ r ∧ r ≤ 930) ∨ (931 ≤ r ∧ r ≤ 937) ∨ (938 ≤ r ∧ r ≤ 944) ∨ (945 ≤ r ∧ r ≤ 969) ∨ (970 ≤ r) by omega) with h | ⟨h, k⟩ | ⟨h, k⟩ | ⟨h, k⟩ | ⟨h, k⟩ | ⟨h, k⟩ | ⟨h, k⟩ | ⟨h, k⟩ | ⟨h, k⟩ | ⟨h, k⟩ | ⟨h, k⟩ | ⟨h, k⟩ | h
  · have hv := Lib.hid (letter_at r false (by simp; omega))
    have u0 : decide (r ≤ 122) = true := by simp; omega
    have u1 : decide (r ≤ 90) = true := by simp; omega
    have u2 : decide (r ≤ 969) = true := by simp; omega
    have u3 : decide (r ≤ 937) = true := by simp; omega
    have u4 : decide (97 ≤ r) = false := by simp; omega
    have u5 : decide (65 ≤ r) = false := by simp; omega
    have u6 : decide (945 ≤ r) = false := by simp; omega
    have u7 : decide (913 ≤ r) = false := by simp; omega
    have u8 : (r == 95) = false := by simp; omega
    have u9 : (r != 930) = true := by simp; omega
    go_enter Tryz.func91, Tryz.ntmps91
    go_wp2
    go_ret
    exact ⟨ret_bool hv.out.symm, rfl⟩
  · have hv := Lib.hid (letter_at r true (by simp; omega))
    have u0 : decide (r ≤ 122) = true := by simp; omega
    have u1 : decide (r ≤ 90) = true := by simp; omega
    have u2 : decide (r ≤ 969) = true := by simp; omega
    have u3 : decide (r ≤ 937) = true := by simp; omega
    have u4 : decide (97 ≤ r) = false := by simp; omega
    have u5 : decide (65 ≤ r) = true := by simp; omega
    have u6 : decide (945 ≤ r) = false := by simp; omega
    have u7 : decide (913 ≤ r) = false := by simp; omega
    have u8 : (r == 95) = false := by simp; omega
    have u9 : (r != 930) = true := by simp; omega
    go_enter Tryz.func91, Tryz.ntmps91
    go_wp2
    go_ret
    exact ⟨ret_bool hv.out.symm, rfl⟩
  · have hv := Lib.hid (letter_at r false (by simp; omega))
    have u0 : decide (r ≤ 122) = true := by simp; omega
    have u1 : decide (r ≤ 90) = false := by simp; omega
    have u2 : decide (r ≤ 969) = true := by simp; omega
    have u3 : decide (r ≤ 937) = true := by simp; omega
    have u4 : decide (97 ≤ r) = false := by simp; omega
    have u5 : decide (65 ≤ r) = true := by simp; omega
    have u6 : decide (945 ≤ r) = false := by simp; omega
    have u7 : decide (913 ≤ r) = false := by simp; omega
    have u8 : (r == 95) = false := by simp; omega
    have u9 : (r != 930) = true := by simp; omega
    go_enter Tryz.func91, Tryz.ntmps91
    go_wp2
    go_ret
    exact ⟨ret_bool hv.out.symm, rfl⟩
  · have hv := Lib.hid (letter_at r true (by simp; omega))
    have u0 : decide (r ≤ 122) = true := by simp; omega
    have u1 : decide (r ≤ 90) = false := by simp; omega
    have u2 : decide (r ≤ 969) = true := by simp; omega
    have u3 : decide (r ≤ 937) = true := by simp; omega
    have u4 : decide (97 ≤ r) = false := by simp; omega
    have u5 : decide (65 ≤ r) = true := by simp; omega
    have u6 : decide (945 ≤ r) = false := by simp; omega
    have u7 : decide (913 ≤ r) = false := by simp; omega
    have u8 : (r == 95) = true := by simp; omega
    have u9 : (r != 930) = true := by simp; omega
    go_enter Tryz.func91, Tryz.ntmps91
    go_wp2
    go_ret
    exact ⟨ret_bool hv.out.symm, rfl⟩
  · have hv := Lib.hid (letter_at r false (by simp; omega))
    have u0 : decide (r ≤ 122) = true := by simp; omega
    have u1 : decide (r ≤ 90) = false := by simp; omega
    have u2 : decide (r ≤ 969) = true := by simp; omega
    have u3 : decide (r ≤ 937) = true := by simp; omega
    have u4 : decide (97 ≤ r) = false := by simp; omega
    have u5 : decide (65 ≤ r) = true := by simp; omega
    have u6 : decide (945 ≤ r) = false := by simp; omega
    have u7 : decide (913 ≤ r) = false := by simp; omega
    have u8 : (r == 95) = false := by simp; omega
    have u9 : (r != 930) = true := by simp; omega
    go_enter Tryz.func91, Tryz.ntmps91
    go_wp2
    go_ret
    exact ⟨ret_bool hv.out.symm, rfl⟩
  · have hv := Lib.hid (letter_at r true (by simp; omega))
    have u0 : decide (r ≤ 122) = true := by simp; omega
    have u1 : decide (r ≤ 90) = false := by simp; omega
    have u2 : decide (r ≤ 969) = true := by simp; omega
    have u3 : decide (r ≤ 937) = true := by simp; omega
    have u4 : decide (97 ≤ r) = true := by simp; omega
    have u5 : decide (65 ≤ r) = true := by simp; omega
    have u6 : decide (945 ≤ r) = false := by simp; omega
    have u7 : decide (913 ≤ r) = false := by simp; omega
    have u8 : (r == 95) = false := by simp; omega
    have u9 : (r != 930) = true := by simp; omega
    go_enter Tryz.func91, Tryz.ntmps91
    go_wp2
    go_ret
    exact ⟨ret_bool hv.out.symm, rfl⟩
  · have hv := Lib.hid (letter_at r false (by simp; omega))
    have u0 : decide (r ≤ 122) = false := by simp; omega
    have u1 : decide (r ≤ 90) = false := by simp; omega
    have u2 : decide (r ≤ 969) = true := by simp; omega
    have u3 : decide (r ≤ 937) = true := by simp; omega
    have u4 : decide (97 ≤ r) = true := by simp; omega
    have u5 : decide (65 ≤ r) = true := by simp; omega
    have u6 : decide (945 ≤ r) = false := by simp; omega
    have u7 : decide (913 ≤ r) = false := by simp; omega
    have u8 : (r == 95) = false := by simp; omega
    have u9 : (r != 930) = true := by simp; omega
    go_enter Tryz.func91, Tryz.ntmps91
    go_wp2
    go_ret
    exact ⟨ret_bool hv.out.symm, rfl⟩
  · have hv := Lib.hid (letter_at r true (by simp; omega))
    have u0 : decide (r ≤ 122) = false := by simp; omega
    have u1 : decide (r ≤ 90) = false := by simp; omega
    have u2 : decide (r ≤ 969) = true := by simp; omega
    have u3 : decide (r ≤ 937) = true := by simp; omega
    have u4 : decide (97 ≤ r) = true := by simp; omega
    have u5 : decide (65 ≤ r) = true := by simp; omega
    have u6 : decide (945 ≤ r) = false := by simp; omega
    have u7 : decide (913 ≤ r) = true := by simp; omega
    have u8 : (r == 95) = false := by simp; omega
    have u9 : (r != 930) = true := by simp; omega
    go_enter Tryz.func91, Tryz.ntmps91
    go_wp2
    go_ret
    exact ⟨ret_bool hv.out.symm, rfl⟩
  · have hv := Lib.hid (letter_at r false (by simp; omega))
    have u0 : decide (r ≤ 122) = false := by simp; omega
    have u1 : decide (r ≤ 90) = false := by simp; omega
    have u2 : decide (r ≤ 969) = true := by simp; omega
    have u3 : decide (r ≤ 937) = true := by simp; omega
    have u4 : decide (97 ≤ r) = true := by simp; omega
    have u5 : decide (65 ≤ r) = true := by simp; omega
    have u6 : decide (945 ≤ r) = false := by simp; omega
    have u7 : decide (913 ≤ r) = true := by simp; omega
    have u8 : (r == 95) = false := by simp; omega
    have u9 : (r != 930) = false := by simp; omega
    go_enter Tryz.func91, Tryz.ntmps91
    go_wp2
    go_ret
    exact ⟨ret_bool hv.out.symm, rfl⟩
  · have hv := Lib.hid (letter_at r true (by simp; omega))
    have u0 : decide (r ≤ 122) = false := by simp; omega
    have u1 : decide (r ≤ 90) = false := by simp; omega
    have u2 : decide (r ≤ 969) = true := by simp; omega
    have u3 : decide (r ≤ 937) = true := by simp; omega
    have u4 : decide (97 ≤ r) = true := by simp; omega
    have u5 : decide (65 ≤ r) = true := by simp; omega
    have u6 : decide (945 ≤ r) = false := by simp; omega
    have u7 : decide (913 ≤ r) = true := by simp; omega
    have u8 : (r == 95) = false := by simp; omega
    have u9 : (r != 930) = true := by simp; omega
    go_enter Tryz.func91, Tryz.ntmps91
    go_wp2
    go_ret
    exact ⟨ret_bool hv.out.symm, rfl⟩
  · have hv := Lib.hid (letter_at r false (by simp; omega))
    have u0 : decide (r ≤ 122) = false := by simp; omega
    have u1 : decide (r ≤ 90) = false := by simp; omega
    have u2 : decide (r ≤ 969) = true := by simp; omega
    have u3 : decide (r ≤ 937) = false := by simp; omega
    have u4 : decide (97 ≤ r) = true := by simp; omega
    have u5 : decide (65 ≤ r) = true := by simp; omega
    have u6 : decide (945 ≤ r) = false := by simp; omega
    have u7 : decide (913 ≤ r) = true := by simp; omega
    have u8 : (r == 95) = false := by simp; omega
    have u9 : (r != 930) = true := by simp; omega
    go_enter Tryz.func91, Tryz.ntmps91
    go_wp2
    go_ret
    exact ⟨ret_bool hv.out.symm, rfl⟩
  · have hv := Lib.hid (letter_at r true (by simp; omega))
    have u0 : decide (r ≤ 122) = false := by simp; omega
    have u1 : decide (r ≤ 90) = false := by simp; omega
    have u2 : decide (r ≤ 969) = true := by simp; omega
    have u3 : decide (r ≤ 937) = false := by simp; omega
    have u4 : decide (97 ≤ r) = true := by simp; omega
    have u5 : decide (65 ≤ r) = true := by simp; omega
    have u6 : decide (945 ≤ r) = true := by simp; omega
    have u7 : decide (913 ≤ r) = true := by simp; omega
    have u8 : (r == 95) = false := by simp; omega
    have u9 : (r != 930) = true := by simp; omega
    go_enter Tryz.func91, Tryz.ntmps91
    go_wp2
    go_ret
    exact ⟨ret_bool hv.out.symm, rfl⟩
  · have hv := Lib.hid (letter_at r false (by simp; omega))
    have u0 : decide (r ≤ 122) = false := by simp; omega
    have u1 : decide (r ≤ 90) = false := by simp; omega
    have u2 : decide (r ≤ 969) = false := by simp; omega
    have u3 : decide (r ≤ 937) = false := by simp; omega
    have u4 : decide (97 ≤ r) = true := by simp; omega
    have u5 : decide (65 ≤ r) = true := by simp; omega
    have u6 : decide (945 ≤ r) = true := by simp; omega
    have u7 : decide (913 ≤ r) = true := by simp; omega
    have u8 : (r == 95) = false := by simp; omega
    have u9 : (r != 930) = true := by simp; omega
    go_enter Tryz.func91, Tryz.ntmps91
    go_wp2
    go_ret
    exact ⟨ret_bool hv.out.symm, rfl⟩
set_option maxHeartbeats 400000 in
theorem rdigit_any (r : Int) (w : World) :
    Calls Tryz.prog 92 #[.int .i64 r] w fun e w' => e = .returned (.bool (digitB r)) ∧ w = w' := by
  by_cases h : 48 ≤ r
  · have hv := Lib.hid (show decide (r ≤ 57) = digitB r by unfold digitB inB; rw [decide_eq_true h, Bool.true_and])
    go_enter Tryz.func92, Tryz.ntmps92
    go_wp2
    go_ret
    exact ⟨ret_bool hv.out, rfl⟩
  · have hv := Lib.hid (show false = digitB r by unfold digitB inB; rw [decide_eq_false h, Bool.false_and])
    have h : r < 48 := by omega
    go_enter Tryz.func92, Tryz.ntmps92
    go_wp2
    go_ret
    exact ⟨ret_bool hv.out, rfl⟩
end Go.Proofs.YtdkpnbjkehakjaaGreatDoor

/-! the walks of the reference's Bad, Runes, Name -/
namespace Go.Proofs.YtdkpnbjkehakjaaGreatDoor
open Go.RowKit

/-- where the first byte stands that begins no form; -1: there is none -/
def badI (s : ByteArray) : Int := match (allP s).find? (badB s) with | some p => (p : Int) | none => -1
theorem badI_hit (s : ByteArray) (pre : List Nat) (pos : Nat) (t : List Nat) (e : allP s = pre ++ pos :: t) (hp : ∀ p ∈ pre, badB s p = false) (hb : badB s pos = true) : badI s = (pos : Int) := by
  unfold badI
  rw [e, List.find?_append, List.find?_eq_none.2 (by intro x hx; rw [hp x hx]; simp)]
  simp [hb]
theorem badI_none (s : ByteArray) (pre : List Nat) (e : allP s = pre) (hp : ∀ p ∈ pre, badB s p = false) : badI s = -1 := by
  unfold badI
  rw [e, List.find?_eq_none.2 (by intro x hx; rw [hp x hx]; simp)]

set_option maxHeartbeats 400000 in
theorem rbad_any (s : ByteArray) (w : World) (hs : s.size ≤ 140737488351232) :
    Calls Tryz.prog 87 #[.string s] w fun e w' => e = .returned (.int .i64 (badI s)) ∧ ∃ n, w' = w.drewN n := by
  go_enter Tryz.func87, Tryz.ntmps87
  go_wp2
  go_loopw [3] (fun i wr => ∃ (pre : List Nat) (pos n : Nat), i = .int .i64 pos ∧ wr = w.drewN n ∧ Stand s pre pos ∧ Hid (∀ p ∈ pre, badB s p = false)) (fun i _ => s.size - (intOf i).toNat)
  case atStart => exact ⟨[], 0, 0, rfl, rfl, Stand.start s, Lib.hid (by simp)⟩
  case round =>
    obtain ⟨pre, pos, n, rfl, rfl, hst, hp⟩ := hrel
    have HS := Lib.hid hst
    clear hst
    by_cases hlt : pos < s.size
    · have h4 := wd_le4 s pos
      have h1 := wd_pos s pos
      cases hb : badB s pos
      · have hf := formI_good s pos hlt hb
        have hz : ((wd s pos : Int) == 0) = false := by rw [beq_eq_false_iff_ne]; omega
        have HN := Lib.hid (HS.out.next hlt)
        have HP := Lib.hid (show ∀ p ∈ pre ++ [pos], badB s p = false by
          intro p hm; rcases List.mem_append.1 hm with hm | hm
          · exact hp.out p hm
          · simp at hm; subst hm; exact hb)
        go_wp2_with fail
        refine (form_any s pos _ hs).mono ?_
        rintro e w1 ⟨rfl, m, rfl⟩
        rw [hf]
        go_wp2_with fail
        go_roundw
        case rel => exact ⟨pre ++ [pos], pos + wd s pos, n + m, by go_num, rfl, HN.out, HP⟩
        case measure => simp [intOf]; omega
      · have hf := formI_bad s pos hlt hb
        obtain ⟨t, ht⟩ := HS.out.mem hlt
        have HB := Lib.hid (badI_hit s pre pos t ht hp.out hb)
        clear ht
        go_wp2_with fail
        refine (form_any s pos _ hs).mono ?_
        rintro e w1 ⟨rfl, m, rfl⟩
        rw [hf]
        go_wp2_with fail
        go_ret
        exact ⟨ret_int HB.out.symm, _, rfl⟩
    · have HB := Lib.hid (badI_none s pre (HS.out.stop hlt) hp.out)
      go_wp2_with fail
      go_ret
      exact ⟨ret_int HB.out.symm, _, rfl⟩

set_option maxHeartbeats 400000 in
theorem rrunes_any (s : ByteArray) (w : World) (hs : s.size ≤ 140737488351232) :
    Calls Tryz.prog 88 #[.string s] w fun e w' => e = .returned (.int .i64 ((allP s).length : Int)) ∧ ∃ n, w' = w.drewN n := by
  go_enter Tryz.func88, Tryz.ntmps88
  go_wp2
  go_loopw [3, 4] (fun c i wr => ∃ (pre : List Nat) (pos n : Nat), i = .int .i64 pos ∧ c = .int .i64 pre.length ∧ wr = w.drewN n ∧ Stand s pre pos) (fun _ i _ => s.size - (intOf i).toNat)
  case atStart => exact ⟨[], 0, 0, rfl, rfl, rfl, Stand.start s⟩
  case round =>
    obtain ⟨pre, pos, n, rfl, rfl, rfl, hst⟩ := hrel
    have hl := hst.2.1
    have HS := Lib.hid hst
    clear hst
    by_cases hlt : pos < s.size
    · have h4 := wd_le4 s pos
      have h1 := wd_pos s pos
      have HN := Lib.hid (HS.out.next hlt)
      go_wp2_with fail
      refine (next_any s pos _ hs hlt).mono ?_
      rintro e w1 ⟨rfl, m, rfl⟩
      go_wp2_with fail
      go_roundw
      case rel => exact ⟨pre ++ [pos], pos + wd s pos, n + m, rfl, by rw [List.length_append]; go_num, rfl, HN.out⟩
      case measure => simp [intOf]; omega
    · have HB := Lib.hid (HS.out.stop hlt)
      go_wp2_with fail
      go_ret
      exact ⟨ret_int (by rw [HB.out]), _, rfl⟩

/-- is it a name? -/
def okB (s : ByteArray) (p : Nat) : Bool := letterB (rn s p) || (p != 0 && digitB (rn s p))
def nameB (s : ByteArray) : Bool := decide (0 < (allP s).length) && decide ((allP s).length ≤ 24) && (allP s).all (okB s)

theorem rn_bad (s : ByteArray) (p : Nat) (h : badB s p = true) : okB s p = false := by
  have : rn s p = 65533 := by unfold badB at h; simp at h; exact h.1
  unfold okB; rw [this, show letterB ((65533 : Nat) : Int) = false by decide, show digitB ((65533 : Nat) : Int) = false by decide]; simp
theorem badI_some (s : ByteArray) (h : 0 ≤ badI s) : nameB s = false := by
  unfold badI at h
  cases hf : (allP s).find? (badB s) with
  | none => rw [hf] at h; simp at h
  | some p =>
    have hb := List.find?_some hf
    have hm := List.mem_of_find?_eq_some hf
    unfold nameB
    have : (allP s).all (okB s) = false := by
      rw [List.all_eq_false]; exact ⟨p, hm, by rw [rn_bad s p hb]; simp⟩
    rw [this]; simp
theorem badI_no (s : ByteArray) (h : badI s < 0) : ∀ p ∈ allP s, badB s p = false := by
  intro p hp
  unfold badI at h
  cases hf : (allP s).find? (badB s) with
  | none =>
    have := List.find?_eq_none.1 hf p hp
    simpa using this
  | some q => rw [hf] at h; simp at h; omega
theorem nameB_empty (s : ByteArray) (h : s.size = 0) : nameB s = false := by
  have : allP s = [] := poss_end s _ _ (by omega)
  unfold nameB; rw [this]; rfl
theorem nameB_long (s : ByteArray) (h : 24 < (allP s).length) : nameB s = false := by
  unfold nameB; rw [decide_eq_false (show ¬ (allP s).length ≤ 24 by omega)]; simp
theorem nameB_no (s : ByteArray) (pre t : List Nat) (pos : Nat) (e : allP s = pre ++ pos :: t) (h : okB s pos = false) : nameB s = false := by
  unfold nameB; rw [e, List.all_append]; simp [h]
theorem nameB_yes (s : ByteArray) (pre : List Nat) (e : allP s = pre) (h0 : 0 < pre.length) (h1 : pre.length ≤ 24) (h : ∀ p ∈ pre, okB s p = true) : nameB s = true := by
  unfold nameB; rw [e, decide_eq_true h0, decide_eq_true h1]; simpa using h
theorem allP_pos (s : ByteArray) (h : 0 < s.size) : 0 < (allP s).length := by
  obtain ⟨f, e, e2, _⟩ := poss_step s s.size 0 h (by omega)
  unfold allP; rw [e2]; simp

set_option maxHeartbeats 800000 in
theorem rname_any (s : ByteArray) (w : World) (hs : s.size ≤ 140737488351232) :
    Calls Tryz.prog 67 #[.string s] w fun e w' => e = .returned (.bool (nameB s)) ∧ ∃ n, w' = w.drewN n := by
  by_cases h0 : s.size = 0
  · have HV := Lib.hid (nameB_empty s h0)
    have hz : ((s.size : Int) == 0) = true := by rw [beq_iff_eq]; omega
    clear h0
    go_enter Tryz.func67, Tryz.ntmps67
    go_wp2_with fail
    go_ret
    exact ⟨ret_bool HV.out.symm, 0, rfl⟩
  · have hz : ((s.size : Int) == 0) = false := by rw [beq_eq_false_iff_ne]; omega
    by_cases hb : 0 ≤ badI s
    · have HV := Lib.hid (badI_some s hb)
      go_enter Tryz.func67, Tryz.ntmps67
      go_wp2_with fail
      refine (rbad_any s _ hs).mono ?_
      rintro e w1 ⟨rfl, m, rfl⟩
      go_wp2_with fail
      go_ret
      exact ⟨ret_bool HV.out.symm, m, rfl⟩
    · have hb : badI s < 0 := by omega
      by_cases hl : 24 < (allP s).length
      · have HV := Lib.hid (nameB_long s hl)
        have hl' : (24 : Int) < ((allP s).length : Int) := by omega
        go_enter Tryz.func67, Tryz.ntmps67
        go_wp2_with fail
        refine (rbad_any s _ hs).mono ?_
        rintro e w1 ⟨rfl, m, rfl⟩
        go_wp2_with fail
        refine (rrunes_any s _ hs).mono ?_
        rintro e w2 ⟨rfl, m2, rfl⟩
        go_wp2_with fail
        go_ret
        exact ⟨ret_bool HV.out.symm, _, rfl⟩
      · have hl' : ((allP s).length : Int) ≤ 24 := by omega
        have HP := Lib.hid (allP_pos s (by omega))
        have HB := Lib.hid (badI_no s hb)
        go_enter Tryz.func67, Tryz.ntmps67
        go_wp2_with fail
        refine (rbad_any s _ hs).mono ?_
        rintro e w1 ⟨rfl, m, rfl⟩
        go_wp2_with fail
        refine (rrunes_any s _ hs).mono ?_
        rintro e w2 ⟨rfl, m2, rfl⟩
        go_wp2_with fail
        go_loopw [3] (fun i wr => ∃ (pre : List Nat) (pos n : Nat), i = .int .i64 pos ∧ wr = w.drewN n ∧ Stand s pre pos ∧ Hid (∀ p ∈ pre, okB s p = true)) (fun i _ => s.size - (intOf i).toNat)
        case atStart => exact ⟨[], 0, m + m2, rfl, rfl, Stand.start s, Lib.hid (by simp)⟩
        case round =>
          obtain ⟨pre, pos, n, rfl, rfl, hst, hp⟩ := hrel
          have HS := Lib.hid hst
          clear hst
          by_cases hlt : pos < s.size
          · have h4 := wd_le4 s pos
            have h1 := wd_pos s pos
            obtain ⟨t, ht⟩ := HS.out.mem hlt
            have hbad : badB s pos = false := HB.out pos (by rw [ht]; simp)
            have hf := formI_good s pos hlt hbad
            have HN := Lib.hid (HS.out.next hlt)
            have HT := Lib.hid ht
            clear ht hbad
            have HNO := Lib.hid (fun h => nameB_no s pre t pos HT.out h)
            have HP2 := Lib.hid (show okB s pos = true → ∀ p ∈ pre ++ [pos], okB s p = true by
              intro ho p hm; rcases List.mem_append.1 hm with hm | hm
              · exact hp.out p hm
              · simp at hm; subst hm; exact ho)
            cases hl : letterB (rn s pos)
            · by_cases hz0 : pos = 0
              · have HV := Lib.hid (HNO.out (by unfold okB; rw [hl, hz0]; simp))
                have hp0 : ((pos : Int) == 0) = true := by rw [beq_iff_eq]; omega
                clear hz0
                go_wp2_with fail
                refine (form_any s _ _ hs).mono ?_
                rintro e w1 ⟨rfl, m3, rfl⟩
                rw [hf]
                go_wp2_with (first | (go_at_call 91; refine (rletter_any _ _).mono ?_; rintro e w' ⟨rfl, rfl⟩) | (go_at_call 92; refine (rdigit_any _ _).mono ?_; rintro e w' ⟨rfl, rfl⟩))
                go_ret
                exact ⟨ret_bool HV.out.symm, _, rfl⟩
              · have hp0 : ((pos : Int) == 0) = false := by rw [beq_eq_false_iff_ne]; omega
                cases hd : digitB (rn s pos)
                · have HV := Lib.hid (HNO.out (by unfold okB; rw [hl, hd]; simp))
                  go_wp2_with fail
                  refine (form_any s _ _ hs).mono ?_
                  rintro e w1 ⟨rfl, m3, rfl⟩
                  rw [hf]
                  go_wp2_with (first | (go_at_call 91; refine (rletter_any _ _).mono ?_; rintro e w' ⟨rfl, rfl⟩) | (go_at_call 92; refine (rdigit_any _ _).mono ?_; rintro e w' ⟨rfl, rfl⟩))
                  go_ret
                  exact ⟨ret_bool HV.out.symm, _, rfl⟩
                · have HO := Lib.hid (HP2.out (by unfold okB; rw [hd]; simp [hz0]))
                  go_wp2_with fail
                  refine (form_any s _ _ hs).mono ?_
                  rintro e w1 ⟨rfl, m3, rfl⟩
                  rw [hf]
                  go_wp2_with (first | (go_at_call 91; refine (rletter_any _ _).mono ?_; rintro e w' ⟨rfl, rfl⟩) | (go_at_call 92; refine (rdigit_any _ _).mono ?_; rintro e w' ⟨rfl, rfl⟩) | (go_at_call 89; refine (next_any s pos _ hs hlt).mono ?_; rintro e w' ⟨rfl, m4, rfl⟩))
                  go_roundw
                  case rel => exact ⟨pre ++ [pos], pos + wd s pos, _, rfl, rfl, HN.out, HO⟩
                  case measure => simp [intOf]; omega
            · have HO := Lib.hid (HP2.out (by unfold okB; rw [hl]; simp))
              go_wp2_with fail
              refine (form_any s _ _ hs).mono ?_
              rintro e w1 ⟨rfl, m3, rfl⟩
              rw [hf]
              go_wp2_with (first | (go_at_call 91; refine (rletter_any _ _).mono ?_; rintro e w' ⟨rfl, rfl⟩) | (go_at_call 92; refine (rdigit_any _ _).mono ?_; rintro e w' ⟨rfl, rfl⟩) | (go_at_call 89; refine (next_any s pos _ hs hlt).mono ?_; rintro e w' ⟨rfl, m4, rfl⟩))
              go_roundw
              case rel => exact ⟨pre ++ [pos], pos + wd s pos, _, rfl, rfl, HN.out, HO⟩
              case measure => simp [intOf]; omega
          · have he := HS.out.stop hlt
            have HV := Lib.hid (nameB_yes s pre he (by rw [← he]; exact HP.out) (by rw [← he]; omega) hp.out)
            clear he
            go_wp2_with fail
            go_ret
            exact ⟨ret_bool HV.out.symm, _, rfl⟩
end Go.Proofs.YtdkpnbjkehakjaaGreatDoor

/-! plain: lines and columns -/
namespace Go.Proofs.YtdkpnbjkehakjaaGreatDoor
open Go.RowKit

set_option maxRecDepth 100000 in
set_option maxHeartbeats 2000000 in
theorem decode_facts (n c b1 b2 b3 : Nat) : ((Lib.decodeN n c b1 b2 b3).1 = 10 ↔ c = 10) ∧ (c = 10 → (Lib.decodeN n c b1 b2 b3).2 = 1) ∧ (2 ≤ (Lib.decodeN n c b1 b2 b3).2 → 128 ≤ b1) ∧
    (3 ≤ (Lib.decodeN n c b1 b2 b3).2 → 128 ≤ b2) ∧ (4 ≤ (Lib.decodeN n c b1 b2 b3).2 → 128 ≤ b3) := by
  unfold Lib.decodeN
  repeat' split
  all_goals (refine ⟨⟨fun h => ?_, fun h => ?_⟩, fun h => ?_, fun h => ?_, fun h => ?_, fun h => ?_⟩ <;> first | omega | (dsimp only at *; omega) | (exfalso; dsimp only at *; omega))
theorem rn_ten (s : ByteArray) (k : Nat) : rn s k = 10 ↔ byteAt s k = 10 := by
  have h := (decode_facts (s.size - k) (s.get! k).toNat (s.get! (k + 1)).toNat (s.get! (k + 2)).toNat (s.get! (k + 3)).toNat).1
  rw [← Lib.decode_at] at h
  unfold rn byteAt; exact ⟨fun e => by have := h.1 e; omega, fun e => h.2 (by omega)⟩
theorem wd_ten (s : ByteArray) (k : Nat) (h : byteAt s k = 10) : wd s k = 1 := by
  have h2 := (decode_facts (s.size - k) (s.get! k).toNat (s.get! (k + 1)).toNat (s.get! (k + 2)).toNat (s.get! (k + 3)).toNat).2.1
  rw [← Lib.decode_at] at h2
  unfold byteAt at h; exact h2 (by omega)
theorem inner_ten (s : ByteArray) (k j : Nat) (h1 : k < j) (h2 : j < k + wd s k) : byteAt s j ≠ 10 := by
  have h := decode_facts (s.size - k) (s.get! k).toNat (s.get! (k + 1)).toNat (s.get! (k + 2)).toNat (s.get! (k + 3)).toNat
  rw [← Lib.decode_at] at h
  have h4 := wd_le4 s k
  obtain ⟨_, _, a, b, c⟩ := h
  unfold wd at h2 h4
  unfold byteAt
  rcases (show j = k + 1 ∨ j = k + 2 ∨ j = k + 3 by omega) with rfl | rfl | rfl
  · have := a (by omega); omega
  · have := b (by omega); omega
  · have := c (by omega); omega

/-- how many bytes 10 there are below k; where the line of k begins -/
def nl (s : ByteArray) : Nat → Nat
  | 0 => 0
  | k + 1 => nl s k + if byteAt s k = 10 then 1 else 0
def nlast (s : ByteArray) : Nat → Nat
  | 0 => 0
  | k + 1 => if byteAt s k = 10 then k + 1 else nlast s k
theorem nl_le (s : ByteArray) (k : Nat) : nl s k ≤ k := by
  induction k with
  | zero => exact Nat.le_refl _
  | succ k ih => simp only [nl]; split <;> omega
theorem nlast_le (s : ByteArray) (k : Nat) : nlast s k ≤ k := by
  induction k with
  | zero => exact Nat.le_refl _
  | succ k ih => simp only [nlast]; split <;> omega
theorem nl_skip (s : ByteArray) (a b : Nat) (h : a ≤ b) (hn : ∀ j, a ≤ j → j < b → byteAt s j ≠ 10) : nl s b = nl s a ∧ nlast s b = nlast s a := by
  obtain ⟨d, rfl⟩ : ∃ d, b = a + d := ⟨b - a, by omega⟩
  clear h
  induction d with
  | zero => exact ⟨rfl, rfl⟩
  | succ d ih =>
    have ih := ih (fun j h1 h2 => hn j h1 (by omega))
    have h := hn (a + d) (by omega) (by omega)
    rw [show a + (d + 1) = (a + d) + 1 from rfl]
    simp only [nl, nlast, if_neg h, Nat.add_zero]
    exact ih
theorem nl_yes (s : ByteArray) (pos : Nat) (h : rn s pos = 10) : nl s (pos + wd s pos) = nl s pos + 1 ∧ nlast s (pos + wd s pos) = pos + wd s pos := by
  have hb := (rn_ten s pos).1 h
  rw [wd_ten s pos hb]
  simp [nl, nlast, hb]
theorem nl_no (s : ByteArray) (pos : Nat) (h : rn s pos ≠ 10) : nl s (pos + wd s pos) = nl s pos ∧ nlast s (pos + wd s pos) = nlast s pos := by
  have hb : byteAt s pos ≠ 10 := fun e => h ((rn_ten s pos).2 e)
  refine nl_skip s pos (pos + wd s pos) (by omega) (fun j h1 h2 => ?_)
  by_cases e : j = pos
  · rw [e]; exact hb
  · exact inner_ten s pos j (by omega) h2

/-- the runes that begin below at -/
def below (s : ByteArray) (at' : Nat) : List Nat := (allP s).takeWhile (fun p => decide (p < at'))
theorem Stand.below {s : ByteArray} {pre : List Nat} {pos at' : Nat} (h : Stand s pre pos) (hp : ∀ p ∈ pre, p < at') (hge : at' ≤ pos) : below s at' = pre := by
  obtain ⟨⟨fuel, _, e⟩, _⟩ := h
  unfold Proofs.YtdkpnbjkehakjaaGreatDoor.below
  rw [e, List.takeWhile_append_of_pos (by intro p hm; simp [hp p hm])]
  have : (poss s fuel pos).takeWhile (fun p => decide (p < at')) = [] := by
    cases fuel with
    | zero => rfl
    | succ f =>
      simp only [poss]; split
      · rw [List.takeWhile_cons_of_neg (by simp; omega)]
      · rfl
  rw [this, List.append_nil]
def lineI (s : ByteArray) (at' : Nat) : Int := 1 + (nl s at' : Int)
def colI (s : ByteArray) (at' : Nat) : Int := 1 + (((below s at').length - qOf s (nlast s at') : Nat) : Int)

/-- the line of each place begins where a rune begins -/
theorem stand_near (s : ByteArray) (k : Nat) (hk : k ≤ s.size) : ∃ pre pos, Stand s pre pos ∧ k ≤ pos ∧ (∀ j, k ≤ j → j < pos → byteAt s j ≠ 10) ∧ ∃ pre0, Stand s pre0 (nlast s pos) := by
  induction k with
  | zero => exact ⟨[], 0, Stand.start s, Nat.le_refl _, fun j _ h => absurd h (by omega), [], Stand.start s⟩
  | succ k ih =>
    obtain ⟨pre, pos, hst, hle, hn, pre0, h0⟩ := ih (by omega)
    by_cases h : k + 1 ≤ pos
    · exact ⟨pre, pos, hst, h, fun j h1 h2 => hn j (by omega) h2, pre0, h0⟩
    · obtain rfl : pos = k := by omega
      have hw := wd_pos s pos
      have hnx := hst.next (by omega)
      refine ⟨pre ++ [pos], pos + wd s pos, hnx, by omega, fun j h1 h2 => inner_ten s pos j (by omega) h2, ?_⟩
      by_cases hr : rn s pos = 10
      · rw [(nl_yes s pos hr).2]; exact ⟨_, hnx⟩
      · rw [(nl_no s pos hr).2]; exact ⟨_, h0⟩
theorem stand_line (s : ByteArray) (k : Nat) (hk : k ≤ s.size) : ∃ pre0, Stand s pre0 (nlast s k) := by
  obtain ⟨pre, pos, _, hle, hn, pre0, h0⟩ := stand_near s k hk
  rw [(nl_skip s k pos hle hn).2] at h0
  exact ⟨pre0, h0⟩
end Go.Proofs.YtdkpnbjkehakjaaGreatDoor

/-! the walks of text.Name, text.Runes, text.Place: ranges over a string -/
namespace Go.Proofs.YtdkpnbjkehakjaaGreatDoor
open Go.RowKit

/-- one step of a range over a string, the iterator in block B -/
theorem range_step {P : Program} (wr : World) (B : Nat) (s : ByteArray) (pos : Nat) (ty : TypeId) (hit : wr.heap[B]? = some (.stringIter s pos)) (h : pos < s.size) :
    ∃ W1, (Instr.next (.pointer (some ⟨B, 0, none⟩)) true ty).run P wr = .ok (.tuple #[.bool true, .int .i64 pos, .int .i32 (rn s pos)]) W1 ∧ W1.heap[B]? = some (.stringIter s (pos + wd s pos)) ∧ Below B wr W1 ∧ W1.heap.size = wr.heap.size :=
  ⟨_, Lib.run_next_any_at wr B s pos ty hit h, Lib.iterAt_heap wr B s pos _ hit, Lib.below_iterAt (Below.refl _ _) (Nat.le_refl _) _ _, Lib.iterAt_size _ _ _ _⟩
theorem iterPos_at {w : World} {B : Nat} {s : ByteArray} {pos : Nat} (h : w.heap[B]? = some (.stringIter s pos)) : w.iterPos B = pos := by
  simp [World.iterPos, h]
theorem iter_start (w : World) (s : ByteArray) : (w.iter s 0).heap[w.heap.size]? = some (.stringIter s 0) ∧ Below w.heap.size w (w.iter s 0) := ⟨World.iter_heap w s 0, (Below.refl _ w).alloc (Nat.le_refl _) _⟩
/-- the iterator stands while a call makes memory alone -/
theorem iter_kept {W W' : World} {B : Nat} {o : Obj} (h : W.heap[B]? = some o) (hb : Below W.heap.size W W') : W'.heap[B]? = some o :=
  (hb.block B (Array.getElem?_eq_some_iff.1 h).1).trans h

/-- what a walk through the runes of a name holds -/
def NameRel (s : ByteArray) (w : World) (c : Value) (wr : World) : Prop :=
  ∃ (pre : List Nat) (pos : Nat), c = .int .i64 pre.length ∧ wr.heap[w.heap.size]? = some (.stringIter s pos) ∧ Below w.heap.size w wr ∧ Stand s pre pos ∧ pre.length ≤ 24 ∧ ∀ p ∈ pre, okB s p = true

set_option maxHeartbeats 800000 in
theorem name_any (s : ByteArray) (w : World) (hs : s.size ≤ 562949953421312) :
    Calls Tryz.prog 61 #[.string s] w fun e w' => e = .returned (.bool (nameB s)) ∧ Below w.heap.size w w' := by
  have h0 := iter_start w s
  go_enter Tryz.func61, Tryz.ntmps61
  go_wp2_with fail
  go_loopw [3] (fun c wr => NameRel s w c wr) (fun _ wr => s.size - wr.iterPos w.heap.size)
  case atStart => exact ⟨[], 0, rfl, h0.1, h0.2, Stand.start s, by simp, by simp⟩
  case round =>
    clear h0
    obtain ⟨pre, pos, rfl, hit, hB, hst, hl, hok⟩ := hrel
    have HS := Lib.hid hst
    have HO := Lib.hid hok
    have hpp := hst.2.2.1
    clear hst hok
    by_cases hlt : pos < s.size
    · obtain ⟨W1, hnx, hit1, hb1, hz1⟩ := range_step (P := Tryz.prog) wr w.heap.size s pos 0 hit hlt
      have hB1 : Below w.heap.size w W1 := hB.trans hb1
      have hmeas := Lib.hid (iterPos_at hit)
      obtain ⟨t, ht⟩ := HS.out.mem hlt
      have HN := Lib.hid (HS.out.next hlt)
      have HT := Lib.hid ht
      clear ht hit hb1 hz1
      have HNO := Lib.hid (fun h => nameB_no s pre t pos HT.out h)
      have HP2 := Lib.hid (show okB s pos = true → ∀ p ∈ pre ++ [pos], okB s p = true by
        intro ho p hm; rcases List.mem_append.1 hm with hm | hm
        · exact HO.out p hm
        · simp at hm; subst hm; exact ho)
      have HL := Lib.hid (show 24 ≤ pre.length → nameB s = false by
        intro h; apply nameB_long; rw [HT.out]; simp; omega)
      cases hl1 : letterB (rn s pos)
      · by_cases hz0 : pos = 0
        · have HV := Lib.hid (HNO.out (by unfold okB; rw [hl1, hz0]; simp))
          have hp0 : ((pre.length : Int) == 0) = true := by rw [beq_iff_eq, hpp.2 hz0]; rfl
          clear hz0 hpp
          go_wp2_with fail
          refine (letter_any _ _).mono ?_
          rintro e w2 ⟨rfl, hb2⟩
          rw [hl1]
          go_wp2_with fail
          go_ret
          exact ⟨ret_bool HV.out.symm, hB1.trans (hb2.mono hB1.size)⟩
        · have hp0 : ((pre.length : Int) == 0) = false := by
            rw [beq_eq_false_iff_ne]; intro h; exact hz0 (hpp.1 (List.length_eq_zero_iff.1 (by omega)))
          clear hpp
          cases hd : digitB (rn s pos)
          · have HV := Lib.hid (HNO.out (by unfold okB; rw [hl1, hd]; simp))
            clear hz0
            go_wp2_with fail
            refine (letter_any _ _).mono ?_
            rintro e w2 ⟨rfl, hb2⟩
            rw [hl1]
            go_wp2_with fail
            refine (digit_any _ _).mono ?_
            rintro e w3 ⟨rfl, hb3⟩
            rw [hd]
            go_wp2_with fail
            go_ret
            exact ⟨ret_bool HV.out.symm, (hB1.trans (hb2.mono hB1.size)).trans (hb3.mono (Nat.le_trans hB1.size hb2.size))⟩
          · have HK := Lib.hid (HP2.out (by unfold okB; rw [hd]; simp [hz0]))
            clear hz0
            by_cases h24 : pre.length < 24
            · go_wp2_with fail
              refine (letter_any _ _).mono ?_
              rintro e w2 ⟨rfl, hb2⟩
              rw [hl1]
              have hit2 := iter_kept hit1 hb2
              have hB2 := hB1.trans (hb2.mono hB1.size)
              clear hit1 hB1 hb2
              go_wp2_with fail
              refine (digit_any _ _).mono ?_
              rintro e w3 ⟨rfl, hb3⟩
              rw [hd]
              have hit3 := iter_kept hit2 hb3
              have hB3 := hB2.trans (hb3.mono hB2.size)
              clear hit2 hB2 hb3
              go_wp2_with fail
              go_roundw
              case rel => exact ⟨pre ++ [pos], pos + wd s pos, by rw [List.length_append]; go_num, hit3, hB3, HN.out, by simp; omega, HK.out⟩
              case measure => rw [iterPos_at hit3, hmeas.out]; have := wd_pos s pos; omega
            · have HV := Lib.hid (HL.out (by omega))
              have h25 : (24 : Int) < (pre.length : Int) + 1 := by omega
              go_wp2_with fail
              refine (letter_any _ _).mono ?_
              rintro e w2 ⟨rfl, hb2⟩
              rw [hl1]
              go_wp2_with fail
              refine (digit_any _ _).mono ?_
              rintro e w3 ⟨rfl, hb3⟩
              rw [hd]
              go_wp2_with fail
              go_ret
              exact ⟨ret_bool HV.out.symm, (hB1.trans (hb2.mono hB1.size)).trans (hb3.mono (Nat.le_trans hB1.size hb2.size))⟩
      · have HK := Lib.hid (HP2.out (by unfold okB; rw [hl1]; simp))
        clear hpp
        by_cases h24 : pre.length < 24
        · go_wp2_with fail
          refine (letter_any _ _).mono ?_
          rintro e w2 ⟨rfl, hb2⟩
          rw [hl1]
          have hit2 := iter_kept hit1 hb2
          have hB2 := hB1.trans (hb2.mono hB1.size)
          clear hit1 hB1 hb2
          go_wp2_with fail
          go_roundw
          case rel => exact ⟨pre ++ [pos], pos + wd s pos, by rw [List.length_append]; go_num, hit2, hB2, HN.out, by simp; omega, HK.out⟩
          case measure => rw [iterPos_at hit2, hmeas.out]; have := wd_pos s pos; omega
        · have HV := Lib.hid (HL.out (by omega))
          have h25 : (24 : Int) < (pre.length : Int) + 1 := by omega
          go_wp2_with fail
          refine (letter_any _ _).mono ?_
          rintro e w2 ⟨rfl, hb2⟩
          rw [hl1]
          go_wp2_with fail
          go_ret
          exact ⟨ret_bool HV.out.symm, hB1.trans (hb2.mono hB1.size)⟩
    · have hnx := Lib.run_next_end_at (P := Tryz.prog) wr w.heap.size s pos 0 hit hlt
      have he := HS.out.stop hlt
      have HV : Hid (decide (0 < (pre.length : Int)) = nameB s) := by
        by_cases hp : 0 < pre.length
        · rw [nameB_yes s pre he hp hl HO.out]; exact Lib.hid (by simp; omega)
        · have : pre = [] := List.length_eq_zero_iff.1 (by omega)
          have hz : s.size = 0 := by have := hpp.1 this; omega
          rw [nameB_empty s hz]; exact Lib.hid (by simp; omega)
      clear he hpp
      go_wp2_with fail
      go_ret
      exact ⟨ret_bool (by have := HV.out; simpa using this), hB⟩
end Go.Proofs.YtdkpnbjkehakjaaGreatDoor
