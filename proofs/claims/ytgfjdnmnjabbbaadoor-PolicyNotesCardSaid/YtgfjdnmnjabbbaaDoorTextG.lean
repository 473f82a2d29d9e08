import Derived.Lib.DecodeN
import Derived.Test.YtgfjdnmnjabbbaaDoorBase
import Derived.Lib.TrimU
import Derived.Deep.QuietTactic
import Derived.BigQuiet
import Derived.Lib.OthersKept
/-! plain: the forms of runes, by a form's first byte -/
namespace Go.Proofs.YtgfjdnmnjabbbaaDoor.TM
set_option linter.unusedVariables false
open Go.Lib

def fN (n c b1 b2 b3 : Nat) : Nat × Nat := if decodeN n c b1 b2 b3 = (65533, 1) then (0, 0) else decodeN n c b1 b2 b3
theorem fN_yes (n c b1 b2 b3 v k : Nat) (h : decodeN n c b1 b2 b3 = (v, k)) (hk : k ≠ 1 ∨ v ≠ 65533) : fN n c b1 b2 b3 = (v, k) := by
  unfold fN; rw [h, if_neg]; intro e; cases e; omega
theorem fN_no (n c b1 b2 b3 : Nat) (h : decodeN n c b1 b2 b3 = (65533, 1)) : fN n c b1 b2 b3 = (0, 0) := by unfold fN; rw [h, if_pos rfl]

theorem fN_1 (n c b1 b2 b3 : Nat) (h : c < 128) : fN n c b1 b2 b3 = (c, 1) := by
  apply fN_yes
  · unfold decodeN; rw [if_pos h]
  · omega
set_option maxRecDepth 100000 in
set_option maxHeartbeats 2000000 in
theorem fN_0 (n c b1 b2 b3 : Nat) (h : 128 ≤ c ∧ c < 194 ∨ 245 ≤ c ∧ c < 256) : fN n c b1 b2 b3 = (0, 0) := by
  apply fN_no; unfold decodeN
  repeat' split
  all_goals first | (exfalso; omega) | rfl
set_option maxRecDepth 100000 in
set_option maxHeartbeats 2000000 in
theorem fN_2 (n c b1 b2 b3 : Nat) (h : 194 ≤ c ∧ c ≤ 223) (h1 : 1 < n ∧ 128 ≤ b1 ∧ b1 ≤ 191) : fN n c b1 b2 b3 = (c % 32 * 64 + b1 % 64, 2) := by
  apply fN_yes
  · unfold decodeN
    repeat' split
    all_goals first | (exfalso; omega) | rfl
  · omega
set_option maxRecDepth 100000 in
set_option maxHeartbeats 2000000 in
theorem fN_2n (n c b1 b2 b3 : Nat) (h : 194 ≤ c ∧ c ≤ 223) (h1 : ¬ (1 < n ∧ 128 ≤ b1 ∧ b1 ≤ 191)) (hb : b1 < 256) : fN n c b1 b2 b3 = (0, 0) := by
  apply fN_no; unfold decodeN
  repeat' split
  all_goals first | (exfalso; omega) | rfl
set_option maxRecDepth 100000 in
set_option maxHeartbeats 2000000 in
theorem fN_3 (n c b1 b2 b3 : Nat) (h : 224 ≤ c ∧ c ≤ 239) (h1 : 1 < n ∧ 128 ≤ b1 ∧ b1 ≤ 191) (he : c = 224 → 160 ≤ b1) (hd : c = 237 → b1 ≤ 159) (h2 : 2 < n ∧ 128 ≤ b2 ∧ b2 ≤ 191) :
    fN n c b1 b2 b3 = (c % 16 * 4096 + b1 % 64 * 64 + b2 % 64, 3) := by
  apply fN_yes
  · unfold decodeN
    repeat' split
    all_goals first | (exfalso; omega) | rfl
  · omega
set_option maxRecDepth 100000 in
set_option maxHeartbeats 2000000 in
theorem fN_3n (n c b1 b2 b3 : Nat) (h : 224 ≤ c ∧ c ≤ 239) (hn : ¬ (1 < n ∧ 128 ≤ b1 ∧ b1 ≤ 191) ∨ (c = 224 ∧ b1 < 160) ∨ (c = 237 ∧ 159 < b1) ∨ ¬ (2 < n ∧ 128 ≤ b2 ∧ b2 ≤ 191)) (hb1 : b1 < 256) (hb2 : b2 < 256) :
    fN n c b1 b2 b3 = (0, 0) := by
  apply fN_no; unfold decodeN
  repeat' split
  all_goals first | (exfalso; omega) | rfl
set_option maxRecDepth 100000 in
set_option maxHeartbeats 4000000 in
theorem fN_4 (n c b1 b2 b3 : Nat) (h : 240 ≤ c ∧ c ≤ 244) (h1 : 1 < n ∧ 128 ≤ b1 ∧ b1 ≤ 191) (he : c = 240 → 144 ≤ b1) (hd : c = 244 → b1 ≤ 143) (h2 : 2 < n ∧ 128 ≤ b2 ∧ b2 ≤ 191) (h3 : 3 < n ∧ 128 ≤ b3 ∧ b3 ≤ 191) :
    fN n c b1 b2 b3 = (c % 8 * 262144 + b1 % 64 * 4096 + b2 % 64 * 64 + b3 % 64, 4) := by
  apply fN_yes
  · unfold decodeN
    repeat' split
    all_goals first | (exfalso; omega) | rfl
  · omega
set_option maxRecDepth 100000 in
set_option maxHeartbeats 4000000 in
theorem fN_4n (n c b1 b2 b3 : Nat) (h : 240 ≤ c ∧ c ≤ 244)
    (hn : ¬ (1 < n ∧ 128 ≤ b1 ∧ b1 ≤ 191) ∨ (c = 240 ∧ b1 < 144) ∨ (c = 244 ∧ 143 < b1) ∨ ¬ (2 < n ∧ 128 ≤ b2 ∧ b2 ≤ 191) ∨ ¬ (3 < n ∧ 128 ≤ b3 ∧ b3 ≤ 191)) (hb1 : b1 < 256) (hb2 : b2 < 256) (hb3 : b3 < 256) :
    fN n c b1 b2 b3 = (0, 0) := by
  apply fN_no; unfold decodeN
  repeat' split
  all_goals first | (exfalso; omega) | rfl
end Go.Proofs.YtgfjdnmnjabbbaaDoor.TM

/-! the reference's forms of runes -/
namespace Go.Proofs.YtgfjdnmnjabbbaaDoor
open Go.RowKit

def byteAt (s : ByteArray) (i : Nat) : Int := ((s.get! i).toNat : Int)
def moreB (s : ByteArray) (i : Int) (l m : Int) : Bool := decide (i < s.size) && (decide (l ≤ byteAt s i.toNat) && decide (byteAt s i.toNat ≤ m))
theorem byteAt_get (s : ByteArray) (i : Nat) (h : i < s.size) : ((s[i]'h).toNat : Int) = byteAt s i := by
  unfold byteAt
  rw [show s.get! i = s[i]'h by simp [ByteArray.get!, getElem!_pos, h]; rfl]
theorem byteAt_bd (s : ByteArray) (i : Nat) : 0 ≤ byteAt s i ∧ byteAt s i ≤ 255 := by
  unfold byteAt; have := (s.get! i).toNat_lt; omega

/-- the form that begins at i: its rune, its length; 0, 0: none -/
def formI (s : ByteArray) (i : Int) : Int × Int :=
  if 0 ≤ i ∧ i < s.size then (((TM.fN (s.size - i.toNat) (s.get! i.toNat).toNat (s.get! (i.toNat + 1)).toNat (s.get! (i.toNat + 2)).toNat (s.get! (i.toNat + 3)).toNat).1 : Int),
    ((TM.fN (s.size - i.toNat) (s.get! i.toNat).toNat (s.get! (i.toNat + 1)).toNat (s.get! (i.toNat + 2)).toNat (s.get! (i.toNat + 3)).toNat).2 : Int)) else (0, 0)
theorem formI_out (s : ByteArray) (i : Int) (h : ¬ (0 ≤ i ∧ i < s.size)) : formI s i = (0, 0) := by unfold formI; rw [if_neg h]
theorem formI_in (s : ByteArray) (k : Nat) (h : k < s.size) (v j : Nat)
    (e : TM.fN (s.size - k) (s.get! k).toNat (s.get! (k + 1)).toNat (s.get! (k + 2)).toNat (s.get! (k + 3)).toNat = (v, j)) : formI s k = ((v : Int), (j : Int)) := by
  unfold formI; rw [if_pos (by omega), Int.toNat_natCast, e]
theorem more_yes (s : ByteArray) (k j : Nat) (l m : Int) (h : moreB s ((k : Int) + j) l m = true) : j < s.size - k ∧ l ≤ byteAt s (k + j) ∧ byteAt s (k + j) ≤ m := by
  unfold moreB at h
  simp only [Bool.and_eq_true, decide_eq_true_eq] at h
  rw [show ((k : Int) + j).toNat = k + j by omega] at h
  exact ⟨by omega, h.2.1, h.2.2⟩
theorem more_no (s : ByteArray) (k j : Nat) (l m : Int) (h : moreB s ((k : Int) + j) l m = false) : ¬ (j < s.size - k ∧ l ≤ byteAt s (k + j) ∧ byteAt s (k + j) ≤ m) := by
  intro ⟨h1, h2, h3⟩
  unfold moreB at h
  rw [show ((k : Int) + j).toNat = k + j by omega, decide_eq_true (show (k : Int) + j < s.size by omega), decide_eq_true h2, decide_eq_true h3] at h
  cases h
theorem ret_form {s : ByteArray} {i a b : Int} (h : formI s i = (a, b)) : Ending.returned (.tuple #[.int .i64 a, .int .i64 b]) = .returned (.tuple #[.int .i64 (formI s i).1, .int .i64 (formI s i).2]) := by rw [h]
theorem and63 (b : Int) (h0 : 0 ≤ b) (h1 : b ≤ 255) : bits .and .u8 b 63 = b % 64 := by
  rw [u8_and b 63 h0 (by omega) (by omega) (by omega), show (63 : Int).toNat = 63 from rfl, nat_mask6]; omega
theorem and15 (b : Int) (h0 : 0 ≤ b) (h1 : b ≤ 255) : bits .and .u8 b 15 = b % 16 := by
  rw [u8_and b 15 h0 (by omega) (by omega) (by omega), show (15 : Int).toNat = 15 from rfl, nat_mask4]; omega
theorem and31 (b : Int) (h0 : 0 ≤ b) (h1 : b ≤ 255) : bits .and .u8 b 31 = b % 32 := by
  rw [u8_and b 31 h0 (by omega) (by omega) (by omega), show (31 : Int).toNat = 31 from rfl, nat_mask5]; omega
theorem and7 (b : Int) (h0 : 0 ≤ b) (h1 : b ≤ 255) : bits .and .u8 b 7 = b % 8 := by
  rw [u8_and b 7 h0 (by omega) (by omega) (by omega), show (7 : Int).toNat = 7 from rfl, nat_mask3]; omega

end Go.Proofs.YtgfjdnmnjabbbaaDoor

/-! plain: where the runes of a string begin -/
namespace Go.Proofs.YtgfjdnmnjabbbaaDoor
open Go.RowKit

def wd (s : ByteArray) (k : Nat) : Nat := (Utf8.decode s k).2
def rn (s : ByteArray) (k : Nat) : Nat := (Utf8.decode s k).1
def badB (s : ByteArray) (k : Nat) : Bool := decide (rn s k = 65533) && decide (wd s k = 1)
theorem wd_pos (s : ByteArray) (k : Nat) : 1 ≤ wd s k := Lib.width_pos s k
theorem rn_le (s : ByteArray) (k : Nat) : rn s k ≤ 1114111 := Lib.rune_le s k
theorem wd_le4 (s : ByteArray) (k : Nat) : wd s k ≤ 4 := by
  unfold wd; rw [Lib.decode_at]; unfold Lib.decodeN
  repeat' split
  all_goals (simp only; omega)

theorem formI_bad (s : ByteArray) (k : Nat) (h : k < s.size) (hb : badB s k = true) : formI s k = (0, 0) := by
  unfold badB rn wd at hb
  simp only [Bool.and_eq_true, decide_eq_true_eq] at hb
  refine formI_in s k h 0 0 (TM.fN_no _ _ _ _ _ ?_)
  rw [← Lib.decode_at]; exact Prod.ext hb.1 hb.2
theorem formI_good (s : ByteArray) (k : Nat) (h : k < s.size) (hb : badB s k = false) : formI s k = ((rn s k : Int), (wd s k : Int)) := by
  refine formI_in s k h (rn s k) (wd s k) ?_
  unfold TM.fN
  rw [← Lib.decode_at, if_neg]
  · rfl
  · intro e
    unfold badB rn wd at hb
    rw [e] at hb
    simp at hb

/-- the places where runes begin, from pos on -/
def poss (s : ByteArray) : Nat → Nat → List Nat
  | 0, _ => []
  | fuel + 1, pos => if pos < s.size then pos :: poss s fuel (pos + wd s pos) else []
def allP (s : ByteArray) : List Nat := poss s s.size 0

theorem poss_end (s : ByteArray) (fuel pos : Nat) (h : ¬ pos < s.size) : poss s fuel pos = [] := by cases fuel <;> simp [poss, h]
theorem poss_step (s : ByteArray) (fuel pos : Nat) (h : pos < s.size) (hf : s.size ≤ pos + fuel) : ∃ f', fuel = f' + 1 ∧ poss s fuel pos = pos :: poss s f' (pos + wd s pos) ∧ s.size ≤ pos + wd s pos + f' := by
  cases fuel with
  | zero => omega
  | succ f => exact ⟨f, rfl, by simp [poss, h], by have := wd_pos s pos; omega⟩

/-- a walk through the runes stands at pos; pre are those gone over -/
def Stand (s : ByteArray) (pre : List Nat) (pos : Nat) : Prop := (∃ fuel, s.size ≤ pos + fuel ∧ allP s = pre ++ poss s fuel pos) ∧ pre.length ≤ pos ∧ (pre = [] ↔ pos = 0) ∧ ∀ p ∈ pre, p < pos
theorem Stand.start (s : ByteArray) : Stand s [] 0 := ⟨⟨s.size, by omega, rfl⟩, Nat.le_refl _, by simp, by simp⟩
theorem Stand.next {s : ByteArray} {pre : List Nat} {pos : Nat} (h : Stand s pre pos) (hlt : pos < s.size) : Stand s (pre ++ [pos]) (pos + wd s pos) := by
  obtain ⟨⟨fuel, hf, e⟩, hl, h0, hp⟩ := h
  obtain ⟨f', rfl, e2, hf'⟩ := poss_step s fuel pos hlt hf
  have := wd_pos s pos
  refine ⟨⟨f', hf', by rw [e, e2]; simp⟩, by simp; omega, ?_, ?_⟩
  · constructor
    · intro h; simp at h
    · intro h; omega
  · intro p hm
    rcases List.mem_append.1 hm with hm | hm
    · have := hp p hm; omega
    · simp at hm; omega
theorem Stand.stop {s : ByteArray} {pre : List Nat} {pos : Nat} (h : Stand s pre pos) (hge : ¬ pos < s.size) : allP s = pre := by
  obtain ⟨⟨fuel, _, e⟩, _⟩ := h
  rw [e, poss_end s fuel pos hge, List.append_nil]
theorem Stand.mem {s : ByteArray} {pre : List Nat} {pos : Nat} (h : Stand s pre pos) (hlt : pos < s.size) : ∃ t, allP s = pre ++ pos :: t := by
  obtain ⟨⟨fuel, hf, e⟩, _⟩ := h
  obtain ⟨f', rfl, e2, _⟩ := poss_step s fuel pos hlt hf
  exact ⟨_, by rw [e, e2]⟩
theorem poss_fuel (s : ByteArray) : ∀ f g pos, s.size ≤ pos + f → s.size ≤ pos + g → poss s f pos = poss s g pos
  | 0, g, pos, hf, _ => by rw [poss_end s 0 pos (by omega), poss_end s g pos (by omega)]
  | f + 1, 0, pos, _, hg => by rw [poss_end s _ pos (by omega), poss_end s 0 pos (by omega)]
  | f + 1, g + 1, pos, hf, hg => by
    by_cases h : pos < s.size
    · have := wd_pos s pos
      simp only [poss, h, if_true]
      rw [poss_fuel s f g (pos + wd s pos) (by omega) (by omega)]
    · rw [poss_end s _ pos h, poss_end s _ pos h]
/-- how many runes begin ahead of pos -/
def qOf (s : ByteArray) (pos : Nat) : Nat := (allP s).length - (poss s s.size pos).length
theorem Stand.q {s : ByteArray} {pre : List Nat} {pos : Nat} (h : Stand s pre pos) : qOf s pos = pre.length := by
  obtain ⟨⟨fuel, hf, e⟩, _⟩ := h
  unfold qOf
  rw [e, poss_fuel s fuel s.size pos hf (by omega)]; simp
end Go.Proofs.YtgfjdnmnjabbbaaDoor

/-! the walk of the reference's Form: forms of one and two bytes, and none -/
namespace Go.Proofs.YtgfjdnmnjabbbaaDoor
open Go.RowKit

end Go.Proofs.YtgfjdnmnjabbbaaDoor

/-! the walk of the reference's Form: forms of three bytes -/
namespace Go.Proofs.YtgfjdnmnjabbbaaDoor
open Go.RowKit

end Go.Proofs.YtgfjdnmnjabbbaaDoor

/-! the walk of the reference's Form: forms of four bytes -/
namespace Go.Proofs.YtgfjdnmnjabbbaaDoor
open Go.RowKit

end Go.Proofs.YtgfjdnmnjabbbaaDoor

/-! the walks of the reference's Form (whole), Next, Bad, Runes -/
namespace Go.Proofs.YtgfjdnmnjabbbaaDoor
open Go.RowKit

end Go.Proofs.YtgfjdnmnjabbbaaDoor

/-! letters and digits: the walks of text.Letter, text.Digit and of the reference's -/
namespace Go.Proofs.YtgfjdnmnjabbbaaDoor
open Go.RowKit

/-- does r stand between two ends? -/
def inB (f t r : Int) : Bool := decide (f ≤ r) && decide (r ≤ t)
def letterB (r : Int) : Bool := inB 97 122 r || inB 65 90 r || (r == 95) || inB 945 969 r || (inB 913 937 r && r != 930)
def digitB (r : Int) : Bool := inB 48 57 r

set_option maxHeartbeats 400000 in
theorem between_any (r : Int) (w : World) :
    Calls Tryd.prog 79 #[.int .i32 r] w fun e w' => e = .returned (.func (.func 86) #[] #[.pointer (some ⟨w.heap.size, 0, none⟩)]) ∧ w' = w.alloc (.cells #[.int .i32 r] 21) := by
  go_enter Tryd.func79, Tryd.ntmps79
  go_wp2
  go_ret
  exact ⟨rfl, rfl⟩

set_option maxHeartbeats 400000 in
theorem in_any (f t r : Int) (B : Nat) (w : World) (hc : w.cell? ⟨B, 0, none⟩ = some (.int .i32 r)) :
    Calls Tryd.prog 86 #[.int .i32 f, .int .i32 t, .pointer (some ⟨B, 0, none⟩)] w fun e w' => e = .returned (.bool (inB f t r)) ∧ w = w' := by
  by_cases h : f ≤ r
  · have hv := Lib.hid (show decide (r ≤ t) = inB f t r by unfold inB; rw [decide_eq_true h, Bool.true_and])
    go_enter Tryd.func86, Tryd.ntmps86
    go_wp2
    go_ret
    exact ⟨ret_bool hv.out, rfl⟩
  · have hv := Lib.hid (show false = inB f t r by unfold inB; rw [decide_eq_false h, Bool.false_and])
    have h : r < f := by omega
    go_enter Tryd.func86, Tryd.ntmps86
    go_wp2
    go_ret
    exact ⟨ret_bool hv.out, rfl⟩

theorem cell_new (W : World) (v : Value) (t : TypeId) : (W.alloc (.cells #[v] t)).cell? ⟨W.heap.size, 0, none⟩ = some v := by
  rw [World.cell?_alloc_at _ _ _ _ rfl]; rfl
theorem below_new (W : World) (o : Obj) : Below W.heap.size W (W.alloc o) := (Below.refl _ _).alloc (Nat.le_refl _) _

set_option maxHeartbeats 800000 in
theorem letter_any (r : Int) (w : World) :
    Calls Tryd.prog 72 #[.int .i32 r] w fun e w' => e = .returned (.bool (letterB r)) ∧ Below w.heap.size w w' := by
  have hcell := cell_new w (.int .i32 r) 21
  have hB := below_new w (.cells #[.int .i32 r] 21)
  cases c1 : inB 97 122 r
  · cases c2 : inB 65 90 r
    · cases c3 : (r == 95)
      · cases c4 : inB 945 969 r
        · cases c5 : inB 913 937 r
          · have hv := Lib.hid (show letterB r = false by unfold letterB; rw [c1, c2, c3, c4, c5]; rfl)
            go_enter Tryd.func72, Tryd.ntmps72
            go_wp2_with (first | (go_at_call 79; refine (between_any _ _).mono ?_; rintro e w' ⟨rfl, rfl⟩) | (go_at_call 86; refine (in_any _ _ _ _ _ hcell).mono ?_; rintro e w' ⟨rfl, rfl⟩))
            go_ret
            exact ⟨ret_bool hv.out.symm, hB⟩
          · have hv := Lib.hid (show letterB r = (r != 930) by unfold letterB; rw [c1, c2, c3, c4, c5]; rfl)
            go_enter Tryd.func72, Tryd.ntmps72
            go_wp2_with (first | (go_at_call 79; refine (between_any _ _).mono ?_; rintro e w' ⟨rfl, rfl⟩) | (go_at_call 86; refine (in_any _ _ _ _ _ hcell).mono ?_; rintro e w' ⟨rfl, rfl⟩))
            go_ret
            exact ⟨ret_bool hv.out.symm, hB⟩
        · have hv := Lib.hid (show letterB r = true by unfold letterB; rw [c1, c2, c3, c4]; rfl)
          go_enter Tryd.func72, Tryd.ntmps72
          go_wp2_with (first | (go_at_call 79; refine (between_any _ _).mono ?_; rintro e w' ⟨rfl, rfl⟩) | (go_at_call 86; refine (in_any _ _ _ _ _ hcell).mono ?_; rintro e w' ⟨rfl, rfl⟩))
          go_ret
          exact ⟨ret_bool hv.out.symm, hB⟩
      · have hv := Lib.hid (show letterB r = true by unfold letterB; rw [c1, c2, c3]; rfl)
        go_enter Tryd.func72, Tryd.ntmps72
        go_wp2_with (first | (go_at_call 79; refine (between_any _ _).mono ?_; rintro e w' ⟨rfl, rfl⟩) | (go_at_call 86; refine (in_any _ _ _ _ _ hcell).mono ?_; rintro e w' ⟨rfl, rfl⟩))
        go_ret
        exact ⟨ret_bool hv.out.symm, hB⟩
    · have hv := Lib.hid (show letterB r = true by unfold letterB; rw [c1, c2]; rfl)
      go_enter Tryd.func72, Tryd.ntmps72
      go_wp2_with (first | (go_at_call 79; refine (between_any _ _).mono ?_; rintro e w' ⟨rfl, rfl⟩) | (go_at_call 86; refine (in_any _ _ _ _ _ hcell).mono ?_; rintro e w' ⟨rfl, rfl⟩))
      go_ret
      exact ⟨ret_bool hv.out.symm, hB⟩
  · have hv := Lib.hid (show letterB r = true by unfold letterB; rw [c1]; rfl)
    go_enter Tryd.func72, Tryd.ntmps72
    go_wp2_with (first | (go_at_call 79; refine (between_any _ _).mono ?_; rintro e w' ⟨rfl, rfl⟩) | (go_at_call 86; refine (in_any _ _ _ _ _ hcell).mono ?_; rintro e w' ⟨rfl, rfl⟩))
    go_ret
    exact ⟨ret_bool hv.out.symm, hB⟩

set_option maxHeartbeats 400000 in
theorem digit_any (r : Int) (w : World) :
    Calls Tryd.prog 73 #[.int .i32 r] w fun e w' => e = .returned (.bool (digitB r)) ∧ Below w.heap.size w w' := by
  have hcell := cell_new w (.int .i32 r) 21
  have hB := below_new w (.cells #[.int .i32 r] 21)
  go_enter Tryd.func73, Tryd.ntmps73
  go_wp2_with (first | (go_at_call 79; refine (between_any _ _).mono ?_; rintro e w' ⟨rfl, rfl⟩) | (go_at_call 86; refine (in_any _ _ _ _ _ hcell).mono ?_; rintro e w' ⟨rfl, rfl⟩))
  go_ret
  exact ⟨rfl, hB⟩

theorem letter_at (r : Int) (b : Bool) (h : (97 ≤ r ∧ r ≤ 122 ∨ 65 ≤ r ∧ r ≤ 90 ∨ r = 95 ∨ 945 ≤ r ∧ r ≤ 969 ∨ 913 ≤ r ∧ r ≤ 937 ∧ r ≠ 930) ↔ b = true) : letterB r = b := by
  rw [Bool.eq_iff_iff, ← h]
  unfold letterB inB
  simp only [Bool.or_eq_true, Bool.and_eq_true, decide_eq_true_eq, beq_iff_eq, bne_iff_ne]
  omega

end Go.Proofs.YtgfjdnmnjabbbaaDoor

/-! the walks of the reference's Bad, Runes, Name -/
namespace Go.Proofs.YtgfjdnmnjabbbaaDoor
open Go.RowKit

/-- where the first byte stands that begins no form; -1: there is none -/
def badI (s : ByteArray) : Int := match (allP s).find? (badB s) with | some p => (p : Int) | none => -1
theorem badI_hit (s : ByteArray) (pre : List Nat) (pos : Nat) (t : List Nat) (e : allP s = pre ++ pos :: t) (hp : ∀ p ∈ pre, badB s p = false) (hb : badB s pos = true) : badI s = (pos : Int) := by
  unfold badI
  rw [e, List.find?_append, List.find?_eq_none.2 (by intro x hx; rw [hp x hx]; simp)]
  simp [hb]
theorem badI_none (s : ByteArray) (pre : List Nat) (e : allP s = pre) (hp : ∀ p ∈ pre, badB s p = false) : badI s = -1 := by
  unfold badI
  rw [e, List.find?_eq_none.2 (by intro x hx; rw [hp x hx]; simp)]

/-- is it a name? -/
def okB (s : ByteArray) (p : Nat) : Bool := letterB (rn s p) || (p != 0 && digitB (rn s p))
def nameB (s : ByteArray) : Bool := decide (0 < (allP s).length) && decide ((allP s).length ≤ 24) && (allP s).all (okB s)

theorem rn_bad (s : ByteArray) (p : Nat) (h : badB s p = true) : okB s p = false := by
  have : rn s p = 65533 := by unfold badB at h; simp at h; exact h.1
  unfold okB; rw [this, show letterB ((65533 : Nat) : Int) = false by decide, show digitB ((65533 : Nat) : Int) = false by decide]; simp
theorem badI_some (s : ByteArray) (h : 0 ≤ badI s) : nameB s = false := by
  unfold badI at h
  cases hf : (allP s).find? (badB s) with
  | none => rw [hf] at h; simp at h
  | some p =>
    have hb := List.find?_some hf
    have hm := List.mem_of_find?_eq_some hf
    unfold nameB
    have : (allP s).all (okB s) = false := by
      rw [List.all_eq_false]; exact ⟨p, hm, by rw [rn_bad s p hb]; simp⟩
    rw [this]; simp
theorem badI_no (s : ByteArray) (h : badI s < 0) : ∀ p ∈ allP s, badB s p = false := by
  intro p hp
  unfold badI at h
  cases hf : (allP s).find? (badB s) with
  | none =>
    have := List.find?_eq_none.1 hf p hp
    simpa using this
  | some q => rw [hf] at h; simp at h; omega
theorem nameB_empty (s : ByteArray) (h : s.size = 0) : nameB s = false := by
  have : allP s = [] := poss_end s _ _ (by omega)
  unfold nameB; rw [this]; rfl
theorem nameB_long (s : ByteArray) (h : 24 < (allP s).length) : nameB s = false := by
  unfold nameB; rw [decide_eq_false (show ¬ (allP s).length ≤ 24 by omega)]; simp
theorem nameB_no (s : ByteArray) (pre t : List Nat) (pos : Nat) (e : allP s = pre ++ pos :: t) (h : okB s pos = false) : nameB s = false := by
  unfold nameB; rw [e, List.all_append]; simp [h]
theorem nameB_yes (s : ByteArray) (pre : List Nat) (e : allP s = pre) (h0 : 0 < pre.length) (h1 : pre.length ≤ 24) (h : ∀ p ∈ pre, okB s p = true) : nameB s = true := by
  unfold nameB; rw [e, decide_eq_true h0, decide_eq_true h1]; simpa using h
theorem allP_pos (s : ByteArray) (h : 0 < s.size) : 0 < (allP s).length := by
  obtain ⟨f, e, e2, _⟩ := poss_step s s.size 0 h (by omega)
  unfold allP; rw [e2]; simp

end Go.Proofs.YtgfjdnmnjabbbaaDoor

/-! plain: lines and columns -/
namespace Go.Proofs.YtgfjdnmnjabbbaaDoor
open Go.RowKit

set_option maxRecDepth 100000 in
set_option maxHeartbeats 2000000 in
theorem decode_facts (n c b1 b2 b3 : Nat) : ((Lib.decodeN n c b1 b2 b3).1 = 10 ↔ c = 10) ∧ (c = 10 → (Lib.decodeN n c b1 b2 b3).2 = 1) ∧ (2 ≤ (Lib.decodeN n c b1 b2 b3).2 → 128 ≤ b1) ∧
    (3 ≤ (Lib.decodeN n c b1 b2 b3).2 → 128 ≤ b2) ∧ (4 ≤ (Lib.decodeN n c b1 b2 b3).2 → 128 ≤ b3) := by
  unfold Lib.decodeN
  repeat' split
  all_goals (refine ⟨⟨fun h => ?_, fun h => ?_⟩, fun h => ?_, fun h => ?_, fun h => ?_, fun h => ?_⟩ <;> first | omega | (dsimp only at *; omega) | (exfalso; dsimp only at *; omega))
theorem rn_ten (s : ByteArray) (k : Nat) : rn s k = 10 ↔ byteAt s k = 10 := by
  have h := (decode_facts (s.size - k) (s.get! k).toNat (s.get! (k + 1)).toNat (s.get! (k + 2)).toNat (s.get! (k + 3)).toNat).1
  rw [← Lib.decode_at] at h
  unfold rn byteAt; exact ⟨fun e => by have := h.1 e; omega, fun e => h.2 (by omega)⟩
theorem wd_ten (s : ByteArray) (k : Nat) (h : byteAt s k = 10) : wd s k = 1 := by
  have h2 := (decode_facts (s.size - k) (s.get! k).toNat (s.get! (k + 1)).toNat (s.get! (k + 2)).toNat (s.get! (k + 3)).toNat).2.1
  rw [← Lib.decode_at] at h2
  unfold byteAt at h; exact h2 (by omega)
theorem inner_ten (s : ByteArray) (k j : Nat) (h1 : k < j) (h2 : j < k + wd s k) : byteAt s j ≠ 10 := by
  have h := decode_facts (s.size - k) (s.get! k).toNat (s.get! (k + 1)).toNat (s.get! (k + 2)).toNat (s.get! (k + 3)).toNat
  rw [← Lib.decode_at] at h
  have h4 := wd_le4 s k
  obtain ⟨_, _, a, b, c⟩ := h
  unfold wd at h2 h4
  unfold byteAt
  rcases (show j = k + 1 ∨ j = k + 2 ∨ j = k + 3 by omega) with rfl | rfl | rfl
  · have := a (by omega); omega
  · have := b (by omega); omega
  · have := c (by omega); omega

/-- how many bytes 10 there are below k; where the line of k begins -/
def nl (s : ByteArray) : Nat → Nat
  | 0 => 0
  | k + 1 => nl s k + if byteAt s k = 10 then 1 else 0
def nlast (s : ByteArray) : Nat → Nat
  | 0 => 0
  | k + 1 => if byteAt s k = 10 then k + 1 else nlast s k
theorem nl_le (s : ByteArray) (k : Nat) : nl s k ≤ k := by
  induction k with
  | zero => exact Nat.le_refl _
  | succ k ih => simp only [nl]; split <;> omega
theorem nlast_le (s : ByteArray) (k : Nat) : nlast s k ≤ k := by
  induction k with
  | zero => exact Nat.le_refl _
  | succ k ih => simp only [nlast]; split <;> omega
theorem nl_skip (s : ByteArray) (a b : Nat) (h : a ≤ b) (hn : ∀ j, a ≤ j → j < b → byteAt s j ≠ 10) : nl s b = nl s a ∧ nlast s b = nlast s a := by
  obtain ⟨d, rfl⟩ : ∃ d, b = a + d := ⟨b - a, by omega⟩
  clear h
  induction d with
  | zero => exact ⟨rfl, rfl⟩
  | succ d ih =>
    have ih := ih (fun j h1 h2 => hn j h1 (by omega))
    have h := hn (a + d) (by omega) (by omega)
    rw [show a + (d + 1) = (a + d) + 1 from rfl]
    simp only [nl, nlast, if_neg h, Nat.add_zero]
    exact ih
theorem nl_yes (s : ByteArray) (pos : Nat) (h : rn s pos = 10) : nl s (pos + wd s pos) = nl s pos + 1 ∧ nlast s (pos + wd s pos) = pos + wd s pos := by
  have hb := (rn_ten s pos).1 h
  rw [wd_ten s pos hb]
  simp [nl, nlast, hb]
theorem nl_no (s : ByteArray) (pos : Nat) (h : rn s pos ≠ 10) : nl s (pos + wd s pos) = nl s pos ∧ nlast s (pos + wd s pos) = nlast s pos := by
  have hb : byteAt s pos ≠ 10 := fun e => h ((rn_ten s pos).2 e)
  refine nl_skip s pos (pos + wd s pos) (by omega) (fun j h1 h2 => ?_)
  by_cases e : j = pos
  · rw [e]; exact hb
  · exact inner_ten s pos j (by omega) h2

/-- the runes that begin below at -/
def below (s : ByteArray) (at' : Nat) : List Nat := (allP s).takeWhile (fun p => decide (p < at'))
theorem Stand.below {s : ByteArray} {pre : List Nat} {pos at' : Nat} (h : Stand s pre pos) (hp : ∀ p ∈ pre, p < at') (hge : at' ≤ pos) : below s at' = pre := by
  obtain ⟨⟨fuel, _, e⟩, _⟩ := h
  unfold Proofs.YtgfjdnmnjabbbaaDoor.below
  rw [e, List.takeWhile_append_of_pos (by intro p hm; simp [hp p hm])]
  have : (poss s fuel pos).takeWhile (fun p => decide (p < at')) = [] := by
    cases fuel with
    | zero => rfl
    | succ f =>
      simp only [poss]; split
      · rw [List.takeWhile_cons_of_neg (by simp; omega)]
      · rfl
  rw [this, List.append_nil]
def lineI (s : ByteArray) (at' : Nat) : Int := 1 + (nl s at' : Int)
def colI (s : ByteArray) (at' : Nat) : Int := 1 + (((below s at').length - qOf s (nlast s at') : Nat) : Int)

/-- the line of each place begins where a rune begins -/
theorem stand_near (s : ByteArray) (k : Nat) (hk : k ≤ s.size) : ∃ pre pos, Stand s pre pos ∧ k ≤ pos ∧ (∀ j, k ≤ j → j < pos → byteAt s j ≠ 10) ∧ ∃ pre0, Stand s pre0 (nlast s pos) := by
  induction k with
  | zero => exact ⟨[], 0, Stand.start s, Nat.le_refl _, fun j _ h => absurd h (by omega), [], Stand.start s⟩
  | succ k ih =>
    obtain ⟨pre, pos, hst, hle, hn, pre0, h0⟩ := ih (by omega)
    by_cases h : k + 1 ≤ pos
    · exact ⟨pre, pos, hst, h, fun j h1 h2 => hn j (by omega) h2, pre0, h0⟩
    · obtain rfl : pos = k := by omega
      have hw := wd_pos s pos
      have hnx := hst.next (by omega)
      refine ⟨pre ++ [pos], pos + wd s pos, hnx, by omega, fun j h1 h2 => inner_ten s pos j (by omega) h2, ?_⟩
      by_cases hr : rn s pos = 10
      · rw [(nl_yes s pos hr).2]; exact ⟨_, hnx⟩
      · rw [(nl_no s pos hr).2]; exact ⟨_, h0⟩
theorem stand_line (s : ByteArray) (k : Nat) (hk : k ≤ s.size) : ∃ pre0, Stand s pre0 (nlast s k) := by
  obtain ⟨pre, pos, _, hle, hn, pre0, h0⟩ := stand_near s k hk
  rw [(nl_skip s k pos hle hn).2] at h0
  exact ⟨pre0, h0⟩
end Go.Proofs.YtgfjdnmnjabbbaaDoor

/-! the walks of text.Name, text.Runes, text.Place: ranges over a string -/
namespace Go.Proofs.YtgfjdnmnjabbbaaDoor
open Go.RowKit

/-- one step of a range over a string, the iterator in block B -/
theorem range_step {P : Program} (wr : World) (B : Nat) (s : ByteArray) (pos : Nat) (ty : TypeId) (hit : wr.heap[B]? = some (.stringIter s pos)) (h : pos < s.size) :
    ∃ W1, (Instr.next (.pointer (some ⟨B, 0, none⟩)) true ty).run P wr = .ok (.tuple #[.bool true, .int .i64 pos, .int .i32 (rn s pos)]) W1 ∧ W1.heap[B]? = some (.stringIter s (pos + wd s pos)) ∧ Below B wr W1 ∧ W1.heap.size = wr.heap.size :=
  ⟨_, Lib.run_next_any_at wr B s pos ty hit h, Lib.iterAt_heap wr B s pos _ hit, Lib.below_iterAt (Below.refl _ _) (Nat.le_refl _) _ _, Lib.iterAt_size _ _ _ _⟩
theorem iterPos_at {w : World} {B : Nat} {s : ByteArray} {pos : Nat} (h : w.heap[B]? = some (.stringIter s pos)) : w.iterPos B = pos := by
  simp [World.iterPos, h]
theorem iter_start (w : World) (s : ByteArray) : (w.iter s 0).heap[w.heap.size]? = some (.stringIter s 0) ∧ Below w.heap.size w (w.iter s 0) := ⟨World.iter_heap w s 0, (Below.refl _ w).alloc (Nat.le_refl _) _⟩
/-- the iterator stands while a call makes memory alone -/
theorem iter_kept {W W' : World} {B : Nat} {o : Obj} (h : W.heap[B]? = some o) (hb : Below W.heap.size W W') : W'.heap[B]? = some o :=
  (hb.block B (Array.getElem?_eq_some_iff.1 h).1).trans h

/-- what a walk through the runes of a name holds -/
def NameRel (s : ByteArray) (w : World) (c : Value) (wr : World) : Prop :=
  ∃ (pre : List Nat) (pos : Nat), c = .int .i64 pre.length ∧ wr.heap[w.heap.size]? = some (.stringIter s pos) ∧ Below w.heap.size w wr ∧ Stand s pre pos ∧ pre.length ≤ 24 ∧ ∀ p ∈ pre, okB s p = true

set_option maxHeartbeats 800000 in
theorem name_any (s : ByteArray) (w : World) (hs : s.size ≤ 562949953421312) :
    Calls Tryd.prog 60 #[.string s] w fun e w' => e = .returned (.bool (nameB s)) ∧ Below w.heap.size w w' := by
  have h0 := iter_start w s
  go_enter Tryd.func60, Tryd.ntmps60
  go_wp2_with fail
  go_loopw [3] (fun c wr => NameRel s w c wr) (fun _ wr => s.size - wr.iterPos w.heap.size)
  case atStart => exact ⟨[], 0, rfl, h0.1, h0.2, Stand.start s, by simp, by simp⟩
  case round =>
    clear h0
    obtain ⟨pre, pos, rfl, hit, hB, hst, hl, hok⟩ := hrel
    have HS := Lib.hid hst
    have HO := Lib.hid hok
    have hpp := hst.2.2.1
    clear hst hok
    by_cases hlt : pos < s.size
    · obtain ⟨W1, hnx, hit1, hb1, hz1⟩ := range_step (P := Tryd.prog) wr w.heap.size s pos 0 hit hlt
      have hB1 : Below w.heap.size w W1 := hB.trans hb1
      have hmeas := Lib.hid (iterPos_at hit)
      obtain ⟨t, ht⟩ := HS.out.mem hlt
      have HN := Lib.hid (HS.out.next hlt)
      have HT := Lib.hid ht
      clear ht hit hb1 hz1
      have HNO := Lib.hid (fun h => nameB_no s pre t pos HT.out h)
      have HP2 := Lib.hid (show okB s pos = true → ∀ p ∈ pre ++ [pos], okB s p = true by
        intro ho p hm; rcases List.mem_append.1 hm with hm | hm
        · exact HO.out p hm
        · simp at hm; subst hm; exact ho)
      have HL := Lib.hid (show 24 ≤ pre.length → nameB s = false by
        intro h; apply nameB_long; rw [HT.out]; simp; omega)
      cases hl1 : letterB (rn s pos)
      · by_cases hz0 : pos = 0
        · have HV := Lib.hid (HNO.out (by unfold okB; rw [hl1, hz0]; simp))
          have hp0 : ((pre.length : Int) == 0) = true := by rw [beq_iff_eq, hpp.2 hz0]; rfl
          clear hz0 hpp
          go_wp2_with fail
          refine (letter_any _ _).mono ?_
          rintro e w2 ⟨rfl, hb2⟩
          rw [hl1]
          go_wp2_with fail
          go_ret
          exact ⟨ret_bool HV.out.symm, hB1.trans (hb2.mono hB1.size)⟩
        · have hp0 : ((pre.length : Int) == 0) = false := by
            rw [beq_eq_false_iff_ne]; intro h; exact hz0 (hpp.1 (List.length_eq_zero_iff.1 (by omega)))
          clear hpp
          cases hd : digitB (rn s pos)
          · have HV := Lib.hid (HNO.out (by unfold okB; rw [hl1, hd]; simp))
            clear hz0
            go_wp2_with fail
            refine (letter_any _ _).mono ?_
            rintro e w2 ⟨rfl, hb2⟩
            rw [hl1]
            go_wp2_with fail
            refine (digit_any _ _).mono ?_
            rintro e w3 ⟨rfl, hb3⟩
            rw [hd]
            go_wp2_with fail
            go_ret
            exact ⟨ret_bool HV.out.symm, (hB1.trans (hb2.mono hB1.size)).trans (hb3.mono (Nat.le_trans hB1.size hb2.size))⟩
          · have HK := Lib.hid (HP2.out (by unfold okB; rw [hd]; simp [hz0]))
            clear hz0
            by_cases h24 : pre.length < 24
            · go_wp2_with fail
              refine (letter_any _ _).mono ?_
              rintro e w2 ⟨rfl, hb2⟩
              rw [hl1]
              have hit2 := iter_kept hit1 hb2
              have hB2 := hB1.trans (hb2.mono hB1.size)
              clear hit1 hB1 hb2
              go_wp2_with fail
              refine (digit_any _ _).mono ?_
              rintro e w3 ⟨rfl, hb3⟩
              rw [hd]
              have hit3 := iter_kept hit2 hb3
              have hB3 := hB2.trans (hb3.mono hB2.size)
              clear hit2 hB2 hb3
              go_wp2_with fail
              go_roundw
              case rel => exact ⟨pre ++ [pos], pos + wd s pos, by rw [List.length_append]; go_num, hit3, hB3, HN.out, by simp; omega, HK.out⟩
              case measure => rw [iterPos_at hit3, hmeas.out]; have := wd_pos s pos; omega
            · have HV := Lib.hid (HL.out (by omega))
              have h25 : (24 : Int) < (pre.length : Int) + 1 := by omega
              go_wp2_with fail
              refine (letter_any _ _).mono ?_
              rintro e w2 ⟨rfl, hb2⟩
              rw [hl1]
              go_wp2_with fail
              refine (digit_any _ _).mono ?_
              rintro e w3 ⟨rfl, hb3⟩
              rw [hd]
              go_wp2_with fail
              go_ret
              exact ⟨ret_bool HV.out.symm, (hB1.trans (hb2.mono hB1.size)).trans (hb3.mono (Nat.le_trans hB1.size hb2.size))⟩
      · have HK := Lib.hid (HP2.out (by unfold okB; rw [hl1]; simp))
        clear hpp
        by_cases h24 : pre.length < 24
        · go_wp2_with fail
          refine (letter_any _ _).mono ?_
          rintro e w2 ⟨rfl, hb2⟩
          rw [hl1]
          have hit2 := iter_kept hit1 hb2
          have hB2 := hB1.trans (hb2.mono hB1.size)
          clear hit1 hB1 hb2
          go_wp2_with fail
          go_roundw
          case rel => exact ⟨pre ++ [pos], pos + wd s pos, by rw [List.length_append]; go_num, hit2, hB2, HN.out, by simp; omega, HK.out⟩
          case measure => rw [iterPos_at hit2, hmeas.out]; have := wd_pos s pos; omega
        · have HV := Lib.hid (HL.out (by omega))
          have h25 : (24 : Int) < (pre.length : Int) + 1 := by omega
          go_wp2_with fail
          refine (letter_any _ _).mono ?_
          rintro e w2 ⟨rfl, hb2⟩
          rw [hl1]
          go_wp2_with fail
          go_ret
          exact ⟨ret_bool HV.out.symm, hB1.trans (hb2.mono hB1.size)⟩
    · have hnx := Lib.run_next_end_at (P := Tryd.prog) wr w.heap.size s pos 0 hit hlt
      have he := HS.out.stop hlt
      have HV : Hid (decide (0 < (pre.length : Int)) = nameB s) := by
        by_cases hp : 0 < pre.length
        · rw [nameB_yes s pre he hp hl HO.out]; exact Lib.hid (by simp; omega)
        · have : pre = [] := List.length_eq_zero_iff.1 (by omega)
          have hz : s.size = 0 := by have := hpp.1 this; omega
          rw [nameB_empty s hz]; exact Lib.hid (by simp; omega)
      clear he hpp
      go_wp2_with fail
      go_ret
      exact ⟨ret_bool (by have := HV.out; simpa using this), hB⟩
end Go.Proofs.YtgfjdnmnjabbbaaDoor
