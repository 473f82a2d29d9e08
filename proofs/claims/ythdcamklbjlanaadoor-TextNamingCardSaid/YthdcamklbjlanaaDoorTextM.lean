import Derived.Lib.DecodeN
/-! plain: the forms of runes, by a form's first byte -/
namespace Go.Proofs.YthdcamklbjlanaaDoor.TM
set_option linter.unusedVariables false
open Go.Lib

def fN (n c b1 b2 b3 : Nat) : Nat × Nat := if decodeN n c b1 b2 b3 = (65533, 1) then (0, 0) else decodeN n c b1 b2 b3
theorem fN_yes (n c b1 b2 b3 v k : Nat) (h : decodeN n c b1 b2 b3 = (v, k)) (hk : k ≠ 1 ∨ v ≠ 65533) : fN n c b1 b2 b3 = (v, k) := by
  unfold fN; rw [h, if_neg]; intro e; cases e; omega
theorem fN_no (n c b1 b2 b3 : Nat) (h : decodeN n c b1 b2 b3 = (65533, 1)) : fN n c b1 b2 b3 = (0, 0) := by unfold fN; rw [h, if_pos rfl]

theorem fN_1 (n c b1 b2 b3 : Nat) (h : c < 128) : fN n c b1 b2 b3 = (c, 1) := by
  apply fN_yes
  · unfold decodeN; rw [if_pos h]
  · omega
set_option maxRecDepth 100000 in
set_option maxHeartbeats 2000000 in
theorem fN_0 (n c b1 b2 b3 : Nat) (h : 128 ≤ c ∧ c < 194 ∨ 245 ≤ c ∧ c < 256) : fN n c b1 b2 b3 = (0, 0) := by
  apply fN_no; unfold decodeN
  repeat' split
  all_goals first | (exfalso; omega) | rfl
set_option maxRecDepth 100000 in
set_option maxHeartbeats 2000000 in
theorem fN_2 (n c b1 b2 b3 : Nat) (h : 194 ≤ c ∧ c ≤ 223) (h1 : 1 < n ∧ 128 ≤ b1 ∧ b1 ≤ 191) : fN n c b1 b2 b3 = (c % 32 * 64 + b1 % 64, 2) := by
  apply fN_yes
  · unfold decodeN
    repeat' split
    all_goals first | (exfalso; omega) | rfl
  · omega
set_option maxRecDepth 100000 in
set_option maxHeartbeats 2000000 in
theorem fN_2n (n c b1 b2 b3 : Nat) (h : 194 ≤ c ∧ c ≤ 223) (h1 : ¬ (1 < n ∧ 128 ≤ b1 ∧ b1 ≤ 191)) (hb : b1 < 256) : fN n c b1 b2 b3 = (0, 0) := by
  apply fN_no; unfold decodeN
  repeat' split
  all_goals first | (exfalso; omega) | rfl
set_option maxRecDepth 100000 in
set_option maxHeartbeats 2000000 in
theorem fN_3 (n c b1 b2 b3 : Nat) (h : 224 ≤ c ∧ c ≤ 239) (h1 : 1 < n ∧ 128 ≤ b1 ∧ b1 ≤ 191) (he : c = 224 → 160 ≤ b1) (hd : c = 237 → b1 ≤ 159) (h2 : 2 < n ∧ 128 ≤ b2 ∧ b2 ≤ 191) :
    fN n c b1 b2 b3 = (c % 16 * 4096 + b1 % 64 * 64 + b2 % 64, 3) := by
  apply fN_yes
  · unfold decodeN
    repeat' split
    all_goals first | (exfalso; omega) | rfl
  · omega
set_option maxRecDepth 100000 in
set_option maxHeartbeats 2000000 in
theorem fN_3n (n c b1 b2 b3 : Nat) (h : 224 ≤ c ∧ c ≤ 239) (hn : ¬ (1 < n ∧ 128 ≤ b1 ∧ b1 ≤ 191) ∨ (c = 224 ∧ b1 < 160) ∨ (c = 237 ∧ 159 < b1) ∨ ¬ (2 < n ∧ 128 ≤ b2 ∧ b2 ≤ 191)) (hb1 : b1 < 256) (hb2 : b2 < 256) :
    fN n c b1 b2 b3 = (0, 0) := by
  apply fN_no; unfold decodeN
  repeat' split
  all_goals first | (exfalso; omega) | rfl
set_option maxRecDepth 100000 in
set_option maxHeartbeats 4000000 in
theorem fN_4 (n c b1 b2 b3 : Nat) (h : 240 ≤ c ∧ c ≤ 244) (h1 : 1 < n ∧ 128 ≤ b1 ∧ b1 ≤ 191) (he : c = 240 → 144 ≤ b1) (hd : c = 244 → b1 ≤ 143) (h2 : 2 < n ∧ 128 ≤ b2 ∧ b2 ≤ 191) (h3 : 3 < n ∧ 128 ≤ b3 ∧ b3 ≤ 191) :
    fN n c b1 b2 b3 = (c % 8 * 262144 + b1 % 64 * 4096 + b2 % 64 * 64 + b3 % 64, 4) := by
  apply fN_yes
  · unfold decodeN
    repeat' split
    all_goals first | (exfalso; omega) | rfl
  · omega
set_option maxRecDepth 100000 in
set_option maxHeartbeats 4000000 in
theorem fN_4n (n c b1 b2 b3 : Nat) (h : 240 ≤ c ∧ c ≤ 244)
    (hn : ¬ (1 < n ∧ 128 ≤ b1 ∧ b1 ≤ 191) ∨ (c = 240 ∧ b1 < 144) ∨ (c = 244 ∧ 143 < b1) ∨ ¬ (2 < n ∧ 128 ≤ b2 ∧ b2 ≤ 191) ∨ ¬ (3 < n ∧ 128 ≤ b3 ∧ b3 ≤ 191)) (hb1 : b1 < 256) (hb2 : b2 < 256) (hb3 : b3 < 256) :
    fN n c b1 b2 b3 = (0, 0) := by
  apply fN_no; unfold decodeN
  repeat' split
  all_goals first | (exfalso; omega) | rfl
end Go.Proofs.YthdcamklbjlanaaDoor.TM
