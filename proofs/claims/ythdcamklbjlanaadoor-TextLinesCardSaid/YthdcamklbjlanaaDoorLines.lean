import Derived.Test.YthdcamklbjlanaaDoorJoin
import Derived.Test.YthdcamklbjlanaaDoorTextQ
/-! plain: lines and columns behind whole lines -/
namespace Go.Proofs.YthdcamklbjlanaaDoor
set_option linter.unusedVariables false
open Go.RowKit

def strNL : ByteArray := ⟨#[10]⟩
theorem byteAt_l (a b : ByteArray) (i : Nat) (h : i < a.size) : byteAt (a ++ b) i = byteAt a i := by unfold byteAt; rw [get_l a b i h]
theorem byteAt_r (a b : ByteArray) (i : Nat) : byteAt (a ++ b) (a.size + i) = byteAt b i := by unfold byteAt; rw [get_r]
theorem nl_pre (a b : ByteArray) : ∀ i, i ≤ a.size → nl (a ++ b) i = nl a i
  | 0, _ => rfl
  | i + 1, h => by simp only [nl]; rw [nl_pre a b i (by omega), byteAt_l a b i (by omega)]
theorem nl_r (a b : ByteArray) : ∀ k, nl (a ++ b) (a.size + k) = nl (a ++ b) a.size + nl b k
  | 0 => rfl
  | k + 1 => by
    rw [← Nat.add_assoc]
    simp only [nl]; rw [nl_r a b k, byteAt_r]; omega
theorem nlast_r (a b : ByteArray) (h : nlast (a ++ b) a.size = a.size) : ∀ k, nlast (a ++ b) (a.size + k) = a.size + nlast b k
  | 0 => h
  | k + 1 => by
    rw [← Nat.add_assoc]
    simp only [nlast]; rw [nlast_r a b h k, byteAt_r]; split <;> omega

/-- a, the end of a line, b: the place of b's byte k -/
theorem lines_at (a b : ByteArray) (k : Nat) (hk : k ≤ b.size) :
    lineI (a ++ strNL ++ b) (a.size + 1 + k) = lineI b k + (nl a a.size : Int) + 1 ∧ colI (a ++ strNL ++ b) (a.size + 1 + k) = colI b k := by
  obtain ⟨A, hA⟩ : ∃ A, A = a ++ strNL := ⟨_, rfl⟩
  have hz : A.size = a.size + 1 := by rw [hA, ByteArray.size_append]; rfl
  have ha : nl A A.size = nl a a.size + 1 ∧ nlast A A.size = A.size := by
    have hb : byteAt A a.size = 10 := by
      rw [hA, show byteAt (a ++ strNL) a.size = byteAt strNL 0 from byteAt_r a strNL 0]; decide +kernel
    rw [hz]
    simp only [nl, nlast, hb, if_true]
    exact ⟨by rw [hA, nl_pre a strNL _ (Nat.le_refl _)], trivial⟩
  rw [← hA, ← hz]
  obtain ⟨T, hT⟩ : ∃ T, T = A ++ b := ⟨_, rfl⟩
  have hTz : T.size = A.size + b.size := by rw [hT, ByteArray.size_append]
  have hnT : nl T A.size = nl a a.size + 1 := by rw [hT, nl_pre A b _ (Nat.le_refl _)]; exact ha.1
  have hlT : nlast T A.size = A.size := by
    have hb : byteAt T a.size = 10 := by
      rw [hT, byteAt_l A b a.size (by omega), hA, show byteAt (a ++ strNL) a.size = byteAt strNL 0 from byteAt_r a strNL 0]; decide +kernel
    rw [hz]
    simp only [nlast, hb, if_true]
  have hlast : nlast T (A.size + k) = A.size + nlast b k := by rw [hT]; exact nlast_r A b (by rw [← hT]; exact hlT) k
  rw [← hT]
  constructor
  · unfold lineI
    rw [hT, nl_r, ← hT, hnT]; omega
  · obtain ⟨preM, hM⟩ := stand_line T A.size (by omega)
    rw [hlT] at hM
    have hall : allP T = preM ++ (allP b).map (A.size + ·) := by
      obtain ⟨⟨fuel, hf, e⟩, _⟩ := hM
      rw [e]
      congr 1
      rw [hT, show poss (A ++ b) fuel A.size = poss (A ++ b) fuel (A.size + 0) from rfl, poss_r]
      unfold allP
      rw [poss_fuel b fuel b.size 0 (by omega) (by omega)]
    have hbel : below T (A.size + k) = preM ++ (below b k).map (A.size + ·) := by
      unfold below
      rw [hall, List.takeWhile_append_of_pos (by intro p hm; have := hM.2.2.2 p hm; simp; omega), List.takeWhile_map]
      congr 2
      apply congrArg (fun f => List.takeWhile f (allP b))
      funext p
      simp
    obtain ⟨pre0, h0⟩ := stand_line b k hk
    have hq : qOf T (A.size + nlast b k) = preM.length + qOf b (nlast b k) := by
      have hle := nlast_le b k
      have hlen : (poss b b.size (nlast b k)).length ≤ (allP b).length := by
        obtain ⟨⟨fuel, hf, e⟩, _⟩ := h0
        rw [e, poss_fuel b fuel b.size _ hf (by omega)]; simp
      unfold qOf
      rw [hall, hT, poss_r, List.length_append, List.length_map, List.length_map, poss_fuel b (A ++ b).size b.size _ (by rw [← hT]; omega) (by omega)]
      omega
    unfold colI
    rw [hlast, hq, hbel, List.length_append, List.length_map]
    congr 2
    omega
end Go.Proofs.YthdcamklbjlanaaDoor
