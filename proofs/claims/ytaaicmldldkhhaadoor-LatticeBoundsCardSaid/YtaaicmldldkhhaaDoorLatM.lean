import Derived.Test.YtaaicmldldkhhaaDoorMaskR
/-! plain: orders told by masks -/
namespace Go.Proofs.YtaaicmldldkhhaaDoor.LL
set_option linter.unusedVariables false

/-- does k stand at or above i? -/
def ab (xs : List Int) (i k : Nat) : Bool := MM.hasB (xs[i]?.getD 0) (k : Int)
/-- what stands above what stands above i stands above i; nothing stands above beyond the last; no two stand each above the other -/
def ordAt (xs : List Int) (i k : Nat) : Bool :=
  !ab xs i k || (decide (k < xs.length) && ((k == i || !ab xs k i) && (bits .or .u64 (xs[k]?.getD 0) (xs[i]?.getD 0) == xs[i]?.getD 0)))
def ordRow (xs : List Int) (i : Nat) : Bool := ab xs i i && (List.range 64).all (ordAt xs i)
/-- may an order be? -/
def ordB (xs : List Int) : Bool := decide (1 ≤ xs.length ∧ xs.length ≤ 64) && (List.range xs.length).all (ordRow xs)

def joinAt (xs : List Int) (a b k m : Nat) : Bool := !ab xs a m || (!ab xs b m || ab xs k m)
def isJoin (xs : List Int) (a b k : Nat) : Bool := ab xs a k && (ab xs b k && (List.range xs.length).all (joinAt xs a b k))
def meetAt (xs : List Int) (a b k m : Nat) : Bool := !ab xs m a || (!ab xs m b || ab xs m k)
def isMeet (xs : List Int) (a b k : Nat) : Bool := ab xs k a && (ab xs k b && (List.range xs.length).all (meetAt xs a b k))
def isEnd (xs : List Int) (k : Nat) : Bool := (List.range xs.length).all (fun m => ab xs k m)
def isFar (xs : List Int) (k : Nat) : Bool := (List.range xs.length).all (fun m => ab xs m k)
/-- the first below n; -1: there is none -/
def firstI (n : Nat) (p : Nat → Bool) : Int := match (List.range n).find? p with | some k => (k : Int) | none => -1
def joinI (xs : List Int) (a b : Nat) : Int := firstI xs.length (isJoin xs a b)
def meetI (xs : List Int) (a b : Nat) : Int := firstI xs.length (isMeet xs a b)
def endI (xs : List Int) : Int := firstI xs.length (isEnd xs)
def farI (xs : List Int) : Int := firstI xs.length (isFar xs)
def pairB (xs : List Int) (a b : Nat) : Bool := decide (0 ≤ joinI xs a b) && decide (0 ≤ meetI xs a b)
def rightB (xs : List Int) : Bool := ordB xs && (List.range xs.length).all (fun a => (List.range a).all (pairB xs a))

theorem all_no {n : Nat} {p : Nat → Bool} {i : Nat} (hi : i < n) (h : p i = false) : (List.range n).all p = false := by
  rw [Bool.eq_false_iff]
  intro ha
  rw [List.all_eq_true] at ha
  rw [ha i (List.mem_range.2 hi)] at h
  cases h
theorem all_yes {n : Nat} {p : Nat → Bool} (h : ∀ j, j < n → p j = true) : (List.range n).all p = true :=
  List.all_eq_true.2 fun j hj => h j (List.mem_range.1 hj)
theorem firstI_hit {n : Nat} {p : Nat → Bool} {k : Nat} (hk : k < n) (hp : p k = true) (hno : ∀ j, j < k → p j = false) : firstI n p = (k : Int) := by
  have e : (List.range n).find? p = some k := by
    rw [List.find?_eq_some_iff_append]
    refine ⟨hp, List.range k, (List.range' (k + 1) (n - k - 1)), ?_, fun j hj => by rw [hno j (List.mem_range.1 hj)]; rfl⟩
    rw [List.range_eq_range', List.range_eq_range', show n = k + (n - k - 1 + 1) by omega, ← List.range'_append_1, List.range'_succ]
    simp
  unfold firstI; rw [e]
theorem firstI_none {n : Nat} {p : Nat → Bool} (hno : ∀ j, j < n → p j = false) : firstI n p = -1 := by
  have e : (List.range n).find? p = none := by
    rw [List.find?_eq_none]
    intro j hj h
    rw [hno j (List.mem_range.1 hj)] at h
    cases h
  unfold firstI; rw [e]
theorem firstI_bd (n : Nat) (p : Nat → Bool) : -1 ≤ firstI n p ∧ firstI n p < n := by
  unfold firstI
  split
  · rename_i k h
    have := List.mem_range.1 (List.mem_of_find?_eq_some h)
    omega
  · omega
theorem firstI_at {n : Nat} {p : Nat → Bool} (h : 0 ≤ firstI n p) : ∃ k : Nat, firstI n p = (k : Int) ∧ k < n ∧ p k = true := by
  unfold firstI at *
  split at h
  · rename_i k e
    exact ⟨k, rfl, List.mem_range.1 (List.mem_of_find?_eq_some e), by simpa using List.find?_some e⟩
  · omega
theorem all_step {n : Nat} {p : Nat → Bool} (h : ∀ j, j < n → p j = true) (hn : p n = true) : ∀ j, j < n + 1 → p j = true := by
  intro j hj
  by_cases e : j = n
  · subst e; exact hn
  · exact h j (by omega)
theorem none_step {n : Nat} {p : Nat → Bool} (h : ∀ j, j < n → p j = false) (hn : p n = false) : ∀ j, j < n + 1 → p j = false := by
  intro j hj
  by_cases e : j = n
  · subst e; exact hn
  · exact h j (by omega)
end Go.Proofs.YtaaicmldldkhhaaDoor.LL
