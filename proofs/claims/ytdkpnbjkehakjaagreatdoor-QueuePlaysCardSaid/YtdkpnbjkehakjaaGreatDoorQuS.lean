import Derived.Test.YtdkpnbjkehakjaaGreatDoorQueB
import Derived.Test.YtdkpnbjkehakjaaGreatDoorQuE
import Derived.Laws.EntriesVeiled
set_option linter.unusedSimpArgs false
set_option linter.unusedVariables false
/-! queue: which events are seen -/
namespace Go.Proofs.YtdkpnbjkehakjaaGreatDoor
open Go.RowKit
/-- is an event of the kind, may it be, is its level low? -/
def picksB (nL : Nat) (O : List (ByteArray × Int)) (lowf : Nat → Bool) (kd : Int) (e : Ev) : Bool := decide (e.k = kd) && (allowB O.length nL e.k e.r e.f e.a && (if kd = 1 then lowf (chAt O e.r.toNat).2.toNat else lowf e.r.toNat))
/-- what the closure sees -/
structure ViewM (W : World) (kb nb lb pb g nL : Nat) (O : List (ByteArray × Int)) (lowf : Nat → Bool) (kd : Int) (v0 v1 v2 v4 : Value) (a3 : Option Addr) (k3 : Nat) : Prop where
  kind : W.heap[kb]? = some (.cells #[.int .u8 kd] 5)
  known : W.heap[nb]? = some (.cells #[.int .i64 O.length, .int .i64 nL] 63)
  low : W.heap[lb]? = some (.cells #[.slice (some ⟨g, 0, none⟩) nL nL] 87)
  pol : W.heap[pb]? = some (.cells #[v0, v1, v2, .slice a3 O.length k3, v4] 26)
  row : W.rowIs g 4 nL (fun j => .bool (lowf j))
  outs : Chans W.heap.size W (.slice a3 O.length k3) O
theorem ViewM.on {W W' : World} {kb nb lb pb g nL : Nat} {O : List (ByteArray × Int)} {lowf : Nat → Bool} {kd : Int} {v0 v1 v2 v4 : Value} {a3 : Option Addr} {k3 : Nat} (h : ViewM W kb nb lb pb g nL O lowf kd v0 v1 v2 v4 a3 k3) (hb : Below W.heap.size W W') : ViewM W' kb nb lb pb g nL O lowf kd v0 v1 v2 v4 a3 k3 :=
  ⟨(hb.block _ (heap_some_lt h.kind)).trans h.kind, (hb.block _ (heap_some_lt h.known)).trans h.known, (hb.block _ (heap_some_lt h.low)).trans h.low, (hb.block _ (heap_some_lt h.pol)).trans h.pol, World.rowIs.of_block h.row (hb.block _ (World.rowIs.lt h.row)), chans_on h.outs hb⟩
theorem one_cell {W : World} {b : Nat} {v : Value} {t : TypeId} (h : W.heap[b]? = some (.cells #[v] t)) : W.cell? ⟨b, 0, none⟩ = some v := by simp [World.cell?, h]
theorem two_cell {W : World} {b : Nat} {v u : Value} {t : TypeId} (h : W.heap[b]? = some (.cells #[v, u] t)) : W.cell? ⟨b, 0, none⟩ = some v ∧ W.cell? ⟨b, 1, none⟩ = some u := by constructor <;> simp [World.cell?, h]

end Go.Proofs.YtdkpnbjkehakjaaGreatDoor

/-! queue: the project's Seen -/
namespace Go.Proofs.YtdkpnbjkehakjaaGreatDoor
open Go.RowKit
def seenList (st : PSt) (S : List Int) (lv kd : Int) (es : List Ev) : List Ev := if lowsOk st S lv = true then es.filter (picksB st.L.length st.O (lowB S lv) kd) else []
theorem filter_no {p : Ev → Bool} {es : List Ev} {i : Nat} (hi : i < es.length) (h : p (evAt es i) = false) : (es.take (i + 1)).filter p = (es.take i).filter p := by
  unfold evAt at h
  rw [List.getElem?_eq_getElem hi, Option.getD_some] at h
  rw [List.take_succ_eq_append_getElem hi, List.filter_append, List.filter_cons_of_neg (by rw [h]; simp)]
  simp
theorem filter_yes {p : Ev → Bool} {es : List Ev} {i : Nat} (hi : i < es.length) (h : p (evAt es i) = true) : (es.take (i + 1)).filter p = (es.take i).filter p ++ [evAt es i] := by
  unfold evAt at h ⊢
  rw [List.getElem?_eq_getElem hi, Option.getD_some] at h ⊢
  rw [List.take_succ_eq_append_getElem hi, List.filter_append, List.filter_cons_of_pos h]
  simp
theorem filter_len (p : Ev → Bool) (es : List Ev) (i : Nat) : ((es.take i).filter p).length ≤ es.length := by
  have h1 := List.length_filter_le p (es.take i)
  rw [List.length_take] at h1
  omega
theorem ev_one (a b c d e : Int) : (#[.int .u8 a, .int .i64 b, .int .i64 c, .int .i64 d, .int .i64 e] : Array Value).all (·.oneCell') = true := by simp [Value.oneCell']
theorem ev_new (w : World) (x : Ev) (t : TypeId) {b : Nat} (h : w.heap.size = b) : ∀ (j : Nat) (u : Value), (evC x)[j]? = some u → (w.alloc (.cells #[.int .u8 x.k, .int .i64 x.r, .int .i64 x.v, .int .i64 x.f, .int .i64 x.a] t)).cell? ((⟨b, 0, none⟩ : Addr).add j) = some u := by
  subst h
  intro j u hj
  rw [Addr.add_lit]
  simp only [World.cell?, heap_alloc_new, Nat.zero_add]
  simpa [evC] using hj

end Go.Proofs.YtdkpnbjkehakjaaGreatDoor
