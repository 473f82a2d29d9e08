import Derived.Test.YtaaicmldldkhhaaDoorBase
import Derived.RangeFuncBox
import Derived.Shelf.Spec.TrailingZeros
/-! the table by which the library finds a set's lowest number -/
namespace Go.Proofs.YtaaicmldldkhhaaDoor
set_option linter.unusedVariables false
open Go.RowKit

/-- block b is as it was -/
def KeptAt (b : Nat) (W W' : World) : Prop := W'.heap[b]? = W.heap[b]?
theorem KeptAt.trans {b : Nat} {A B C : World} (h : KeptAt b A B) (k : KeptAt b B C) : KeptAt b A C := Eq.trans (Eq.symm (Eq.symm k)) h
theorem KeptAt.cell {b : Nat} {W W' : World} (h : KeptAt b W W') (o : Nat) : W'.cell? ⟨b, o, none⟩ = W.cell? ⟨b, o, none⟩ := World.cell?_of_block (w := W) h
theorem KeptAt.of_below {n b : Nat} {W W' : World} (h : Below n W W') (hb : b < n) : KeptAt b W W' := h.block b hb
theorem KeptAt.setCell {b : Nat} (W : World) (a : Addr) (v : Value) (h : a.block ≠ b) : KeptAt b W (W.setCell a v) := Below.heap_setCell W a v b (fun e => h e.symm)
theorem KeptAt.refl (b : Nat) (W : World) : KeptAt b W W := rfl
theorem KeptAt.alloc {b : Nat} (W : World) (o : Obj) (h : b < W.heap.size) : KeptAt b W (W.alloc o) := Below.heap_alloc W o b h

/-- the variable that holds the table -/
abbrev tzG : Nat := 0
/-- the table lies in its variable -/
def Tz (w : World) : Prop := TabAt tzG Lib.deBruijn64tab w
theorem Tz.kept {A B : World} (h : Tz A) (k : KeptAt tzG A B) : Tz B := fun j hj => (k.cell j).trans (h j hj)
theorem Tz.lt {w : World} (h : Tz w) : tzG < w.heap.size := by
  have hc := h 0 (by decide)
  apply Classical.byContradiction; intro hn
  simp [World.cell?, Array.getElem?_eq_none (Nat.le_of_not_lt hn)] at hc
theorem Tz.on {w W : World} (h : Tz w) (hb : Below w.heap.size w W) : Tz W := h.kept (hb.block _ h.lt)
theorem Tz.alloc {w : World} (h : Tz w) (o : Obj) : Tz (w.alloc o) := h.kept (KeptAt.alloc w o h.lt)
theorem Tz.setCell {w : World} (h : Tz w) (a : Addr) (v : Value) (ha : a.block ≠ tzG) : Tz (w.setCell a v) := h.kept (KeptAt.setCell w a v ha)
theorem Tz.drewN {w : World} (h : Tz w) (d : Nat) : Tz (w.drewN d) := h
set_option maxHeartbeats 1000000 in
theorem tz_core (x k idx : Nat) (w : World) (hx0 : ((x : Int) == 0) = false)
    (key : IntKind.u64.wrap (bits BinOp.and IntKind.u64 (x : Int) (IntKind.u64.wrap (-(x : Int))) * 285870213051353865) / 288230376151711744 = (idx : Int))
    (hi : idx < 64) (hk : k < 64) (hcell : w.cell? ⟨tzG, idx, none⟩ = some (.int .u8 k)) :
    Calls Tryd.prog 55 #[.int .u64 x] w fun e w' => e = .returned (.int .i64 k) ∧ w' = w := by
  go_enter Tryd.func55, Tryd.ntmps55
  go_wp2_with (simp only [key])
  go_ret
  exact ⟨rfl, rfl⟩
/-- the lowest number of a set that is not empty -/
theorem tz_any (x : Nat) (w : World) (hx : x < 18446744073709551616) (hx0 : x ≠ 0) (hT : Tz w) :
    Calls Tryd.prog 55 #[.int .u64 x] w fun e w' => e = .returned (.int .i64 (Lib.ctz 64 x)) ∧ w' = w := by
  obtain ⟨hlow, hk⟩ := Lib.lowest_bit 64 x hx0 hx
  obtain ⟨hi, htab⟩ := Lib.deBruijn64_at _ hk
  have hcell := hT _ hi
  rw [htab] at hcell
  exact tz_core x _ _ w (by simp; omega) (tz64_key x _ hx hx0 hlow) hi hk hcell
end Go.Proofs.YtaaicmldldkhhaaDoor
