import Derived.Test.YtdkpnbjkehakjaaGreatDoorPolP
import Derived.Test.YtdkpnbjkehakjaaGreatDoorTextG
import Derived.Deep.RegionHeld3
import Derived.Deep.QuietTactic
import Derived.BigQuiet
import Derived.Deep.DrawnRows
import Derived.Deep.RegionLaw
set_option linter.unusedSimpArgs false
set_option linter.unusedVariables false
/-! policy: names: Word, isName, Contains -/
namespace Go.Proofs.YtdkpnbjkehakjaaGreatDoor
open Go.RowKit

theorem wordFrom_step (s : ByteArray) (f k : Nat) (l : List UInt8) (hl : (wordW k).toList = l) (h : (s.toList == l) = false) : wordFrom s (f + 1) k = wordFrom s f (k + 1) := by
  subst hl
  simp only [wordFrom]
  rw [if_neg (by intro e; rw [beq_iff_eq] at e; rw [e] at h; simp at h)]
theorem wordFrom_hit (s : ByteArray) (f k : Nat) (l : List UInt8) (hl : (wordW k).toList = l) (h : (s.toList == l) = true) : wordFrom s (f + 1) k = true := by
  subst hl
  simp only [wordFrom]
  rw [if_pos (by rw [beq_iff_eq] at h ⊢; exact h.symm)]
set_option maxRecDepth 100000 in
set_option maxHeartbeats 6400000 in
theorem word_any (s : ByteArray) (w : World) :
    Calls Tryz.prog 62 #[.string s] w fun e w' => e = .returned (.bool (wordB s)) ∧ w' = w := by
  have HW : Hid (wordB s = wordFrom s 26 0) := Lib.hid rfl
  cases h0 : (s.toList == [97, 114, 114, 97, 121])
  rotate_left
  · have HV := Lib.hid (HW.out.trans (wordFrom_hit s 25 0 _ (by rw [ByteArray.toList_eq]; rfl) h0))
    clear HW
    go_enter Tryz.func62, Tryz.ntmps62
    go_wp2_with fail
    go_ret
    exact ⟨ret_bool HV.out.symm, rfl⟩
  replace HW := Lib.hid (HW.out.trans (wordFrom_step s 25 0 _ (by rw [ByteArray.toList_eq]; rfl) h0))
  cases h1 : (s.toList == [102, 110])
  rotate_left
  · have HV := Lib.hid (HW.out.trans (wordFrom_hit s 24 1 _ (by rw [ByteArray.toList_eq]; rfl) h1))
    clear HW
    go_enter Tryz.func62, Tryz.ntmps62
    go_wp2_with fail
    go_ret
    exact ⟨ret_bool HV.out.symm, rfl⟩
  replace HW := Lib.hid (HW.out.trans (wordFrom_step s 24 1 _ (by rw [ByteArray.toList_eq]; rfl) h1))
  cases h2 : (s.toList == [99, 111, 110, 115, 116])
  rotate_left
  · have HV := Lib.hid (HW.out.trans (wordFrom_hit s 23 2 _ (by rw [ByteArray.toList_eq]; rfl) h2))
    clear HW
    go_enter Tryz.func62, Tryz.ntmps62
    go_wp2_with fail
    go_ret
    exact ⟨ret_bool HV.out.symm, rfl⟩
  replace HW := Lib.hid (HW.out.trans (wordFrom_step s 23 2 _ (by rw [ByteArray.toList_eq]; rfl) h2))
  cases h3 : (s.toList == [112, 104, 105])
  rotate_left
  · have HV := Lib.hid (HW.out.trans (wordFrom_hit s 22 3 _ (by rw [ByteArray.toList_eq]; rfl) h3))
    clear HW
    go_enter Tryz.func62, Tryz.ntmps62
    go_wp2_with fail
    go_ret
    exact ⟨ret_bool HV.out.symm, rfl⟩
  replace HW := Lib.hid (HW.out.trans (wordFrom_step s 22 3 _ (by rw [ByteArray.toList_eq]; rfl) h3))
  cases h4 : (s.toList == [108, 111, 97, 100])
  rotate_left
  · have HV := Lib.hid (HW.out.trans (wordFrom_hit s 21 4 _ (by rw [ByteArray.toList_eq]; rfl) h4))
    clear HW
    go_enter Tryz.func62, Tryz.ntmps62
    go_wp2_with fail
    go_ret
    exact ⟨ret_bool HV.out.symm, rfl⟩
  replace HW := Lib.hid (HW.out.trans (wordFrom_step s 21 4 _ (by rw [ByteArray.toList_eq]; rfl) h4))
  cases h5 : (s.toList == [119, 114, 97, 112])
  rotate_left
  · have HV := Lib.hid (HW.out.trans (wordFrom_hit s 20 5 _ (by rw [ByteArray.toList_eq]; rfl) h5))
    clear HW
    go_enter Tryz.func62, Tryz.ntmps62
    go_wp2_with fail
    go_ret
    exact ⟨ret_bool HV.out.symm, rfl⟩
  replace HW := Lib.hid (HW.out.trans (wordFrom_step s 20 5 _ (by rw [ByteArray.toList_eq]; rfl) h5))
  cases h6 : (s.toList == [115, 116, 111, 114, 101])
  rotate_left
  · have HV := Lib.hid (HW.out.trans (wordFrom_hit s 19 6 _ (by rw [ByteArray.toList_eq]; rfl) h6))
    clear HW
    go_enter Tryz.func62, Tryz.ntmps62
    go_wp2_with fail
    go_ret
    exact ⟨ret_bool HV.out.symm, rfl⟩
  replace HW := Lib.hid (HW.out.trans (wordFrom_step s 19 6 _ (by rw [ByteArray.toList_eq]; rfl) h6))
  cases h7 : (s.toList == [99, 97, 108, 108])
  rotate_left
  · have HV := Lib.hid (HW.out.trans (wordFrom_hit s 18 7 _ (by rw [ByteArray.toList_eq]; rfl) h7))
    clear HW
    go_enter Tryz.func62, Tryz.ntmps62
    go_wp2_with fail
    go_ret
    exact ⟨ret_bool HV.out.symm, rfl⟩
  replace HW := Lib.hid (HW.out.trans (wordFrom_step s 18 7 _ (by rw [ByteArray.toList_eq]; rfl) h7))
  cases h8 : (s.toList == [105, 110, 112, 117, 116])
  rotate_left
  · have HV := Lib.hid (HW.out.trans (wordFrom_hit s 17 8 _ (by rw [ByteArray.toList_eq]; rfl) h8))
    clear HW
    go_enter Tryz.func62, Tryz.ntmps62
    go_wp2_with fail
    go_ret
    exact ⟨ret_bool HV.out.symm, rfl⟩
  replace HW := Lib.hid (HW.out.trans (wordFrom_step s 17 8 _ (by rw [ByteArray.toList_eq]; rfl) h8))
  cases h9 : (s.toList == [111, 117, 116, 112, 117, 116])
  rotate_left
  · have HV := Lib.hid (HW.out.trans (wordFrom_hit s 16 9 _ (by rw [ByteArray.toList_eq]; rfl) h9))
    clear HW
    go_enter Tryz.func62, Tryz.ntmps62
    go_wp2_with fail
    go_ret
    exact ⟨ret_bool HV.out.symm, rfl⟩
  replace HW := Lib.hid (HW.out.trans (wordFrom_step s 16 9 _ (by rw [ByteArray.toList_eq]; rfl) h9))
  cases h10 : (s.toList == [114, 101, 108, 101, 97, 115, 101])
  rotate_left
  · have HV := Lib.hid (HW.out.trans (wordFrom_hit s 15 10 _ (by rw [ByteArray.toList_eq]; rfl) h10))
    clear HW
    go_enter Tryz.func62, Tryz.ntmps62
    go_wp2_with fail
    go_ret
    exact ⟨ret_bool HV.out.symm, rfl⟩
  replace HW := Lib.hid (HW.out.trans (wordFrom_step s 15 10 _ (by rw [ByteArray.toList_eq]; rfl) h10))
  cases h11 : (s.toList == [106, 117, 109, 112])
  rotate_left
  · have HV := Lib.hid (HW.out.trans (wordFrom_hit s 14 11 _ (by rw [ByteArray.toList_eq]; rfl) h11))
    clear HW
    go_enter Tryz.func62, Tryz.ntmps62
    go_wp2_with fail
    go_ret
    exact ⟨ret_bool HV.out.symm, rfl⟩
  replace HW := Lib.hid (HW.out.trans (wordFrom_step s 14 11 _ (by rw [ByteArray.toList_eq]; rfl) h11))
  cases h12 : (s.toList == [98, 114, 97, 110, 99, 104])
  rotate_left
  · have HV := Lib.hid (HW.out.trans (wordFrom_hit s 13 12 _ (by rw [ByteArray.toList_eq]; rfl) h12))
    clear HW
    go_enter Tryz.func62, Tryz.ntmps62
    go_wp2_with fail
    go_ret
    exact ⟨ret_bool HV.out.symm, rfl⟩
  replace HW := Lib.hid (HW.out.trans (wordFrom_step s 13 12 _ (by rw [ByteArray.toList_eq]; rfl) h12))
  cases h13 : (s.toList == [114, 101, 116, 117, 114, 110])
  rotate_left
  · have HV := Lib.hid (HW.out.trans (wordFrom_hit s 12 13 _ (by rw [ByteArray.toList_eq]; rfl) h13))
    clear HW
    go_enter Tryz.func62, Tryz.ntmps62
    go_wp2_with fail
    go_ret
    exact ⟨ret_bool HV.out.symm, rfl⟩
  replace HW := Lib.hid (HW.out.trans (wordFrom_step s 12 13 _ (by rw [ByteArray.toList_eq]; rfl) h13))
  cases h14 : (s.toList == [97, 100, 100])
  rotate_left
  · have HV := Lib.hid (HW.out.trans (wordFrom_hit s 11 14 _ (by rw [ByteArray.toList_eq]; rfl) h14))
    clear HW
    go_enter Tryz.func62, Tryz.ntmps62
    go_wp2_with fail
    go_ret
    exact ⟨ret_bool HV.out.symm, rfl⟩
  replace HW := Lib.hid (HW.out.trans (wordFrom_step s 11 14 _ (by rw [ByteArray.toList_eq]; rfl) h14))
  cases h15 : (s.toList == [115, 117, 98])
  rotate_left
  · have HV := Lib.hid (HW.out.trans (wordFrom_hit s 10 15 _ (by rw [ByteArray.toList_eq]; rfl) h15))
    clear HW
    go_enter Tryz.func62, Tryz.ntmps62
    go_wp2_with fail
    go_ret
    exact ⟨ret_bool HV.out.symm, rfl⟩
  replace HW := Lib.hid (HW.out.trans (wordFrom_step s 10 15 _ (by rw [ByteArray.toList_eq]; rfl) h15))
  cases h16 : (s.toList == [109, 117, 108])
  rotate_left
  · have HV := Lib.hid (HW.out.trans (wordFrom_hit s 9 16 _ (by rw [ByteArray.toList_eq]; rfl) h16))
    clear HW
    go_enter Tryz.func62, Tryz.ntmps62
    go_wp2_with fail
    go_ret
    exact ⟨ret_bool HV.out.symm, rfl⟩
  replace HW := Lib.hid (HW.out.trans (wordFrom_step s 9 16 _ (by rw [ByteArray.toList_eq]; rfl) h16))
  cases h17 : (s.toList == [100, 105, 118])
  rotate_left
  · have HV := Lib.hid (HW.out.trans (wordFrom_hit s 8 17 _ (by rw [ByteArray.toList_eq]; rfl) h17))
    clear HW
    go_enter Tryz.func62, Tryz.ntmps62
    go_wp2_with fail
    go_ret
    exact ⟨ret_bool HV.out.symm, rfl⟩
  replace HW := Lib.hid (HW.out.trans (wordFrom_step s 8 17 _ (by rw [ByteArray.toList_eq]; rfl) h17))
  cases h18 : (s.toList == [109, 111, 100])
  rotate_left
  · have HV := Lib.hid (HW.out.trans (wordFrom_hit s 7 18 _ (by rw [ByteArray.toList_eq]; rfl) h18))
    clear HW
    go_enter Tryz.func62, Tryz.ntmps62
    go_wp2_with fail
    go_ret
    exact ⟨ret_bool HV.out.symm, rfl⟩
  replace HW := Lib.hid (HW.out.trans (wordFrom_step s 7 18 _ (by rw [ByteArray.toList_eq]; rfl) h18))
  cases h19 : (s.toList == [97, 110, 100])
  rotate_left
  · have HV := Lib.hid (HW.out.trans (wordFrom_hit s 6 19 _ (by rw [ByteArray.toList_eq]; rfl) h19))
    clear HW
    go_enter Tryz.func62, Tryz.ntmps62
    go_wp2_with fail
    go_ret
    exact ⟨ret_bool HV.out.symm, rfl⟩
  replace HW := Lib.hid (HW.out.trans (wordFrom_step s 6 19 _ (by rw [ByteArray.toList_eq]; rfl) h19))
  cases h20 : (s.toList == [111, 114])
  rotate_left
  · have HV := Lib.hid (HW.out.trans (wordFrom_hit s 5 20 _ (by rw [ByteArray.toList_eq]; rfl) h20))
    clear HW
    go_enter Tryz.func62, Tryz.ntmps62
    go_wp2_with fail
    go_ret
    exact ⟨ret_bool HV.out.symm, rfl⟩
  replace HW := Lib.hid (HW.out.trans (wordFrom_step s 5 20 _ (by rw [ByteArray.toList_eq]; rfl) h20))
  cases h21 : (s.toList == [120, 111, 114])
  rotate_left
  · have HV := Lib.hid (HW.out.trans (wordFrom_hit s 4 21 _ (by rw [ByteArray.toList_eq]; rfl) h21))
    clear HW
    go_enter Tryz.func62, Tryz.ntmps62
    go_wp2_with fail
    go_ret
    exact ⟨ret_bool HV.out.symm, rfl⟩
  replace HW := Lib.hid (HW.out.trans (wordFrom_step s 4 21 _ (by rw [ByteArray.toList_eq]; rfl) h21))
  cases h22 : (s.toList == [115, 104, 108])
  rotate_left
  · have HV := Lib.hid (HW.out.trans (wordFrom_hit s 3 22 _ (by rw [ByteArray.toList_eq]; rfl) h22))
    clear HW
    go_enter Tryz.func62, Tryz.ntmps62
    go_wp2_with fail
    go_ret
    exact ⟨ret_bool HV.out.symm, rfl⟩
  replace HW := Lib.hid (HW.out.trans (wordFrom_step s 3 22 _ (by rw [ByteArray.toList_eq]; rfl) h22))
  cases h23 : (s.toList == [115, 104, 114])
  rotate_left
  · have HV := Lib.hid (HW.out.trans (wordFrom_hit s 2 23 _ (by rw [ByteArray.toList_eq]; rfl) h23))
    clear HW
    go_enter Tryz.func62, Tryz.ntmps62
    go_wp2_with fail
    go_ret
    exact ⟨ret_bool HV.out.symm, rfl⟩
  replace HW := Lib.hid (HW.out.trans (wordFrom_step s 2 23 _ (by rw [ByteArray.toList_eq]; rfl) h23))
  cases h24 : (s.toList == [101, 113])
  rotate_left
  · have HV := Lib.hid (HW.out.trans (wordFrom_hit s 1 24 _ (by rw [ByteArray.toList_eq]; rfl) h24))
    clear HW
    go_enter Tryz.func62, Tryz.ntmps62
    go_wp2_with fail
    go_ret
    exact ⟨ret_bool HV.out.symm, rfl⟩
  replace HW := Lib.hid (HW.out.trans (wordFrom_step s 1 24 _ (by rw [ByteArray.toList_eq]; rfl) h24))
  cases h25 : (s.toList == [108, 101, 115, 115])
  rotate_left
  · have HV := Lib.hid (HW.out.trans (wordFrom_hit s 0 25 _ (by rw [ByteArray.toList_eq]; rfl) h25))
    clear HW
    go_enter Tryz.func62, Tryz.ntmps62
    go_wp2_with fail
    go_ret
    exact ⟨ret_bool HV.out.symm, rfl⟩
  replace HW := Lib.hid (HW.out.trans (wordFrom_step s 0 25 _ (by rw [ByteArray.toList_eq]; rfl) h25))
  go_enter Tryz.func62, Tryz.ntmps62
  go_wp2_with fail
  go_ret
  exact ⟨ret_bool HW.out.symm, rfl⟩
/-- may a level or a channel be called s? -/
def pnameB (s : ByteArray) : Bool := nameB s && !wordB s
set_option maxRecDepth 100000 in
set_option maxHeartbeats 1600000 in
theorem isname_any (s : ByteArray) (w : World) (hs : s.size ≤ 562949953421312) :
    Calls Tryz.prog 40 #[.string s] w fun e w' => e = .returned (.bool (pnameB s)) ∧ Below w.heap.size w w' := by
  cases hn : nameB s
  · have HN := Lib.hid (show pnameB s = false by unfold pnameB; rw [hn]; rfl)
    go_enter Tryz.func40, Tryz.ntmps40
    go_wp2_with (first
      | (go_at_call 61; refine (name_any s _ hs).mono ?_; rintro e w' ⟨rfl, hb⟩; rw [hn]))
    go_ret
    exact ⟨ret_bool HN.out.symm, hb⟩
  · have HN := Lib.hid (show pnameB s = !wordB s by unfold pnameB; rw [hn]; rfl)
    go_enter Tryz.func40, Tryz.ntmps40
    go_wp2_with (first
      | (go_at_call 61; refine (name_any s _ hs).mono ?_; rintro e w' ⟨rfl, hb⟩; rw [hn])
      | (go_at_call 62; refine (word_any s _).mono ?_; rintro e w' ⟨rfl, rfl⟩))
    go_ret
    exact ⟨ret_bool HN.out.symm, hb⟩
set_option maxRecDepth 100000 in
set_option maxHeartbeats 1600000 in
theorem contains_q (v : Value) (ss : List ByteArray) (s : ByteArray) (n : Nat) (w : World) (hv : Strs n w v ss) (hx : ss.length ≤ 9223372036854775807) :
    Calls Tryz.prog 41 #[v, .string s] w fun e w' => e = .returned (.bool (decide (0 ≤ levelI ss s))) ∧ w' = w := by
  have HV := Lib.hid hv
  clear hv
  go_enter Tryz.func41, Tryz.ntmps41
  go_wp2_with (go_at_call 63; refine (index_q v ss s n _ HV.out hx).mono ?_; rintro e w' ⟨rfl, rfl⟩)
  go_ret
  exact ⟨rfl, rfl⟩
end Go.Proofs.YtdkpnbjkehakjaaGreatDoor

/-! policy: the line of a level -/
namespace Go.Proofs.YtdkpnbjkehakjaaGreatDoor
open Go.RowKit

theorem bdN {B : Nat} {a w : World} (h : Below B a w) (n : Nat) : Below B a (w.drewN n) := below_drewN h n
/-- a line's word -/
def wd6 (ws : List ByteArray) (k : Nat) : ByteArray := ws[k]?.getD ⟨#[]⟩
theorem Strs.one {n : Nat} {w : World} {v : Value} {ws : List ByteArray} (h : Strs n w v ws) (h0 : 0 < ws.length) :
    ∃ b off cap, v = .slice (some ⟨b, off, none⟩) ws.length cap ∧ b < n ∧ ws.length ≤ cap ∧ ∀ j, j < ws.length → w.cell? ⟨b, off + j, none⟩ = some (.string (wd6 ws j)) := by
  rcases h with ⟨_, rfl⟩ | ⟨b, off, cap, rfl, hb, hc, hcell⟩
  · simp at h0
  · exact ⟨b, off, cap, rfl, hb, hc, hcell⟩
/-- what a line does: to the reader, and the error that it answers -/
def LineP (B r : Nat) (w : World) (p : PSt × Int) (e : Ending) (w' : World) : Prop :=
  e = .returned (.int .i64 p.2) ∧ (∃ vL vI vO vF, RSt B r w' vL vI vO vF p.1) ∧ Step B r w w'
theorem LineP.same {B r : Nat} {w w' : World} {st : PSt} {k : Int} {p : PSt × Int} {vL vI vO vF : Value} (hS : RSt B r w vL vI vO vF st) (hb : Below w.heap.size w w') (hp : p = (st, k)) : LineP B r w p (.returned (.int .i64 k)) w' := by
  subst hp
  exact ⟨rfl, ⟨_, _, _, _, hS.below hb⟩, hS.step hb⟩
theorem LineP.next {B r : Nat} {w w1 w' : World} {st : PSt} {p : PSt × Int} {vL vI vO vF : Value} (hS : RSt B r w1 vL vI vO vF st) (hs : Step B r w w1) (hb : Below w1.heap.size w1 w') (hp : p = (st, 0)) : LineP B r w p (.returned (.int .i64 0)) w' := by
  subst hp
  exact ⟨rfl, ⟨_, _, _, _, hS.below hb⟩, hs.trans (hS.step hb)⟩
theorem level_range (ss : List ByteArray) (s : ByteArray) : -1 ≤ levelI ss s ∧ levelI ss s < ss.length := by
  unfold levelI
  rcases idx_range (sameAt ss s) ss.length 0 with h | ⟨j, _, h2, _, h4⟩
  · rw [h]; omega
  · rw [h4]; omega
theorem chan_range (ss : List (ByteArray × Int)) (s : ByteArray) : -1 ≤ chanI ss s ∧ chanI ss s < ss.length := by
  unfold chanI
  rcases idx_range (namedAt ss s) ss.length 0 with h | ⟨j, _, h2, _, h4⟩
  · rw [h]; omega
  · rw [h4]; omega

/-- no row of the reader is the block of a value -/
def FreeV (r : Nat) (w : World) (v : Value) : Prop := ∀ k, v.ownBlock = some k → Free r w k
theorem Free.not {B r k : Nat} {w : World} {vL vI vO vF : Value} {st : PSt} (h : Free r w k) (hS : RSt B r w vL vI vO vF st) : k ≠ r ∧ vL.ownBlock ≠ some k ∧ vI.ownBlock ≠ some k ∧ vO.ownBlock ≠ some k ∧ vF.ownBlock ≠ some k :=
  ⟨h.1, h.2 _ _ _ _ _ _ hS.obj⟩

theorem frozen_alloc_far (w : World) (o : Obj) (a : Addr) (h : a.block < w.heap.size) : (w.alloc o).frozen? a = w.frozen? a := World.frozen?_of_block (Below.heap_alloc w o a.block h)
theorem keepAlloc {w : World} {o : Obj} {r b c d : Nat} {x y : Value} (h0 : w.cell? ⟨r, c, none⟩ = some x) (h1 : w.cell? ⟨b, d, none⟩ = some y) (h2 : w.frozen? ⟨r, c, none⟩ = false) :
    (w.alloc o).cell? ⟨r, c, none⟩ = some x ∧ (w.alloc o).cell? ⟨b, d, none⟩ = some y ∧ (w.alloc o).frozen? ⟨r, c, none⟩ = false := by
  have l0 := World.block_lt_of_cell? w _ h0
  have l1 := World.block_lt_of_cell? w _ h1
  exact ⟨(World.cell?_of_block (Below.heap_alloc w o r l0)).trans h0, (World.cell?_of_block (Below.heap_alloc w o b l1)).trans h1, (frozen_alloc_far w o ⟨r, c, none⟩ l0).trans h2⟩
theorem drewN_heap (w : World) : ∀ n, (w.drewN n).heap = w.heap
  | 0 => rfl
  | n + 1 => by show (w.drewN n).drew.heap = w.heap; exact drewN_heap w n
theorem keepAllocE {w W : World} {o : Obj} {r b c d : Nat} {x y : Value} (h0 : w.cell? ⟨r, c, none⟩ = some x) (h1 : w.cell? ⟨b, d, none⟩ = some y) (h2 : w.frozen? ⟨r, c, none⟩ = false) (hW : W.heap = w.heap) :
    (W.alloc o).cell? ⟨r, c, none⟩ = some x ∧ (W.alloc o).cell? ⟨b, d, none⟩ = some y ∧ (W.alloc o).frozen? ⟨r, c, none⟩ = false :=
  keepAlloc ((World.cell?_of_block (by rw [hW])).trans h0) ((World.cell?_of_block (by rw [hW])).trans h1) ((World.frozen?_of_block (by rw [hW])).trans h2)
theorem drewN_heap1 (w : World) (n : Nat) : (w.drewN n).drew.heap = w.heap := drewN_heap w (n + 1)
theorem own_da {w W : World} {B e n size : Nat} {v : Value} {xs : List Value} (h : w.ownsRow B e size v n xs) (hW : W.heap = w.heap) (o : Obj) : (W.alloc o).ownsRow B e size v n xs :=
  own_of_block h fun k hk => (Below.heap_alloc W o k (by rw [hW]; exact (own_block h hk).2.1)).trans (by rw [hW])
theorem below_da {w : World} (m : Nat) (o : Obj) : Below w.heap.size w ((w.drewN m).alloc o) := (below_drewN (Below.refl _ _) m).alloc (by rw [drewN_heap]; exact Nat.le_refl _) o
theorem below_da1 {w : World} (m : Nat) (o : Obj) : Below w.heap.size w ((w.drewN m).drew.alloc o) := below_da (m + 1) o
theorem new_block {w W : World} {o : Obj} {n : Nat} (hW : W.heap = w.heap) (hn : w.heap.size = n) : (W.alloc o).heap[n]? = some o := by
  subst hn
  show (W.heap.push o)[w.heap.size]? = _
  rw [hW]; simp
theorem keepGrown {w w' : World} {row : Option Nat} {r b c d : Nat} {x y : Value} (hg : w.grownBy w' row) (hr : row ≠ some r) (hb : row ≠ some b) (h0 : w.cell? ⟨r, c, none⟩ = some x) (h1 : w.cell? ⟨b, d, none⟩ = some y) (h2 : w.frozen? ⟨r, c, none⟩ = false) :
    w'.cell? ⟨r, c, none⟩ = some x ∧ w'.cell? ⟨b, d, none⟩ = some y ∧ w'.frozen? ⟨r, c, none⟩ = false := by
  have l0 := World.block_lt_of_cell? w _ h0
  have l1 := World.block_lt_of_cell? w _ h1
  exact ⟨(hg.cell_far ⟨r, c, none⟩ l0 (Ne.symm hr)).trans h0, (hg.cell_far ⟨b, d, none⟩ l1 (Ne.symm hb)).trans h1, (hg.frozen_far ⟨r, c, none⟩ l0 (Ne.symm hr)).trans h2⟩

def levelP (st : PSt) (ws : List ByteArray) : PSt × Int :=
  if ws.length ≠ 2 then (st, 8) else if pnameB (wd6 ws 1) = false then (st, 8) else if 0 ≤ levelI st.L (wd6 ws 1) then (st, 9) else if st.L.length = 64 then (st, 3) else ({ st with L := st.L ++ [wd6 ws 1] }, 0)

set_option maxRecDepth 100000 in
set_option maxHeartbeats 3200000 in
theorem level6_any (B r n : Nat) (v : Value) (ws : List ByteArray) (w : World) (vL vI vO vF : Value) (st : PSt) (hS : RSt B r w vL vI vO vF st) (hv : Strs n w v ws) (hn : n ≤ w.heap.size) (hf : FreeV r w v) (hz : ∀ j, (wd6 ws j).size ≤ 65536) :
    Calls Tryz.prog 71 #[.pointer (some ⟨r, 0, none⟩), v] w (LineP B r w (levelP st ws)) := by
  obtain ⟨i0, hi, hz0, hz1, hz2⟩ := info_parts Tryz.infoStr6
  obtain ⟨aL, capL, rfl⟩ := hS.strs.form
  by_cases hl : ws.length = 2
  · obtain ⟨b, off, cap, hve, hb, hcap, hc⟩ := hv.one (by omega)
    have hc1 := hc 1 (by omega)
    have hz1' := hz 1
    rw [hl] at hve hcap
    obtain ⟨_, fL, _, _, _⟩ := (hf b (by rw [hve]; rfl)).not hS
    have HS := Lib.hid hS
    have hP : levelP st ws = if pnameB (wd6 ws 1) = false then (st, 8) else if 0 ≤ levelI st.L (wd6 ws 1) then (st, 9) else if st.L.length = 64 then (st, 3) else ({ st with L := st.L ++ [wd6 ws 1] }, 0) := by
      unfold levelP; rw [if_neg (by omega)]
    rw [hP]
    clear hP hc hl hz hv hf
    subst hve
    generalize wd6 ws 1 = s at *
    have hbw : b < w.heap.size := by omega
    have HC := Lib.hid hc1
    clear hc1 hS
    cases hp : pnameB s
    · rw [if_pos rfl]
      go_enter Tryz.func71, Tryz.ntmps71
      have hc1 := HC.out
      go_wp2_with fail
      refine (isname_any s _ (by omega)).mono ?_
      rintro e w1 ⟨rfl, hb1⟩
      rw [hp]
      go_wp2_with fail
      go_ret
      exact LineP.same HS.out hb1 rfl
    · rw [if_neg (by decide)]
      have hx : st.L.length ≤ 9223372036854775807 := by have := HS.out.nL; omega
      have hr := level_range st.L s
      by_cases h3 : 0 ≤ levelI st.L s
      · rw [if_pos h3]
        have HD := Lib.hid (decide_eq_true h3)
        clear h3
        go_enter Tryz.func71, Tryz.ntmps71
        have hc1 := HC.out
        go_wp2_with fail
        refine (isname_any s _ (by omega)).mono ?_
        rintro e w1 ⟨rfl, hb1⟩
        rw [hp]
        have HS1 := Lib.hid (HS.out.below hb1)
        obtain ⟨c0, c1', c2, c3, c4, c5⟩ := rObj_cell HS1.out.obj
        have hd1 := (hb1.cell (p := ⟨b, off + 1, none⟩) hbw).trans HC.out
        have HV := Lib.hid HS1.out.strs
        clear hc1
        go_wp2_with fail
        go_quiet ((go_at_call 41; exact Calls.quiet_of_same (contains_q _ _ _ _ _ HV.out hx)))
        rw [HD.out]
        go_wp2_with fail
        go_ret
        exact LineP.same HS.out (below_drewN hb1 _) rfl
      · rw [if_neg h3]
        have HD := Lib.hid (decide_eq_false h3)
        clear h3
        by_cases h4 : st.L.length = 64
        · rw [if_pos h4]
          have e4 : ((st.L.length : Int) == 64) = true := by rw [beq_iff_eq]; omega
          clear h4
          go_enter Tryz.func71, Tryz.ntmps71
          have hc1 := HC.out
          go_wp2_with fail
          refine (isname_any s _ (by omega)).mono ?_
          rintro e w1 ⟨rfl, hb1⟩
          rw [hp]
          have HS1 := Lib.hid (HS.out.below hb1)
          obtain ⟨c0, c1', c2, c3, c4, c5⟩ := rObj_cell HS1.out.obj
          have hd1 := (hb1.cell (p := ⟨b, off + 1, none⟩) hbw).trans HC.out
          have HV := Lib.hid HS1.out.strs
          clear hc1
          go_wp2_with fail
          go_quiet ((go_at_call 41; exact Calls.quiet_of_same (contains_q _ _ _ _ _ HV.out hx)))
          rw [HD.out]
          go_wp2_with fail
          go_ret
          exact LineP.same HS.out (below_drewN hb1 _) rfl
        · rw [if_neg h4]
          have e4 : ((st.L.length : Int) == 64) = false := by rw [beq_eq_false_iff_ne]; omega
          have h64 : st.L.length < 64 := by have := HS.out.nL; omega
          clear h4
          go_enter Tryz.func71, Tryz.ntmps71
          have hc1 := HC.out
          go_wp2_with fail
          refine (isname_any s _ (by omega)).mono ?_
          rintro e w1 ⟨rfl, hb1⟩
          rw [hp]
          have HS1 := Lib.hid (HS.out.below hb1)
          obtain ⟨c0, c1', c2, c3, c4, c5⟩ := rObj_cell HS1.out.obj
          have hd1 := (hb1.cell (p := ⟨b, off + 1, none⟩) hbw).trans HC.out
          have HV := Lib.hid HS1.out.strs
          have ar := own_other HS1.out.oL HS1.out.obj (by decide)
          clear hc1
          go_wp2_with fail
          go_quiet ((go_at_call 41; exact Calls.quiet_of_same (contains_q _ _ _ _ _ HV.out hx)))
          rw [HD.out]
          go_wp2_with fail
          have hrl := HS1.out.lt
          have hbl : b < w1.heap.size := Nat.lt_of_lt_of_le hbw hb1.size
          have hBl : B ≤ w1.heap.size := Nat.le_trans HS1.out.base (Nat.le_of_lt hrl)
          clear c1' c2 c3 c4 c5
          have f0 := rObj_frozen (k := 0) HS1.out.obj
          have kA : ∀ m o, ((w1.drewN m).alloc o).cell? ⟨r, 0, none⟩ = some (.slice aL st.L.length capL) := fun m o => (keepAllocE c0 hd1 f0 (drewN_heap _ _)).1
          go_region_law (first
            | (refine step_append_lies _ rfl (.tmp 36) (.tmp 40) 22 rfl B 9 i0 (.string ⟨#[]⟩) 1 16 Tryz.underlying22 hi hz0 hz1 hz2 rfl (by decide) (.slice aL st.L.length capL) st.L.length (st.L.map Value.string) rfl
                (own_da HS1.out.oL (by first | exact drewN_heap _ _ | exact drewN_heap1 _ _ | rfl) _) ⟨w1.heap.size, 0, none⟩ 1 1 [.string s] rfl rfl
                (World.news_of_block (cs := #[.string s]) (t := 9) (fr := (0, 0)) (new_block (by first | exact drewN_heap _ _ | exact drewN_heap1 _ _ | rfl) rfl)) (by simp [Value.oneCell']) (by decide) (by unfold maxLen; omega) (by omega) (by simp; omega) (w1.heap.size + 1) (by simp) ?_
               intro g cap2 w2 hown2 hgrow hat hlt2
               have hnx := Lib.hid (HS1.out.setL (x := s) (by first | exact below_da _ _ | exact below_da1 _ _) hgrow hown2 (hat.imp id fun e => by rw [e]; simp) h64)
               obtain ⟨k0, k1, k2⟩ := keepGrown hgrow ar fL (keepAllocE c0 hd1 f0 (by first | exact drewN_heap _ _ | exact drewN_heap1 _ _ | rfl)).1 (keepAllocE c0 hd1 f0 (by first | exact drewN_heap _ _ | exact drewN_heap1 _ _ | rfl)).2.1 (keepAllocE c0 hd1 f0 (by first | exact drewN_heap _ _ | exact drewN_heap1 _ _ | rfl)).2.2
               clear hown2 hgrow hat hlt2 k1))
          all_goals
            go_wp2_with fail
            go_ret
            exact LineP.next hnx.out.1 ((HS.out.step hb1).trans hnx.out.2) (Below.refl _ _) rfl

  · have e1 : ((ws.length : Int) != 2) = true := by rw [bne_iff_ne]; omega
    obtain ⟨a, cap, rfl⟩ := hv.form
    have HP := Lib.hid (show levelP st ws = (st, 8) by unfold levelP; rw [if_pos hl])
    have HS := Lib.hid hS
    clear hl hv hS
    go_enter Tryz.func71, Tryz.ntmps71
    go_wp2_with fail
    go_ret
    exact LineP.same HS.out (Below.refl _ _) HP.out
end Go.Proofs.YtdkpnbjkehakjaaGreatDoor
