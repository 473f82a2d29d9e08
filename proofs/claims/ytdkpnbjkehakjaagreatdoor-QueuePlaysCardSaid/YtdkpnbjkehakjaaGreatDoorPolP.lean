import Derived.Test.YtdkpnbjkehakjaaGreatDoorBase
import Derived.Deep.Light
import Derived.WalkSmall
import Derived.Laws.OwnMore
import Derived.Laws.AppendOwn
import Derived.Lib.OthersKept
import Derived.Deep.AppendLies
import Derived.Maps.Own
import Derived.Maps.OwnOps
import Derived.Maps.Views
set_option linter.unusedSimpArgs false
set_option linter.unusedVariables false
/-! policy: slices of texts and of channels that a walk reads; the first place where something holds -/
namespace Go.Proofs.YtdkpnbjkehakjaaGreatDoor
open Go.RowKit

/-- the slice value v holds the texts ss, in a block below n₀; or it is empty and there are none -/
def Strs (n₀ : Nat) (W : World) (v : Value) (ss : List ByteArray) : Prop :=
  ((∃ a cap, v = .slice a 0 cap ∧ (a = none → cap = 0)) ∧ ss = []) ∨ ∃ b off cap, v = .slice (some ⟨b, off, none⟩) ss.length cap ∧ b < n₀ ∧ ss.length ≤ cap ∧ ∀ j, j < ss.length → W.cell? ⟨b, off + j, none⟩ = some (.string (ss[j]?.getD ⟨#[]⟩))
theorem Strs.below {n₀ : Nat} {A B : World} (h : Below n₀ A B) {v : Value} {ss : List ByteArray} : Strs n₀ A v ss → Strs n₀ B v ss
  | .inl e => .inl e
  | .inr ⟨b, off, cap, e, hb, hl, hc⟩ => .inr ⟨b, off, cap, e, hb, hl, fun j hj => (h.cell (p := ⟨b, off + j, none⟩) hb).trans (hc j hj)⟩
theorem Strs.mono {n n' : Nat} (h : n ≤ n') {A : World} {v : Value} {ss : List ByteArray} : Strs n A v ss → Strs n' A v ss
  | .inl e => .inl e
  | .inr ⟨b, off, cap, e, hb, hl, hc⟩ => .inr ⟨b, off, cap, e, by omega, hl, hc⟩
theorem Strs.form {n₀ : Nat} {A : World} {v : Value} {ss : List ByteArray} (h : Strs n₀ A v ss) : ∃ a cap, v = .slice a ss.length cap := by
  rcases h with ⟨⟨_, _, rfl, _⟩, rfl⟩ | ⟨b, off, cap, rfl, _⟩
  · exact ⟨_, _, rfl⟩
  · exact ⟨_, _, rfl⟩

/-- the slice value v holds the channels cs: names and numbers -/
def Chans (n₀ : Nat) (W : World) (v : Value) (cs : List (ByteArray × Int)) : Prop :=
  ((∃ a cap, v = .slice a 0 cap ∧ (a = none → cap = 0)) ∧ cs = []) ∨ ∃ b off cap, v = .slice (some ⟨b, off, none⟩) cs.length cap ∧ b < n₀ ∧ cs.length ≤ cap ∧ ∀ j, j < cs.length → W.cell? ⟨b, off + j * 2, none⟩ = some (.string (cs[j]?.getD (⟨#[]⟩, 0)).1) ∧ W.cell? ⟨b, off + j * 2 + 1, none⟩ = some (.int .i64 (cs[j]?.getD (⟨#[]⟩, 0)).2)
theorem Chans.below {n₀ : Nat} {A B : World} (h : Below n₀ A B) {v : Value} {cs : List (ByteArray × Int)} : Chans n₀ A v cs → Chans n₀ B v cs
  | .inl e => .inl e
  | .inr ⟨b, off, cap, e, hb, hl, hc⟩ => .inr ⟨b, off, cap, e, hb, hl, fun j hj => ⟨(h.cell (p := ⟨b, off + j * 2, none⟩) hb).trans (hc j hj).1, (h.cell (p := ⟨b, off + j * 2 + 1, none⟩) hb).trans (hc j hj).2⟩⟩
theorem Chans.mono {n n' : Nat} (h : n ≤ n') {A : World} {v : Value} {cs : List (ByteArray × Int)} : Chans n A v cs → Chans n' A v cs
  | .inl e => .inl e
  | .inr ⟨b, off, cap, e, hb, hl, hc⟩ => .inr ⟨b, off, cap, e, by omega, hl, hc⟩
theorem Chans.form {n₀ : Nat} {A : World} {v : Value} {cs : List (ByteArray × Int)} (h : Chans n₀ A v cs) : ∃ a cap, v = .slice a cs.length cap := by
  rcases h with ⟨⟨_, _, rfl, _⟩, rfl⟩ | ⟨b, off, cap, rfl, _⟩
  · exact ⟨_, _, rfl⟩
  · exact ⟨_, _, rfl⟩

/-- the first number from k on, of f, where p holds; -1: none -/
def idxFrom (p : Nat → Bool) : Nat → Nat → Int
  | 0, _ => -1
  | f + 1, k => if p k = true then (k : Int) else idxFrom p f (k + 1)
def sameAt (ss : List ByteArray) (s : ByteArray) (k : Nat) : Bool := (ss[k]?.getD ⟨#[]⟩).toList == s.toList
def namedAt (cs : List (ByteArray × Int)) (s : ByteArray) (k : Nat) : Bool := (cs[k]?.getD (⟨#[]⟩, 0)).1.toList == s.toList
/-- where s stands -/
def levelI (ss : List ByteArray) (s : ByteArray) : Int := idxFrom (sameAt ss s) ss.length 0
/-- where the channel s stands -/
def chanI (cs : List (ByteArray × Int)) (s : ByteArray) : Int := idxFrom (namedAt cs s) cs.length 0
end Go.Proofs.YtdkpnbjkehakjaaGreatDoor

/-! policy: the reference's Level and Channel -/
namespace Go.Proofs.YtdkpnbjkehakjaaGreatDoor
open Go.RowKit

/-- the block of an argument that is a policy -/
theorem pol_block (w : World) (v u1 u2 u3 u4 : Value) (t : TypeId) : (w.alloc (.cells #[v, u1, u2, u3, u4] t)).cell? ⟨w.heap.size, 0, none⟩ = some v ∧ (w.alloc (.cells #[v, u1, u2, u3, u4] t)).cell? ⟨w.heap.size, 1, none⟩ = some u1 ∧
    (w.alloc (.cells #[v, u1, u2, u3, u4] t)).cell? ⟨w.heap.size, 2, none⟩ = some u2 ∧ (w.alloc (.cells #[v, u1, u2, u3, u4] t)).cell? ⟨w.heap.size, 3, none⟩ = some u3 ∧ (w.alloc (.cells #[v, u1, u2, u3, u4] t)).cell? ⟨w.heap.size, 4, none⟩ = some u4 := by
  have e : (w.alloc (.cells #[v, u1, u2, u3, u4] t)).heap[w.heap.size]? = some (.cells #[v, u1, u2, u3, u4] t) := by show (w.heap.push _)[w.heap.size]? = _; simp
  refine ⟨?_, ?_, ?_, ?_, ?_⟩ <;> (simp only [World.cell?, e]; rfl)

set_option maxRecDepth 100000 in
set_option maxHeartbeats 1600000 in
theorem rlevel_any (v u1 u2 u3 u4 : Value) (ss : List ByteArray) (s : ByteArray) (n : Nat) (w : World) (hn : n ≤ w.heap.size) (hv : Strs n w v ss) (hx : ss.length ≤ 9223372036854775807) :
    Calls Tryz.prog 44 #[.agg #[v, u1, u2, u3, u4], .string s] w fun e w' => e = .returned (.int .i64 (levelI ss s)) ∧ Below w.heap.size w w' := by
  obtain ⟨a, cap, rfl⟩ := hv.form
  have hB : Below w.heap.size w (w.alloc (.cells #[.slice a ss.length cap, u1, u2, u3, u4] 26)) := (Below.refl _ _).alloc (Nat.le_refl _) _
  have hb := (pol_block w (.slice a ss.length cap) u1 u2 u3 u4 26).1
  have hV := (hv.mono hn).below hB
  have HV := Lib.hid hV
  have HB := Lib.hid hB
  clear hv hV hB
  go_enter Tryz.func44, Tryz.ntmps44
  go_wp2_with fail
  generalize w.alloc (.cells #[.slice a ss.length cap, u1, u2, u3, u4] 26) = W at hb HV HB
  go_loop [5] (fun k => ∃ j : Nat, j ≤ ss.length ∧ k = .int .i64 (j : Int) ∧ RowKit.Hid (levelI ss s = idxFrom (sameAt ss s) (ss.length - j) j)) (fun k => ss.length - (intOf k).toNat)
  case atStart => exact ⟨0, Nat.zero_le _, rfl, rfl⟩
  case round =>
    obtain ⟨j, hj, rfl, HP⟩ := hrel
    by_cases hlt : j < ss.length
    · have hs : ∃ b off, a = some ⟨b, off, none⟩ ∧ W.cell? ⟨b, off + j, none⟩ = some (.string (ss[j]?.getD ⟨#[]⟩)) := by
        rcases HV.out with ⟨_, h⟩ | ⟨b, off, cap', he, _, _, hc⟩
        · rw [h] at hlt; exact absurd hlt (by simp)
        · injection he with h1 h2 h3
          exact ⟨b, off, h1, hc j hlt⟩
      obtain ⟨b, off, rfl, hc⟩ := hs
      have ht' : sameAt ss s j = ((ss[j]?.getD ⟨#[]⟩).toList == s.toList) := rfl
      generalize ss[j]?.getD ⟨#[]⟩ = q at hc ht'
      cases ht : (q.toList == s.toList)
      · have HN := Lib.hid (show levelI ss s = idxFrom (sameAt ss s) (ss.length - (j + 1)) (j + 1) by
          rw [HP.out, show ss.length - j = (ss.length - (j + 1)) + 1 by omega]; simp only [idxFrom]; rw [if_neg (by rw [ht', ht]; decide)])
        clear ht'
        go_wp2_with fail
        go_round
        case rel => exact ⟨j + 1, by omega, by go_num, HN⟩
        case measure => simp [intOf]; omega
      · have HN := Lib.hid (show levelI ss s = (j : Int) by
          rw [HP.out, show ss.length - j = (ss.length - (j + 1)) + 1 by omega]; simp only [idxFrom]; rw [if_pos (by rw [ht', ht])])
        clear ht'
        go_wp2_with fail
        go_ret
        exact ⟨by rw [HN.out]; rfl, HB.out⟩
    · obtain rfl : j = ss.length := by omega
      go_wp2_with fail
      go_ret
      exact ⟨by rw [HP.out, Nat.sub_self]; rfl, HB.out⟩
set_option maxRecDepth 100000 in
set_option maxHeartbeats 1600000 in
theorem rchan_any (v : Value) (ss : List (ByteArray × Int)) (s : ByteArray) (n : Nat) (w : World) (hn : n ≤ w.heap.size) (hv : Chans n w v ss) (hx : ss.length ≤ 9223372036854775807) :
    Calls Tryz.prog 69 #[v, .string s] w fun e w' => e = .returned (.int .i64 (chanI ss s)) ∧ Below w.heap.size w w' := by
  obtain ⟨a, cap, rfl⟩ := hv.form
  have HV := Lib.hid hv
  clear hv
  go_enter Tryz.func69, Tryz.ntmps69
  go_wp2_with fail
  go_loop [5] (fun k => ∃ j : Nat, j ≤ ss.length ∧ k = .int .i64 (j : Int) ∧ RowKit.Hid (chanI ss s = idxFrom (namedAt ss s) (ss.length - j) j)) (fun k => ss.length - (intOf k).toNat)
  case atStart => exact ⟨0, Nat.zero_le _, rfl, rfl⟩
  case round =>
    obtain ⟨j, hj, rfl, HP⟩ := hrel
    by_cases hlt : j < ss.length
    · have hs : ∃ b off, a = some ⟨b, off, none⟩ ∧ w.cell? ⟨b, off + j * 2, none⟩ = some (.string (ss[j]?.getD (⟨#[]⟩, 0)).1) := by
        rcases HV.out with ⟨_, h⟩ | ⟨b, off, cap', he, _, _, hc⟩
        · rw [h] at hlt; exact absurd hlt (by simp)
        · injection he with h1 h2 h3
          exact ⟨b, off, h1, (hc j hlt).1⟩
      obtain ⟨b, off, rfl, hc⟩ := hs
      have ht' : namedAt ss s j = ((ss[j]?.getD (⟨#[]⟩, 0)).1.toList == s.toList) := rfl
      generalize (ss[j]?.getD (⟨#[]⟩, 0)).1 = q at hc ht'
      cases ht : (q.toList == s.toList)
      · have HN := Lib.hid (show chanI ss s = idxFrom (namedAt ss s) (ss.length - (j + 1)) (j + 1) by
          rw [HP.out, show ss.length - j = (ss.length - (j + 1)) + 1 by omega]; simp only [idxFrom]; rw [if_neg (by rw [ht', ht]; decide)])
        clear ht'
        go_wp2_with fail
        go_round
        case rel => exact ⟨j + 1, by omega, by go_num, HN⟩
        case measure => simp [intOf]; omega
      · have HN := Lib.hid (show chanI ss s = (j : Int) by
          rw [HP.out, show ss.length - j = (ss.length - (j + 1)) + 1 by omega]; simp only [idxFrom]; rw [if_pos (by rw [ht', ht])])
        clear ht'
        go_wp2_with fail
        go_ret
        exact ⟨by rw [HN.out]; rfl, Below.refl _ _⟩
    · obtain rfl : j = ss.length := by omega
      go_wp2_with fail
      go_ret
      exact ⟨by rw [HP.out, Nat.sub_self]; rfl, Below.refl _ _⟩
end Go.Proofs.YtdkpnbjkehakjaaGreatDoor

/-! policy: Level, Input, Output -/
namespace Go.Proofs.YtdkpnbjkehakjaaGreatDoor
open Go.RowKit

set_option maxRecDepth 100000 in
set_option maxHeartbeats 1600000 in
theorem index_q (v : Value) (ss : List ByteArray) (s : ByteArray) (n : Nat) (w : World) (hv : Strs n w v ss) (hx : ss.length ≤ 9223372036854775807) :
    Calls Tryz.prog 63 #[v, .string s] w fun e w' => e = .returned (.int .i64 (levelI ss s)) ∧ w' = w := by
  obtain ⟨a, cap, rfl⟩ := hv.form
  have HV := Lib.hid hv
  clear hv
  go_enter Tryz.func63, Tryz.ntmps63
  go_wp2_with fail
  go_loop [8] (fun k => ∃ j : Nat, j ≤ ss.length ∧ k = .int .i64 (j : Int) ∧ RowKit.Hid (levelI ss s = idxFrom (sameAt ss s) (ss.length - j) j)) (fun k => ss.length - (intOf k).toNat)
  case atStart => exact ⟨0, Nat.zero_le _, rfl, rfl⟩
  case round =>
    obtain ⟨j, hj, rfl, HP⟩ := hrel
    by_cases hlt : j < ss.length
    · have hs : ∃ b off, a = some ⟨b, off, none⟩ ∧ w.cell? ⟨b, off + j, none⟩ = some (.string (ss[j]?.getD ⟨#[]⟩)) := by
        rcases HV.out with ⟨_, h⟩ | ⟨b, off, cap', he, _, _, hc⟩
        · rw [h] at hlt; exact absurd hlt (by simp)
        · injection he with h1 h2 h3
          exact ⟨b, off, h1, hc j hlt⟩
      obtain ⟨b, off, rfl, hc⟩ := hs
      have ht' : sameAt ss s j = (s.toList == (ss[j]?.getD ⟨#[]⟩).toList) := by unfold sameAt; rw [Bool.eq_iff_iff, beq_iff_eq, beq_iff_eq]; exact eq_comm
      generalize ss[j]?.getD ⟨#[]⟩ = q at hc ht'
      cases ht : (s.toList == q.toList)
      · have HN := Lib.hid (show levelI ss s = idxFrom (sameAt ss s) (ss.length - (j + 1)) (j + 1) by
          rw [HP.out, show ss.length - j = (ss.length - (j + 1)) + 1 by omega]; simp only [idxFrom]; rw [if_neg (by rw [ht', ht]; decide)])
        clear ht'
        go_wp2_with fail
        go_round
        case rel => exact ⟨j + 1, by omega, by go_num, HN⟩
        case measure => simp [intOf]; omega
      · have HN := Lib.hid (show levelI ss s = (j : Int) by
          rw [HP.out, show ss.length - j = (ss.length - (j + 1)) + 1 by omega]; simp only [idxFrom]; rw [if_pos (by rw [ht', ht])])
        clear ht'
        go_wp2_with fail
        go_ret
        exact ⟨by rw [HN.out]; rfl, rfl⟩
    · obtain rfl : j = ss.length := by omega
      go_wp2_with fail
      go_ret
      exact ⟨by rw [HP.out, Nat.sub_self]; rfl, rfl⟩
theorem index_strs (v : Value) (ss : List ByteArray) (s : ByteArray) (n : Nat) (w : World) (hv : Strs n w v ss) (hx : ss.length ≤ 9223372036854775807) :
    Calls Tryz.prog 63 #[v, .string s] w fun e w' => e = .returned (.int .i64 (levelI ss s)) ∧ Below w.heap.size w w' :=
  (index_q v ss s n w hv hx).mono fun e w' ⟨h, h2⟩ => ⟨h, by rw [h2]; exact Below.refl _ _⟩
set_option maxRecDepth 100000 in
set_option maxHeartbeats 1600000 in
theorem find1_any (q s : ByteArray) (x : Int) (g : Nat) (w : World) (hg : g < w.heap.size) (hs : w.cell? ⟨g, 0, none⟩ = some (.string s)) :
    Calls Tryz.prog 113 #[.agg #[.string q, .int .i64 x], .pointer (some ⟨g, 0, none⟩)] w fun e w' => e = .returned (.bool (q.toList == s.toList)) ∧ Below w.heap.size w w' := by
  have hB : Below w.heap.size w (w.alloc (.cells #[.string q, .int .i64 x] 101)) := (Below.refl _ _).alloc (Nat.le_refl _) _
  have hc : (w.alloc (.cells #[.string q, .int .i64 x] 101)).cell? ⟨w.heap.size, 0, none⟩ = some (.string q) := by
    have e : (w.alloc (.cells #[.string q, .int .i64 x] 101)).heap[w.heap.size]? = some (.cells #[.string q, .int .i64 x] 101) := by show (w.heap.push _)[w.heap.size]? = _; simp
    simp only [World.cell?, e]; rfl
  have hs' := (hB.cell (p := ⟨g, 0, none⟩) hg).trans hs
  have HB := Lib.hid hB
  clear hs hB
  go_enter Tryz.func113, Tryz.ntmps113
  go_wp2_with fail
  go_ret
  exact ⟨rfl, HB.out⟩
set_option maxRecDepth 100000 in
set_option maxHeartbeats 1600000 in
theorem idxfunc_chans (v : Value) (cs : List (ByteArray × Int)) (s : ByteArray) (g : Nat) (w : World) (hv : Chans w.heap.size w v cs) (hg : g < w.heap.size) (hs : w.cell? ⟨g, 0, none⟩ = some (.string s)) (hx : cs.length ≤ 9223372036854775807) :
    Calls Tryz.prog 112 #[v, .func (.func 113) #[] #[.pointer (some ⟨g, 0, none⟩)]] w fun e w' => e = .returned (.int .i64 (chanI cs s)) ∧ Below w.heap.size w w' := by
  obtain ⟨a, cap, rfl⟩ := hv.form
  have HV := Lib.hid hv
  have HS := Lib.hid hs
  have HG := Lib.hid hg
  clear hv hs hg
  go_enter Tryz.func112, Tryz.ntmps112
  go_wp2_with fail
  go_loopw [8] (fun k wr => ∃ j : Nat, j ≤ cs.length ∧ k = .int .i64 (j : Int) ∧ RowKit.Hid (Below w.heap.size w wr) ∧ RowKit.Hid (chanI cs s = idxFrom (namedAt cs s) (cs.length - j) j)) (fun k _ => cs.length - (intOf k).toNat)
  case atStart => exact ⟨0, Nat.zero_le _, rfl, Lib.hid (Below.refl _ _), rfl⟩
  case round =>
    obtain ⟨j, hj, rfl, HB, HP⟩ := hrel
    by_cases hlt : j < cs.length
    · have hs : ∃ b off, a = some ⟨b, off, none⟩ ∧ b < w.heap.size ∧ w.cell? ⟨b, off + j * 2, none⟩ = some (.string (cs[j]?.getD (⟨#[]⟩, 0)).1) ∧ w.cell? ⟨b, off + j * 2 + 1, none⟩ = some (.int .i64 (cs[j]?.getD (⟨#[]⟩, 0)).2) := by
        rcases HV.out with ⟨_, h⟩ | ⟨b, off, cap', he, hb, _, hc⟩
        · rw [h] at hlt; exact absurd hlt (by simp)
        · injection he with h1 h2 h3
          exact ⟨b, off, h1, hb, hc j hlt⟩
      obtain ⟨b, off, rfl, hb, c1, c2⟩ := hs
      have d1 := (HB.out.cell (p := ⟨b, off + j * 2, none⟩) hb).trans c1
      have d2 := (HB.out.cell (p := ⟨b, off + j * 2 + 1, none⟩) hb).trans c2
      have hs := (HB.out.cell (p := ⟨g, 0, none⟩) HG.out).trans HS.out
      have hg := Nat.lt_of_lt_of_le HG.out HB.out.size
      have ht' : namedAt cs s j = ((cs[j]?.getD (⟨#[]⟩, 0)).1.toList == s.toList) := rfl
      generalize (cs[j]?.getD (⟨#[]⟩, 0)).1 = q at c1 d1 ht'
      generalize (cs[j]?.getD (⟨#[]⟩, 0)).2 = x at c2 d2
      clear c1 c2 hb
      cases ht : (q.toList == s.toList)
      · have HN := Lib.hid (show chanI cs s = idxFrom (namedAt cs s) (cs.length - (j + 1)) (j + 1) by
          rw [HP.out, show cs.length - j = (cs.length - (j + 1)) + 1 by omega]; simp only [idxFrom]; rw [if_neg (by rw [ht', ht]; decide)])
        clear ht'
        go_wp2_with (go_at_call 113; refine (find1_any q s x g _ hg hs).mono ?_; rintro e w' ⟨rfl, hbn⟩; rw [ht])
        go_roundw
        case rel => exact ⟨j + 1, by omega, by go_num, Lib.hid (HB.out.trans (hbn.mono HB.out.size)), HN⟩
        case measure => simp [intOf]; omega
      · have HN := Lib.hid (show chanI cs s = (j : Int) by
          rw [HP.out, show cs.length - j = (cs.length - (j + 1)) + 1 by omega]; simp only [idxFrom]; rw [if_pos (by rw [ht', ht])])
        clear ht'
        go_wp2_with (go_at_call 113; refine (find1_any q s x g _ hg hs).mono ?_; rintro e w' ⟨rfl, hbn⟩; rw [ht])
        go_ret
        exact ⟨by rw [HN.out]; rfl, HB.out.trans (hbn.mono HB.out.size)⟩
    · obtain rfl : j = cs.length := by omega
      go_wp2_with fail
      go_ret
      exact ⟨by rw [HP.out, Nat.sub_self]; rfl, HB.out⟩

set_option maxRecDepth 100000 in
set_option maxHeartbeats 1600000 in
theorem find_chans (v : Value) (cs : List (ByteArray × Int)) (s : ByteArray) (w : World) (hv : Chans w.heap.size w v cs) (hx : cs.length ≤ 9223372036854775807) :
    Calls Tryz.prog 104 #[v, .string s] w fun e w' => e = .returned (.int .i64 (chanI cs s)) ∧ Below w.heap.size w w' := by
  obtain ⟨a, cap, rfl⟩ := hv.form
  have hB : Below w.heap.size w (w.alloc (.cells #[.string s] 9)) := (Below.refl _ _).alloc (Nat.le_refl _) _
  have hc : (w.alloc (.cells #[.string s] 9)).cell? ⟨w.heap.size, 0, none⟩ = some (.string s) := by
    have e : (w.alloc (.cells #[.string s] 9)).heap[w.heap.size]? = some (.cells #[.string s] 9) := by show (w.heap.push _)[w.heap.size]? = _; simp
    simp only [World.cell?, e]; rfl
  have hg : w.heap.size < (w.alloc (.cells #[.string s] 9)).heap.size := by simp
  have hk := idxfunc_chans (.slice a cs.length cap) cs s w.heap.size _ ((hv.below hB).mono hB.size) hg hc hx
  have HK := Lib.hid hk
  have HB := Lib.hid hB
  clear hv hB hk hg hc
  go_enter Tryz.func104, Tryz.ntmps104
  go_wp2_with (go_at_call 112; refine HK.out.mono ?_; rintro e w' ⟨rfl, hbn⟩)
  go_ret
  exact ⟨rfl, HB.out.trans (hbn.mono HB.out.size)⟩
/-- what found makes of a number -/
def fI (i : Int) : Int := if i < 0 then 0 else i
def fB (i : Int) : Bool := !decide (i < 0)
theorem idx_range (p : Nat → Bool) : ∀ f k, idxFrom p f k = -1 ∨ ∃ j : Nat, k ≤ j ∧ j < k + f ∧ p j = true ∧ idxFrom p f k = (j : Int)
  | 0, _ => .inl rfl
  | f + 1, k => by
    unfold idxFrom
    by_cases h : p k = true
    · rw [if_pos h]; exact .inr ⟨k, Nat.le_refl _, by omega, h, rfl⟩
    · rw [if_neg h]
      rcases idx_range p f (k + 1) with h1 | ⟨j, h1, h2, h3, h4⟩
      · exact .inl h1
      · exact .inr ⟨j, by omega, by omega, h3, h4⟩
end Go.Proofs.YtdkpnbjkehakjaaGreatDoor

/-! policy: copies: 'append([]T{}, xs...)' of any xs, one that is not there too -/
namespace Go.Proofs.YtdkpnbjkehakjaaGreatDoor
open Go.RowKit
section
variable {P : Program} {w : World}
theorem wpList_append_any {ops : Array Oper} {rest : List Oper} {o : Oper} {a : Act} {Q : Exit → Act → World → Prop} (hgd : o.guard = none) (s x : Operand) (t : TypeId)
    (ho : o.op = .call { callee := .builtin .append, args := #[s, x], argTypes := #[t, t] })
    (base : Nat) (e : TypeId) (i : TypeInfo) (z : Value) (size bytes : Nat) (ht : P.underlying t = some (.slice e)) (hi : P.info? e = some i) (hz : i.zero = some z)
    (hsize : i.size = size) (hby : i.bytes = bytes) (hzs : z.cells.size = size) (hsz : 0 < size)
    (v : Value) (n : Nat) (xs : List Value) (hs : a.eval s = v) (hown : w.ownsRow base e size v n xs)
    (xv : Value) (m : Nat) (news : List Value) (hx : a.eval x = xv) (hl : news.length = m * size)
    (hsrc : xv = .slice none 0 0 ∧ m = 0 ∨ ∃ ad c, xv = .slice (some ad) m c ∧ ∀ j u, news[j]? = some u → w.cell? (ad.add j) = some u) (h1 : ∀ u ∈ news, u.oneCell' = true)
    (h63 : n + m ≤ maxLen) (hbytes : (n + m) * bytes ≤ 140737488355328) (hbase : base ≤ w.heap.size)
    (h : ∀ v' w', w'.ownsRow base e size v' (n + m) (xs ++ news) → w.grownBy w' v.ownBlock → wpList P ops Q rest (a.put o.dst v') w') :
    wpList P ops Q (o :: rest) a w := by
  rcases hsrc with ⟨rfl, rfl⟩ | ⟨ad, c, rfl, hn⟩
  · have hn : news = [] := List.eq_nil_of_length_eq_zero (by simpa using hl)
    subst hn
    have hr := run_append_owned_none (P := P) (w := w) base t o.type e i size ht hi v n xs hown
    refine wpList_plain hgd fun K hK => ?_
    unfold Oper.wp execOp
    simp only [ho, resolve, invoke, builtin, Sem.run_bind, Sem.run_pure, Result.andThen_ok, List.map_toArray, List.map_cons, List.map_nil, hs, hx, hr]
    exact hK _ _ (h v w (by simpa using hown) ⟨rfl, rfl, rfl, Nat.le_refl _, fun _ _ _ => rfl⟩)
  · exact wpList_append_own w hgd s x t ho base e i z size bytes ht hi hz hsize hby hzs hsz v n xs hs hown ad m c news hx hl hn h1 h63 hbytes hbase (fun v' w' p1 p2 _ => h v' w' p1 p2)
end
/-- texts as the source of a copy -/
theorem Strs.src {n₀ : Nat} {W : World} {v : Value} {ss : List ByteArray} (h : Strs n₀ W v ss) :
    v = .slice none 0 0 ∧ ss.length = 0 ∨ ∃ ad c, v = .slice (some ad) ss.length c ∧ ∀ j u, (ss.map Value.string)[j]? = some u → W.cell? (ad.add j) = some u := by
  rcases h with ⟨⟨a, cap, rfl, hn⟩, rfl⟩ | ⟨b, off, cap, rfl, _, _, hc⟩
  · cases a with
    | none => rw [hn rfl]; exact .inl ⟨rfl, rfl⟩
    | some x => exact .inr ⟨x, cap, rfl, fun j u hj => by simp at hj⟩
  · refine .inr ⟨_, cap, rfl, fun j u hj => ?_⟩
    rw [List.getElem?_map] at hj
    cases hj' : ss[j]? with
    | none => rw [hj'] at hj; cases hj
    | some q =>
      rw [hj'] at hj
      obtain ⟨hl, _⟩ := List.getElem?_eq_some_iff.1 hj'
      have := hc j hl
      rw [hj'] at this
      rw [Addr.add_lit]
      exact this.trans (by simpa using hj)
theorem strs_of_row {W : World} {base : Nat} {e : TypeId} {v : Value} {l : List ByteArray} (h : W.ownsRow base e 1 v l.length (l.map Value.string)) : Strs W.heap.size W v l := by
  have hlt := h.lt
  obtain ⟨_, ⟨rfl, h0⟩ | ⟨g, cap, cur, rfl, hb, hg, hn, hm, hs, hx⟩⟩ := h
  · exact .inl ⟨⟨_, _, rfl, fun _ => rfl⟩, List.length_eq_zero_iff.1 h0⟩
  · refine .inr ⟨g, 0, cap, rfl, (hlt g rfl).2, hn, fun j hj => ?_⟩
    have hx' : cur.toList[j]? = some (.string (l[j]?.getD ⟨#[]⟩)) := by
      have : (cur.toList.take (l.length * 1))[j]? = (l.map Value.string)[j]? := by rw [hx]
      rw [List.getElem?_take_of_lt (by omega), List.getElem?_map] at this
      rw [this, List.getElem?_eq_getElem hj]; rfl
    simp only [World.cell?, hg, Nat.zero_add]
    simpa using hx'
/-- the cells of channels -/
def cellsC (cs : List (ByteArray × Int)) : List Value := cs.flatMap fun p => [.string p.1, .int .i64 p.2]
theorem cellsC_len (cs : List (ByteArray × Int)) : (cellsC cs).length = cs.length * 2 := by
  unfold cellsC
  induction cs with
  | nil => rfl
  | cons p cs ih => simp [List.flatMap_cons] at ih ⊢; omega
theorem cellsC_get (cs : List (ByteArray × Int)) (q : Nat) : (cellsC cs)[q * 2]? = cs[q]?.map (fun p => Value.string p.1) ∧ (cellsC cs)[q * 2 + 1]? = cs[q]?.map (fun p => Value.int .i64 p.2) := by
  unfold cellsC
  induction cs generalizing q with
  | nil => simp
  | cons p cs ih =>
    cases q with
    | zero => simp [List.flatMap_cons]
    | succ q =>
      have := ih q
      rw [show (q + 1) * 2 = q * 2 + 1 + 1 by omega]
      simpa [List.flatMap_cons] using this
theorem cellsC_one (cs : List (ByteArray × Int)) : ∀ u ∈ cellsC cs, u.oneCell' = true := by
  intro u hu
  unfold cellsC at hu
  obtain ⟨p, _, h⟩ := List.mem_flatMap.1 hu
  simp only [List.mem_cons, List.mem_nil_iff, or_false] at h
  rcases h with rfl | rfl <;> rfl
theorem cellsC_at (cs : List (ByteArray × Int)) {j : Nat} {u : Value} (h : (cellsC cs)[j]? = some u) : ∃ q, q < cs.length ∧ (j = q * 2 ∧ u = .string (cs[q]?.getD (⟨#[]⟩, 0)).1 ∨ j = q * 2 + 1 ∧ u = .int .i64 (cs[q]?.getD (⟨#[]⟩, 0)).2) := by
  have hl := cellsC_len cs
  have hj : j < cs.length * 2 := by
    apply Classical.byContradiction; intro hn
    rw [List.getElem?_eq_none (by omega)] at h; cases h
  have hg := cellsC_get cs (j / 2)
  have hq : j / 2 < cs.length := by omega
  rw [List.getElem?_eq_getElem hq] at hg
  refine ⟨j / 2, hq, ?_⟩
  rw [List.getElem?_eq_getElem hq]
  rcases Nat.mod_two_eq_zero_or_one j with e | e
  · have e2 : j / 2 * 2 = j := by omega
    rw [e2, h] at hg
    exact .inl ⟨e2.symm, by simpa using hg.1⟩
  · have e2 : j / 2 * 2 + 1 = j := by omega
    rw [e2, h] at hg
    exact .inr ⟨e2.symm, by simpa using hg.2⟩
theorem Chans.src {n₀ : Nat} {W : World} {v : Value} {cs : List (ByteArray × Int)} (h : Chans n₀ W v cs) :
    v = .slice none 0 0 ∧ cs.length = 0 ∨ ∃ ad c, v = .slice (some ad) cs.length c ∧ ∀ j u, (cellsC cs)[j]? = some u → W.cell? (ad.add j) = some u := by
  rcases h with ⟨⟨a, cap, rfl, hn⟩, rfl⟩ | ⟨b, off, cap, rfl, _, _, hc⟩
  · cases a with
    | none => rw [hn rfl]; exact .inl ⟨rfl, rfl⟩
    | some x => exact .inr ⟨x, cap, rfl, fun j u hj => by simp [cellsC] at hj⟩
  · refine .inr ⟨_, cap, rfl, fun j u hj => ?_⟩
    rw [Addr.add_lit]
    obtain ⟨q, hq, ⟨rfl, rfl⟩ | ⟨rfl, rfl⟩⟩ := cellsC_at cs hj
    · exact (hc q hq).1
    · have := (hc q hq).2
      rw [Nat.add_assoc] at this
      exact this
theorem chans_of_row {W : World} {base : Nat} {e : TypeId} {v : Value} {l : List (ByteArray × Int)} (h : W.ownsRow base e 2 v l.length (cellsC l)) : Chans W.heap.size W v l := by
  have hlt := h.lt
  obtain ⟨_, ⟨rfl, h0⟩ | ⟨g, cap, cur, rfl, hb, hg, hn, hm, hs, hx⟩⟩ := h
  · exact .inl ⟨⟨_, _, rfl, fun _ => rfl⟩, List.length_eq_zero_iff.1 h0⟩
  · refine .inr ⟨g, 0, cap, rfl, (hlt g rfl).2, hn, fun j hj => ?_⟩
    have hg2 := cellsC_get l j
    rw [List.getElem?_eq_getElem hj] at hg2
    have t1 : (cur.toList.take (l.length * 2))[j * 2]? = (cellsC l)[j * 2]? := by rw [hx]
    have t2 : (cur.toList.take (l.length * 2))[j * 2 + 1]? = (cellsC l)[j * 2 + 1]? := by rw [hx]
    rw [List.getElem?_take_of_lt (by omega), hg2.1] at t1
    rw [List.getElem?_take_of_lt (by omega), hg2.2] at t2
    rw [List.getElem?_eq_getElem hj]
    simp only [World.cell?, hg, Nat.zero_add]
    exact ⟨by simpa using t1, by simpa using t2⟩
end Go.Proofs.YtdkpnbjkehakjaaGreatDoor

/-! policy: Copy -/
namespace Go.Proofs.YtdkpnbjkehakjaaGreatDoor
open Go.RowKit
theorem Tryz.infoStr6 : (Tryz.prog.info? 9).map (fun i => (i.zero, i.size, i.bytes)) = some (some (.string ⟨#[]⟩), 1, 16) := by kernel_rfl
theorem Tryz.infoU646 : (Tryz.prog.info? 117).map (fun i => (i.zero, i.size, i.bytes)) = some (some (.int .u64 0), 1, 8) := by kernel_rfl
theorem Tryz.infoChan6 : (Tryz.prog.info? 101).map (fun i => (i.zero, i.size, i.bytes)) = some (some (.agg #[.string ⟨#[]⟩, .int .i64 0]), 2, 24) := by kernel_rfl

theorem kept_block {W0 w1 : World} {o : Obj} {row : Option Nat} {g : Nat} {x : Obj} (hgrow : (W0.alloc o).grownBy w1 row) (hx : W0.heap[g]? = some x) (hr : some g ≠ row) : w1.heap[g]? = some x := by
  have hlt : g < W0.heap.size := (Array.getElem?_eq_some_iff.1 hx).1
  exact (hgrow.block g (by simp; omega) hr).trans ((Below.heap_alloc W0 o g hlt).trans hx)
theorem lit_row6 {base e size b : Nat} (W : World) (hb : base ≤ W.heap.size) (hs : 0 < size) (h : W.heap.size = b) : (W.alloc (.cells #[] e)).ownsRow base e size (.slice (some ⟨b, 0, none⟩) 0 0) 0 [] := by
  subst h
  have := World.ownsRow_lit (base := base) (e := e) (size := size) W #[] 0 hb (by unfold maxLen; omega) (by simp)
  simpa using this
theorem block_cells {W : World} {g : Nat} {v0 v1 v2 v3 v4 : Value} {t : TypeId} (hg : W.heap[g]? = some (.cells #[v0, v1, v2, v3, v4] t)) :
    W.cell? ⟨g, 0, none⟩ = some v0 ∧ W.cell? ⟨g, 1, none⟩ = some v1 ∧ W.cell? ⟨g, 2, none⟩ = some v2 ∧ W.cell? ⟨g, 3, none⟩ = some v3 ∧ W.cell? ⟨g, 4, none⟩ = some v4 := by
  refine ⟨?_, ?_, ?_, ?_, ?_⟩ <;> (simp only [World.cell?, hg]; rfl)
theorem block_frozen {W : World} {g k : Nat} {cs : Array Value} {t : TypeId} (hg : W.heap[g]? = some (.cells cs t)) : W.frozen? ⟨g, k, none⟩ = false := by
  simp [World.frozen?, hg]
theorem own_ne {g n m : Nat} : some g ≠ (Value.slice (some ⟨g + 1 + 1, 0, none⟩) n m).ownBlock := by
  intro h
  simp only [Value.ownBlock, Option.some.injEq] at h
  omega
theorem row_strs {e : TypeId} {base : Nat} {w1 : World} {v' : Value} {ss : List ByteArray} (h : w1.ownsRow base e 1 v' (0 + ss.length) ([] ++ ss.map Value.string)) : Strs w1.heap.size w1 v' ss :=
  strs_of_row (base := base) (e := e) (by simpa using h)
end Go.Proofs.YtdkpnbjkehakjaaGreatDoor

/-! policy: the reader in memory: a block of six cells and four rows of its own -/
namespace Go.Proofs.YtdkpnbjkehakjaaGreatDoor
open Go.RowKit

/-- the reader's state: levels, inputs, outputs, depth, flows -/
structure PSt where
  L : List ByteArray
  I : List (ByteArray × Int)
  O : List (ByteArray × Int)
  D : Int
  F : List (Int × Int)

theorem own_of_block {w w' : World} {B e n size : Nat} {v : Value} {xs : List Value} (h : w.ownsRow B e size v n xs) (hk : ∀ k, v.ownBlock = some k → w'.heap[k]? = w.heap[k]?) : w'.ownsRow B e size v n xs := by
  refine ⟨h.1, ?_⟩
  rcases h.2 with hn | ⟨g, cap, cur, rfl, hb, hgg, rest⟩
  · exact .inl hn
  · exact .inr ⟨g, cap, cur, rfl, hb, (hk g rfl).trans hgg, rest⟩
theorem own_block {w : World} {B e n size : Nat} {v : Value} {xs : List Value} (h : w.ownsRow B e size v n xs) {k : Nat} (hk : v.ownBlock = some k) : B ≤ k ∧ k < w.heap.size ∧ ∃ cur, w.heap[k]? = some (.cells cur e (0, 0)) := by
  rcases h.2 with ⟨rfl, _⟩ | ⟨g, cap, cur, rfl, hb, hgg, _⟩
  · simp [Value.ownBlock] at hk
  · simp only [Value.ownBlock, Option.some.injEq] at hk
    subst hk
    exact ⟨hb, (Array.getElem?_eq_some_iff.1 hgg).1, cur, hgg⟩
theorem own_types {w : World} {B e n size B' e' n' size' : Nat} {v v' : Value} {xs xs' : List Value} (h : w.ownsRow B e size v n xs) (h' : w.ownsRow B' e' size' v' n' xs') (hne : e ≠ e') {k : Nat} (hk : v.ownBlock = some k) : v'.ownBlock ≠ some k := by
  intro hk'
  obtain ⟨_, _, c, hc⟩ := own_block h hk
  obtain ⟨_, _, c', hc'⟩ := own_block h' hk'
  rw [hc] at hc'
  simp only [Option.some.injEq, Obj.cells.injEq] at hc'
  exact hne hc'.2.1
theorem own_other {w : World} {B e n size r T : Nat} {v : Value} {xs : List Value} {cs : Array Value} (h : w.ownsRow B e size v n xs) (hr : w.heap[r]? = some (.cells cs T)) (hne : e ≠ T) : v.ownBlock ≠ some r := by
  intro hk
  obtain ⟨_, _, c, hc⟩ := own_block h hk
  rw [hr] at hc
  simp only [Option.some.injEq, Obj.cells.injEq] at hc
  exact hne hc.2.1.symm
theorem own_none (w : World) (B e size : Nat) : w.ownsRow B e size (.slice none 0 0) 0 [] := ⟨by simp, .inl ⟨rfl, rfl⟩⟩

/-- flows as cells -/
def cellsF (fs : List (Int × Int)) : List Value := fs.flatMap fun p => [.int .i64 p.1, .int .i64 p.2]
theorem cellsF_len (cs : List (Int × Int)) : (cellsF cs).length = cs.length * 2 := by
  unfold cellsF
  induction cs with
  | nil => rfl
  | cons p cs ih => simp [List.flatMap_cons] at ih ⊢; omega
theorem cellsF_get (cs : List (Int × Int)) (q : Nat) : (cellsF cs)[q * 2]? = cs[q]?.map (fun p => Value.int .i64 p.1) ∧ (cellsF cs)[q * 2 + 1]? = cs[q]?.map (fun p => Value.int .i64 p.2) := by
  unfold cellsF
  induction cs generalizing q with
  | nil => simp
  | cons p cs ih =>
    cases q with
    | zero => simp [List.flatMap_cons]
    | succ q =>
      have := ih q
      rw [show (q + 1) * 2 = q * 2 + 1 + 1 by omega]
      simpa [List.flatMap_cons] using this
theorem cellsF_snoc (fs : List (Int × Int)) (a b : Int) : cellsF (fs ++ [(a, b)]) = cellsF fs ++ [.int .i64 a, .int .i64 b] := by simp [cellsF]
theorem cellsC_snoc (fs : List (ByteArray × Int)) (a : ByteArray) (b : Int) : cellsC (fs ++ [(a, b)]) = cellsC fs ++ [.string a, .int .i64 b] := by simp [cellsC]

/-- the reader's block -/
def rObj (vL vU vI vO : Value) (D : Int) (vF : Value) : Obj := .cells #[vL, vU, vI, vO, .int .i64 D, vF] 83
/-- block r is the reader, its rows are of the call's own -/
structure RSt (B r : Nat) (w : World) (vL vI vO vF : Value) (st : PSt) : Prop where
  obj : w.heap[r]? = some (rObj vL (.slice none 0 0) vI vO st.D vF)
  base : B ≤ r
  oL : w.ownsRow B 9 1 vL st.L.length (st.L.map Value.string)
  oI : w.ownsRow B 101 2 vI st.I.length (cellsC st.I)
  oO : w.ownsRow B 101 2 vO st.O.length (cellsC st.O)
  oF : w.ownsRow B 133 2 vF st.F.length (cellsF st.F)
  io : ∀ k, vI.ownBlock = some k → vO.ownBlock ≠ some k
  nL : st.L.length ≤ 64
  nI : st.I.length ≤ 32
  nO : st.O.length ≤ 32

theorem RSt.lt {B r : Nat} {w : World} {vL vI vO vF : Value} {st : PSt} (h : RSt B r w vL vI vO vF st) : r < w.heap.size := (Array.getElem?_eq_some_iff.1 h.obj).1
theorem rObj_cell {w : World} {r : Nat} {v0 v1 v2 v3 v5 : Value} {d : Int} (h : w.heap[r]? = some (rObj v0 v1 v2 v3 d v5)) :
    w.cell? ⟨r, 0, none⟩ = some v0 ∧ w.cell? ⟨r, 1, none⟩ = some v1 ∧ w.cell? ⟨r, 2, none⟩ = some v2 ∧ w.cell? ⟨r, 3, none⟩ = some v3 ∧ w.cell? ⟨r, 4, none⟩ = some (.int .i64 d) ∧ w.cell? ⟨r, 5, none⟩ = some v5 := by
  refine ⟨?_, ?_, ?_, ?_, ?_, ?_⟩ <;> (simp only [World.cell?, h]; rfl)
theorem rObj_frozen {w : World} {r k : Nat} {v0 v1 v2 v3 v5 : Value} {d : Int} (h : w.heap[r]? = some (rObj v0 v1 v2 v3 d v5)) : w.frozen? ⟨r, k, none⟩ = false := block_frozen (t := 83) h

/-- no row of the reader is block k -/
def Free (r : Nat) (w : World) (k : Nat) : Prop := k ≠ r ∧ ∀ v0 v1 v2 v3 d v5, w.heap[r]? = some (rObj v0 v1 v2 v3 d v5) → v0.ownBlock ≠ some k ∧ v2.ownBlock ≠ some k ∧ v3.ownBlock ≠ some k ∧ v5.ownBlock ≠ some k
/-- what a line may do to the world -/
structure Step (B r : Nat) (w w' : World) : Prop where
  below : Below B w w'
  kept : ∀ k, k < w.heap.size → Free r w k → w'.heap[k]? = w.heap[k]? ∧ Free r w' k
theorem Step.refl (B r : Nat) (w : World) : Step B r w w := ⟨Below.refl _ _, fun k _ h => ⟨rfl, h⟩⟩
theorem Step.trans {B r : Nat} {a b c : World} (h : Step B r a b) (g : Step B r b c) : Step B r a c :=
  ⟨h.below.trans g.below, fun k hk hf => by
    obtain ⟨h1, h2⟩ := h.kept k hk hf
    obtain ⟨h3, h4⟩ := g.kept k (Nat.lt_of_lt_of_le hk h.below.size) h2
    exact ⟨h3.trans h1, h4⟩⟩
/-- a call that turns nothing of what was there -/
theorem Step.of {B r : Nat} {w w' : World} (h : Below w.heap.size w w') (hr : r < w.heap.size) (hB : B ≤ w.heap.size) : Step B r w w' :=
  ⟨h.mono hB, fun k hk hf => ⟨h.block k hk, hf.1, fun v0 v1 v2 v3 d v5 e => hf.2 v0 v1 v2 v3 d v5 ((h.block r hr).symm.trans e)⟩⟩
theorem RSt.below {B r : Nat} {w w' : World} {vL vI vO vF : Value} {st : PSt} (h : RSt B r w vL vI vO vF st) (hb : Below w.heap.size w w') : RSt B r w' vL vI vO vF st :=
  { obj := (hb.block r h.lt).trans h.obj, base := h.base, io := h.io, nL := h.nL, nI := h.nI, nO := h.nO
    oL := own_of_block h.oL fun k hk => hb.block k (own_block h.oL hk).2.1
    oI := own_of_block h.oI fun k hk => hb.block k (own_block h.oI hk).2.1
    oO := own_of_block h.oO fun k hk => hb.block k (own_block h.oO hk).2.1
    oF := own_of_block h.oF fun k hk => hb.block k (own_block h.oF hk).2.1 }
theorem RSt.step {B r : Nat} {w w' : World} {vL vI vO vF : Value} {st : PSt} (h : RSt B r w vL vI vO vF st) (hb : Below w.heap.size w w') : Step B r w w' := Step.of hb h.lt (Nat.le_trans h.base (Nat.le_of_lt h.lt))

theorem set_obj {w : World} {r c : Nat} {cs : Array Value} {T : TypeId} (v : Value) (h : w.heap[r]? = some (.cells cs T)) : (w.setCell ⟨r, c, none⟩ v).heap[r]? = some (.cells (cs.setIfInBounds c v) T) := by
  simp only [World.setCell, Array.getElem?_modify, if_pos rfl, h, Option.map_some]
  rfl

/-- one row of the reader grows, and the reader's cell c is set to it -/
theorem set_core {B r c g n' cap : Nat} {w W1 w1 : World} {vL vI vO vF : Value} {st : PSt} (h : RSt B r w vL vI vO vF st) (hb : Below w.heap.size w W1) {vX : Value} (hX : vX.ownBlock ≠ some r) (hXB : ∀ k, vX.ownBlock = some k → B ≤ k)
    (hg : W1.grownBy w1 vX.ownBlock) (hat : vX.ownBlock = some g ∨ g = W1.heap.size) :
    (∀ k, k < w.heap.size → k ≠ r → vX.ownBlock ≠ some k → (w1.setCell ⟨r, c, none⟩ (.slice (some ⟨g, 0, none⟩) n' cap)).heap[k]? = w.heap[k]?) ∧
    (w1.setCell ⟨r, c, none⟩ (.slice (some ⟨g, 0, none⟩) n' cap)).heap[r]? = some (.cells ((#[vL, .slice none 0 0, vI, vO, .int .i64 st.D, vF] : Array Value).setIfInBounds c (.slice (some ⟨g, 0, none⟩) n' cap)) 83) ∧
    g ≠ r ∧ Below B w (w1.setCell ⟨r, c, none⟩ (.slice (some ⟨g, 0, none⟩) n' cap)) ∧ (w1.setCell ⟨r, c, none⟩ (.slice (some ⟨g, 0, none⟩) n' cap)).heap[g]? = w1.heap[g]? ∧ (∀ k, k < w.heap.size → vX.ownBlock ≠ some k → g ≠ k) := by
  have hlt := h.lt
  have hgr : g ≠ r := by
    rcases hat with e | e
    · intro e2; subst e2; exact hX e
    · have := hb.size; omega
  have hk0 : ∀ k, k < w.heap.size → vX.ownBlock ≠ some k → w1.heap[k]? = w.heap[k]? := fun k hk hne =>
    (hg.block k (Nat.lt_of_lt_of_le hk hb.size) (fun e => hne e.symm)).trans (hb.block k hk)
  refine ⟨fun k hk hkr hne => ?_, set_obj _ ((hk0 r hlt hX).trans h.obj), hgr, ?_, Below.heap_setCell _ _ _ _ hgr, ?_⟩
  · rw [Below.heap_setCell _ _ _ _ hkr]
    exact hk0 k hk hne
  · exact ((hb.mono (Nat.le_trans h.base (Nat.le_of_lt hlt))).grown hg (Nat.le_trans (Nat.le_trans h.base (Nat.le_of_lt hlt)) hb.size) hXB).setCell (p := ⟨r, c, none⟩) h.base _
  · intro k hk hne e
    subst e
    rcases hat with e | e
    · exact hne e
    · have := hb.size; omega
theorem own_g {n cap g : Nat} : (Value.slice (some ⟨g, 0, none⟩) n cap).ownBlock = some g := rfl
theorem rObj_inj {a0 a1 a2 a3 a5 b0 b1 b2 b3 b5 : Value} {c d : Int} (h : rObj a0 a1 a2 a3 c a5 = rObj b0 b1 b2 b3 d b5) : a0 = b0 ∧ a1 = b1 ∧ a2 = b2 ∧ a3 = b3 ∧ c = d ∧ a5 = b5 := by
  simp only [rObj, Obj.cells.injEq, and_true] at h
  simp at h
  exact h
theorem own_fresh {w : World} {B e n size : Nat} {v : Value} {xs : List Value} (h : w.ownsRow B e size v n xs) {W : World} (hb : Below w.heap.size w W) {vX : Value} {g : Nat} (hat : vX.ownBlock = some g ∨ g = W.heap.size) (hx : vX.ownBlock = some g → v.ownBlock ≠ some g) : v.ownBlock ≠ some g := by
  rcases hat with e | e
  · exact hx e
  · intro hk
    have := (own_block h hk).2.1
    have := hb.size
    omega
theorem RSt.setL {B r g n' cap : Nat} {w W1 w1 : World} {vL vI vO vF : Value} {st : PSt} {x : ByteArray} (h : RSt B r w vL vI vO vF st) (hb : Below w.heap.size w W1)
    (hg : W1.grownBy w1 vL.ownBlock) (ho : w1.ownsRow B 9 1 (.slice (some ⟨g, 0, none⟩) n' cap) (st.L.length + 1) (st.L.map Value.string ++ [.string x])) (hat : vL.ownBlock = some g ∨ g = W1.heap.size) (hn : st.L.length < 64) :
    RSt B r (w1.setCell ⟨r, 0, none⟩ (.slice (some ⟨g, 0, none⟩) n' cap)) (.slice (some ⟨g, 0, none⟩) n' cap) vI vO vF { st with L := st.L ++ [x] } ∧ Step B r w (w1.setCell ⟨r, 0, none⟩ (.slice (some ⟨g, 0, none⟩) n' cap)) := by
  obtain ⟨c1, c2, c3, c4, c5, c6⟩ := set_core (c := 0) (n' := n') (cap := cap) h hb (own_other h.oL h.obj (by decide)) (fun k hk => (own_block h.oL hk).1) hg hat
  have aI := fun k => own_types h.oI h.oL (by decide) (k := k)
  have rI := own_other h.oI h.obj (by decide)
  have aO := fun k => own_types h.oO h.oL (by decide) (k := k)
  have rO := own_other h.oO h.obj (by decide)
  have aF := fun k => own_types h.oF h.oL (by decide) (k := k)
  have rF := own_other h.oF h.obj (by decide)
  refine ⟨{ obj := c2, base := h.base, nI := h.nI, nO := h.nO
            nL := by simp; omega
            io := h.io
            oL := ?_
            oI := own_of_block h.oI fun k hk => c1 k (own_block h.oI hk).2.1 (fun e => rI (e ▸ hk)) (aI k hk)
            oO := own_of_block h.oO fun k hk => c1 k (own_block h.oO hk).2.1 (fun e => rO (e ▸ hk)) (aO k hk)
            oF := own_of_block h.oF fun k hk => c1 k (own_block h.oF hk).2.1 (fun e => rF (e ▸ hk)) (aF k hk) }, c4, fun k hk hf => ?_⟩
  · have := own_of_block ho (w' := (w1.setCell ⟨r, 0, none⟩ (.slice (some ⟨g, 0, none⟩) n' cap))) (fun k hk => by rw [own_g] at hk; cases hk; exact c5)
    simpa using this
  · obtain ⟨fL, fI, fO, fF⟩ := hf.2 _ _ _ _ _ _ h.obj
    refine ⟨c1 k hk hf.1 fL, hf.1, fun v0 v1 v2 v3 d v5 e => ?_⟩
    obtain ⟨rfl, rfl, rfl, rfl, rfl, rfl⟩ := rObj_inj (Option.some.inj (c2.symm.trans e))
    exact ⟨fun e => c6 k hk fL (by rw [own_g] at e; cases e; rfl), fI, fO, fF⟩
theorem RSt.setI {B r g n' cap : Nat} {w W1 w1 : World} {vL vI vO vF : Value} {st : PSt} {x : ByteArray × Int} (h : RSt B r w vL vI vO vF st) (hb : Below w.heap.size w W1)
    (hg : W1.grownBy w1 vI.ownBlock) (ho : w1.ownsRow B 101 2 (.slice (some ⟨g, 0, none⟩) n' cap) (st.I.length + 1) (cellsC st.I ++ [.string x.1, .int .i64 x.2])) (hat : vI.ownBlock = some g ∨ g = W1.heap.size) (hn : st.I.length < 32) :
    RSt B r (w1.setCell ⟨r, 2, none⟩ (.slice (some ⟨g, 0, none⟩) n' cap)) vL (.slice (some ⟨g, 0, none⟩) n' cap) vO vF { st with I := st.I ++ [x] } ∧ Step B r w (w1.setCell ⟨r, 2, none⟩ (.slice (some ⟨g, 0, none⟩) n' cap)) := by
  obtain ⟨c1, c2, c3, c4, c5, c6⟩ := set_core (c := 2) (n' := n') (cap := cap) h hb (own_other h.oI h.obj (by decide)) (fun k hk => (own_block h.oI hk).1) hg hat
  have aL := fun k => own_types h.oL h.oI (by decide) (k := k)
  have rL := own_other h.oL h.obj (by decide)
  have aO := fun k (hk : vO.ownBlock = some k) (e : vI.ownBlock = some k) => h.io k e hk
  have rO := own_other h.oO h.obj (by decide)
  have aF := fun k => own_types h.oF h.oI (by decide) (k := k)
  have rF := own_other h.oF h.obj (by decide)
  refine ⟨{ obj := c2, base := h.base, nL := h.nL, nO := h.nO
            nI := by simp; omega
            io := fun k hk e => by rw [own_g] at hk; cases hk; exact own_fresh h.oO hb hat (fun e1 => h.io _ e1) e
            oL := own_of_block h.oL fun k hk => c1 k (own_block h.oL hk).2.1 (fun e => rL (e ▸ hk)) (aL k hk)
            oI := ?_
            oO := own_of_block h.oO fun k hk => c1 k (own_block h.oO hk).2.1 (fun e => rO (e ▸ hk)) (aO k hk)
            oF := own_of_block h.oF fun k hk => c1 k (own_block h.oF hk).2.1 (fun e => rF (e ▸ hk)) (aF k hk) }, c4, fun k hk hf => ?_⟩
  · have := own_of_block ho (w' := (w1.setCell ⟨r, 2, none⟩ (.slice (some ⟨g, 0, none⟩) n' cap))) (fun k hk => by rw [own_g] at hk; cases hk; exact c5)
    rw [show cellsC (st.I ++ [x]) = _ from cellsC_snoc st.I x.1 x.2, List.length_append]
    exact this
  · obtain ⟨fL, fI, fO, fF⟩ := hf.2 _ _ _ _ _ _ h.obj
    refine ⟨c1 k hk hf.1 fI, hf.1, fun v0 v1 v2 v3 d v5 e => ?_⟩
    obtain ⟨rfl, rfl, rfl, rfl, rfl, rfl⟩ := rObj_inj (Option.some.inj (c2.symm.trans e))
    exact ⟨fL, fun e => c6 k hk fI (by rw [own_g] at e; cases e; rfl), fO, fF⟩
theorem RSt.setO {B r g n' cap : Nat} {w W1 w1 : World} {vL vI vO vF : Value} {st : PSt} {x : ByteArray × Int} (h : RSt B r w vL vI vO vF st) (hb : Below w.heap.size w W1)
    (hg : W1.grownBy w1 vO.ownBlock) (ho : w1.ownsRow B 101 2 (.slice (some ⟨g, 0, none⟩) n' cap) (st.O.length + 1) (cellsC st.O ++ [.string x.1, .int .i64 x.2])) (hat : vO.ownBlock = some g ∨ g = W1.heap.size) (hn : st.O.length < 32) :
    RSt B r (w1.setCell ⟨r, 3, none⟩ (.slice (some ⟨g, 0, none⟩) n' cap)) vL vI (.slice (some ⟨g, 0, none⟩) n' cap) vF { st with O := st.O ++ [x] } ∧ Step B r w (w1.setCell ⟨r, 3, none⟩ (.slice (some ⟨g, 0, none⟩) n' cap)) := by
  obtain ⟨c1, c2, c3, c4, c5, c6⟩ := set_core (c := 3) (n' := n') (cap := cap) h hb (own_other h.oO h.obj (by decide)) (fun k hk => (own_block h.oO hk).1) hg hat
  have aL := fun k => own_types h.oL h.oO (by decide) (k := k)
  have rL := own_other h.oL h.obj (by decide)
  have aI := fun k (hk : vI.ownBlock = some k) => h.io k hk
  have rI := own_other h.oI h.obj (by decide)
  have aF := fun k => own_types h.oF h.oO (by decide) (k := k)
  have rF := own_other h.oF h.obj (by decide)
  refine ⟨{ obj := c2, base := h.base, nL := h.nL, nI := h.nI
            nO := by simp; omega
            io := fun k hk e => by rw [own_g] at e; cases e; exact own_fresh h.oI hb hat (fun e1 e2 => h.io _ e2 e1) hk
            oL := own_of_block h.oL fun k hk => c1 k (own_block h.oL hk).2.1 (fun e => rL (e ▸ hk)) (aL k hk)
            oI := own_of_block h.oI fun k hk => c1 k (own_block h.oI hk).2.1 (fun e => rI (e ▸ hk)) (aI k hk)
            oO := ?_
            oF := own_of_block h.oF fun k hk => c1 k (own_block h.oF hk).2.1 (fun e => rF (e ▸ hk)) (aF k hk) }, c4, fun k hk hf => ?_⟩
  · have := own_of_block ho (w' := (w1.setCell ⟨r, 3, none⟩ (.slice (some ⟨g, 0, none⟩) n' cap))) (fun k hk => by rw [own_g] at hk; cases hk; exact c5)
    rw [show cellsC (st.O ++ [x]) = _ from cellsC_snoc st.O x.1 x.2, List.length_append]
    exact this
  · obtain ⟨fL, fI, fO, fF⟩ := hf.2 _ _ _ _ _ _ h.obj
    refine ⟨c1 k hk hf.1 fO, hf.1, fun v0 v1 v2 v3 d v5 e => ?_⟩
    obtain ⟨rfl, rfl, rfl, rfl, rfl, rfl⟩ := rObj_inj (Option.some.inj (c2.symm.trans e))
    exact ⟨fL, fI, fun e => c6 k hk fO (by rw [own_g] at e; cases e; rfl), fF⟩
theorem RSt.setF {B r g n' cap : Nat} {w W1 w1 : World} {vL vI vO vF : Value} {st : PSt} {x : Int × Int} (h : RSt B r w vL vI vO vF st) (hb : Below w.heap.size w W1)
    (hg : W1.grownBy w1 vF.ownBlock) (ho : w1.ownsRow B 133 2 (.slice (some ⟨g, 0, none⟩) n' cap) (st.F.length + 1) (cellsF st.F ++ [.int .i64 x.1, .int .i64 x.2])) (hat : vF.ownBlock = some g ∨ g = W1.heap.size) :
    RSt B r (w1.setCell ⟨r, 5, none⟩ (.slice (some ⟨g, 0, none⟩) n' cap)) vL vI vO (.slice (some ⟨g, 0, none⟩) n' cap) { st with F := st.F ++ [x] } ∧ Step B r w (w1.setCell ⟨r, 5, none⟩ (.slice (some ⟨g, 0, none⟩) n' cap)) := by
  obtain ⟨c1, c2, c3, c4, c5, c6⟩ := set_core (c := 5) (n' := n') (cap := cap) h hb (own_other h.oF h.obj (by decide)) (fun k hk => (own_block h.oF hk).1) hg hat
  have aL := fun k => own_types h.oL h.oF (by decide) (k := k)
  have rL := own_other h.oL h.obj (by decide)
  have aI := fun k => own_types h.oI h.oF (by decide) (k := k)
  have rI := own_other h.oI h.obj (by decide)
  have aO := fun k => own_types h.oO h.oF (by decide) (k := k)
  have rO := own_other h.oO h.obj (by decide)
  refine ⟨{ obj := c2, base := h.base, nL := h.nL, nI := h.nI, nO := h.nO
            io := h.io
            oL := own_of_block h.oL fun k hk => c1 k (own_block h.oL hk).2.1 (fun e => rL (e ▸ hk)) (aL k hk)
            oI := own_of_block h.oI fun k hk => c1 k (own_block h.oI hk).2.1 (fun e => rI (e ▸ hk)) (aI k hk)
            oO := own_of_block h.oO fun k hk => c1 k (own_block h.oO hk).2.1 (fun e => rO (e ▸ hk)) (aO k hk)
            oF := ?_ }, c4, fun k hk hf => ?_⟩
  · have := own_of_block ho (w' := (w1.setCell ⟨r, 5, none⟩ (.slice (some ⟨g, 0, none⟩) n' cap))) (fun k hk => by rw [own_g] at hk; cases hk; exact c5)
    rw [show cellsF (st.F ++ [x]) = _ from cellsF_snoc st.F x.1 x.2, List.length_append]
    exact this
  · obtain ⟨fL, fI, fO, fF⟩ := hf.2 _ _ _ _ _ _ h.obj
    refine ⟨c1 k hk hf.1 fF, hf.1, fun v0 v1 v2 v3 d v5 e => ?_⟩
    obtain ⟨rfl, rfl, rfl, rfl, rfl, rfl⟩ := rObj_inj (Option.some.inj (c2.symm.trans e))
    exact ⟨fL, fI, fO, fun e => c6 k hk fF (by rw [own_g] at e; cases e; rfl)⟩
/-- the reader's depth is set -/
theorem RSt.setD {B r : Nat} {w : World} {vL vI vO vF : Value} {st : PSt} (h : RSt B r w vL vI vO vF st) (d : Int) :
    RSt B r (w.setCell ⟨r, 4, none⟩ (.int .i64 d)) vL vI vO vF { st with D := d } ∧ Step B r w (w.setCell ⟨r, 4, none⟩ (.int .i64 d)) := by
  have hk : ∀ k, k ≠ r → (w.setCell ⟨r, 4, none⟩ (.int .i64 d)).heap[k]? = w.heap[k]? := fun k hk => Below.heap_setCell _ _ _ _ hk
  have c2 := set_obj (c := 4) (.int .i64 d) h.obj
  have rL := own_other h.oL h.obj (by decide)
  have rI := own_other h.oI h.obj (by decide)
  have rO := own_other h.oO h.obj (by decide)
  have rF := own_other h.oF h.obj (by decide)
  refine ⟨{ obj := c2, base := h.base, io := h.io, nL := h.nL, nI := h.nI, nO := h.nO
            oL := own_of_block h.oL fun k e => hk k (fun e1 => rL (e1 ▸ e))
            oI := own_of_block h.oI fun k e => hk k (fun e1 => rI (e1 ▸ e))
            oO := own_of_block h.oO fun k e => hk k (fun e1 => rO (e1 ▸ e))
            oF := own_of_block h.oF fun k e => hk k (fun e1 => rF (e1 ▸ e)) }, (Below.refl _ _).setCell (p := ⟨r, 4, none⟩) h.base _, fun k hk' hf => ⟨hk k hf.1, hf.1, fun v0 v1 v2 v3 d' v5 e => ?_⟩⟩
  obtain ⟨rfl, rfl, rfl, rfl, rfl, rfl⟩ := rObj_inj (Option.some.inj (c2.symm.trans e))
  exact hf.2 _ _ _ _ _ _ h.obj
/-- the rows as a walk reads them -/
theorem RSt.strs {B r : Nat} {w : World} {vL vI vO vF : Value} {st : PSt} (h : RSt B r w vL vI vO vF st) : Strs w.heap.size w vL st.L := strs_of_row h.oL
theorem RSt.ins {B r : Nat} {w : World} {vL vI vO vF : Value} {st : PSt} (h : RSt B r w vL vI vO vF st) : Chans w.heap.size w vI st.I := chans_of_row h.oI
theorem RSt.outs {B r : Nat} {w : World} {vL vI vO vF : Value} {st : PSt} (h : RSt B r w vL vI vO vF st) : Chans w.heap.size w vO st.O := chans_of_row h.oO
end Go.Proofs.YtdkpnbjkehakjaaGreatDoor

/-! policy: what the law says of a place that was found -/
namespace Go.Proofs.YtdkpnbjkehakjaaGreatDoor
open Go.RowKit

end Go.Proofs.YtdkpnbjkehakjaaGreatDoor

/-! the walk of layer 3's reference: Word -/
namespace Go.Proofs.YtdkpnbjkehakjaaGreatDoor
open Go.RowKit

/-- the words -/
def wordW (k : Nat) : ByteArray :=
  match k with
  | 0 => ⟨#[97, 114, 114, 97, 121]⟩
  | 1 => ⟨#[102, 110]⟩
  | 2 => ⟨#[99, 111, 110, 115, 116]⟩
  | 3 => ⟨#[112, 104, 105]⟩
  | 4 => ⟨#[108, 111, 97, 100]⟩
  | 5 => ⟨#[119, 114, 97, 112]⟩
  | 6 => ⟨#[115, 116, 111, 114, 101]⟩
  | 7 => ⟨#[99, 97, 108, 108]⟩
  | 8 => ⟨#[105, 110, 112, 117, 116]⟩
  | 9 => ⟨#[111, 117, 116, 112, 117, 116]⟩
  | 10 => ⟨#[114, 101, 108, 101, 97, 115, 101]⟩
  | 11 => ⟨#[106, 117, 109, 112]⟩
  | 12 => ⟨#[98, 114, 97, 110, 99, 104]⟩
  | 13 => ⟨#[114, 101, 116, 117, 114, 110]⟩
  | 14 => ⟨#[97, 100, 100]⟩
  | 15 => ⟨#[115, 117, 98]⟩
  | 16 => ⟨#[109, 117, 108]⟩
  | 17 => ⟨#[100, 105, 118]⟩
  | 18 => ⟨#[109, 111, 100]⟩
  | 19 => ⟨#[97, 110, 100]⟩
  | 20 => ⟨#[111, 114]⟩
  | 21 => ⟨#[120, 111, 114]⟩
  | 22 => ⟨#[115, 104, 108]⟩
  | 23 => ⟨#[115, 104, 114]⟩
  | 24 => ⟨#[101, 113]⟩
  | 25 => ⟨#[108, 101, 115, 115]⟩
  | _ => ⟨#[]⟩
def wordCells : Obj := .cells #[.string (wordW 0), .string (wordW 1), .string (wordW 2), .string (wordW 3), .string (wordW 4), .string (wordW 5), .string (wordW 6), .string (wordW 7), .string (wordW 8), .string (wordW 9), .string (wordW 10), .string (wordW 11), .string (wordW 12), .string (wordW 13), .string (wordW 14), .string (wordW 15), .string (wordW 16), .string (wordW 17), .string (wordW 18), .string (wordW 19), .string (wordW 20), .string (wordW 21), .string (wordW 22), .string (wordW 23), .string (wordW 24), .string (wordW 25)] 9
theorem wordCell (w : World) (k : Nat) (h : k < 26) : (w.alloc wordCells).cell? ⟨w.heap.size, k, none⟩ = some (.string (wordW k)) := by
  have e : (w.alloc wordCells).heap[w.heap.size]? = some wordCells := by show (w.heap.push wordCells)[w.heap.size]? = _; simp
  have : ∀ j : Fin 26, (match wordCells with | .cells cs _ _ => cs[j.val]? | _ => none) = some (.string (wordW j.val)) := by
    intro j
    rcases j with ⟨j, hj⟩
    rcases (show j = 0 ∨ j = 1 ∨ j = 2 ∨ j = 3 ∨ j = 4 ∨ j = 5 ∨ j = 6 ∨ j = 7 ∨ j = 8 ∨ j = 9 ∨ j = 10 ∨ j = 11 ∨ j = 12 ∨ j = 13 ∨ j = 14 ∨ j = 15 ∨ j = 16 ∨ j = 17 ∨ j = 18 ∨ j = 19 ∨ j = 20 ∨ j = 21 ∨ j = 22 ∨ j = 23 ∨ j = 24 ∨ j = 25 by omega) with rfl | rfl | rfl | rfl | rfl | rfl | rfl | rfl | rfl | rfl | rfl | rfl | rfl | rfl | rfl | rfl | rfl | rfl | rfl | rfl | rfl | rfl | rfl | rfl | rfl | rfl <;> rfl
  have h' := this ⟨k, h⟩
  simp only [World.cell?, e]
  exact h'
theorem words_below (w : World) : Below w.heap.size w (w.alloc wordCells) := (Below.refl _ _).alloc (Nat.le_refl _) _

/-- is it a word? -/
def wordFrom (s : ByteArray) : Nat → Nat → Bool
  | 0, _ => false
  | f + 1, k => if ((wordW k).toList == s.toList) = true then true else wordFrom s f (k + 1)
def wordB (s : ByteArray) : Bool := wordFrom s 26 0

set_option maxRecDepth 100000 in
set_option maxHeartbeats 1600000 in
theorem rword_any (s : ByteArray) (w : World) :
    Calls Tryz.prog 68 #[.string s] w fun e w' => e = .returned (.bool (wordB s)) ∧ Below w.heap.size w w' := by
  have hc : ∀ k, k < 26 → (w.alloc wordCells).cell? ⟨w.heap.size, k, none⟩ = some (.string (wordW k)) := wordCell w
  have HC := Lib.hid hc
  clear hc
  go_enter Tryz.func68, Tryz.ntmps68
  go_wp2_with fail
  rw [show w.alloc (.cells #[.string ⟨#[97, 114, 114, 97, 121]⟩, .string ⟨#[102, 110]⟩, .string ⟨#[99, 111, 110, 115, 116]⟩, .string ⟨#[112, 104, 105]⟩, .string ⟨#[108, 111, 97, 100]⟩, .string ⟨#[119, 114, 97, 112]⟩, .string ⟨#[115, 116, 111, 114, 101]⟩, .string ⟨#[99, 97, 108, 108]⟩, .string ⟨#[105, 110, 112, 117, 116]⟩, .string ⟨#[111, 117, 116, 112, 117, 116]⟩, .string ⟨#[114, 101, 108, 101, 97, 115, 101]⟩, .string ⟨#[106, 117, 109, 112]⟩, .string ⟨#[98, 114, 97, 110, 99, 104]⟩, .string ⟨#[114, 101, 116, 117, 114, 110]⟩, .string ⟨#[97, 100, 100]⟩, .string ⟨#[115, 117, 98]⟩, .string ⟨#[109, 117, 108]⟩, .string ⟨#[100, 105, 118]⟩, .string ⟨#[109, 111, 100]⟩, .string ⟨#[97, 110, 100]⟩, .string ⟨#[111, 114]⟩, .string ⟨#[120, 111, 114]⟩, .string ⟨#[115, 104, 108]⟩, .string ⟨#[115, 104, 114]⟩, .string ⟨#[101, 113]⟩, .string ⟨#[108, 101, 115, 115]⟩] 9) = w.alloc wordCells from rfl]
  go_loopw [4] (fun i wr => ∃ k m : Nat, k ≤ 26 ∧ i = .int .i64 (k : Int) ∧ wr = (w.alloc wordCells).drewN m ∧ RowKit.Hid (wordB s = wordFrom s (26 - k) k)) (fun i _ => 26 - (intOf i).toNat)
  case atStart => exact ⟨0, 0, by omega, rfl, rfl, rfl⟩
  case round =>
    obtain ⟨k, m, hk, rfl, rfl, HP⟩ := hrel
    by_cases hlt : k < 26
    · have hc := HC.out k hlt
      cases ht : ((wordW k).toList == s.toList)
      · have HN := Lib.hid (show wordB s = wordFrom s (26 - (k + 1)) (k + 1) by
          rw [HP.out, show 26 - k = (26 - (k + 1)) + 1 by omega]; simp only [wordFrom]; rw [if_neg (by rw [ht]; decide)])
        go_wp2_with fail
        go_roundw
        case rel => exact ⟨k + 1, _, by omega, by go_num, rfl, HN⟩
        case measure => simp [intOf]; omega
      · have HN := Lib.hid (show wordB s = true by
          rw [HP.out, show 26 - k = (26 - (k + 1)) + 1 by omega]; simp only [wordFrom]; rw [if_pos ht])
        go_wp2_with fail
        go_ret
        exact ⟨ret_bool HN.out.symm, below_drewN (words_below w) _⟩
    · obtain rfl : k = 26 := by omega
      go_wp2_with fail
      go_ret
      exact ⟨ret_bool HP.out.symm, below_drewN (words_below w) _⟩
end Go.Proofs.YtdkpnbjkehakjaaGreatDoor

/-! a map of functions, of the call's own -/
namespace Go.Proofs.YtdkpnbjkehakjaaGreatDoor
open Go.RowKit
open Go.Maps (Keyed int_keyed keyOf_int_mk)

/-- how a function literal that captures nothing reads: by its number -/
def fnElem (v : Value) : Option (DataW Unit × List MemPlace) :=
  match v with
  | .func (.func g) f c => match f.toList, c.toList with
    | [], [] => some (.lit (.int .i64 (g : Int)), [])
    | _, _ => none
  | .nilFunc => some (.nil, [])
  | _ => none
theorem fnElem_fn {v : Value} {g : Nat} {ps : List MemPlace} (h : fnElem v = some (.lit (.int .i64 (g : Int)), ps)) : v = .func (.func g) #[] #[] := by
  unfold fnElem at h
  split at h
  · rename_i g' f c
    split at h
    · rename_i hf hc
      simp only [Option.some.injEq, Prod.mk.injEq, DataW.lit.injEq, Lit.int.injEq] at h
      have e : g' = g := by
        obtain ⟨⟨_, e⟩, _⟩ := h
        exact Int.ofNat.inj e
      subst e
      obtain ⟨f⟩ := f
      obtain ⟨c⟩ := c
      simp only at hf hc
      subst hf
      subst hc
      rfl
    · cases h
  · cases h
  · cases h
theorem fnElem_nil {v : Value} {ps : List MemPlace} (h : fnElem v = some (.nil, ps)) : v = .nilFunc := by
  unfold fnElem at h
  split at h
  · split at h <;> cases h
  · rfl
  · cases h

/-- a look-up in a map of the call's own, whatever its elements are -/
theorem wpList_lookup_any {H : Type} {P : Program} (w : World) {ops : Array Oper} {rest : List Oper} {o : Oper} {a : Act} {Q : Exit → Act → World → Prop}
    (hg : o.guard = none) (m x : Operand) (t : TypeId) (hop : o.op = Op.lookup t m x false)
    (k e : TypeId) (K : Keyed P k) (ht : P.underlying t = some (.map k e)) (R : Value → Option (DataW H × List MemPlace)) (z : Value) (hz : (zeroValue e).run P w = .ok z w) (zd : DataW H) (zp : List MemPlace) (hzd : R z = some (zd, zp)) (b n : Nat) (D : DataW H)
    (hm : a.eval m = .map (some b)) (hown : w.ownsMap P k R b n D) (key : Value) (kl : Lit) (hx : a.eval x = key) (hkey : keyOf P k key = some kl)
    (hK : ∀ v ps, R v = some (D.atKey kl zd, ps) → wpList P ops Q rest (a.put o.dst v) w) :
    wpList P ops Q (o :: rest) a w := by
  refine wpList_plain hg fun K' hK' => ?_
  obtain ⟨v, ps, hrun, hv⟩ := hown.lookup K ht hz hzd hkey
  unfold Oper.wp
  simp [execOp, hop, hm, hx, hrun, Result.andThen]
  exact hK' _ _ (hK v ps hv)

/-- an entry of a map literal, put into the map of the call's own -/
theorem wpList_insert_own {H : Type} {P : Program} (w : World) {ops : Array Oper} {rest : List Oper} {o : Oper} {a : Act} {Q : Exit → Act → World → Prop}
    (hg : o.guard = none) (m x v : Operand) (t : TypeId) (hop : o.op = Op.insert t m x v)
    (k e : TypeId) (K : Keyed P k) (ht : P.underlying t = some (.map k e)) (R : Value → Option (DataW H × List MemPlace)) (b n : Nat) (D : DataW H)
    (hm : a.eval m = .map (some b)) (hown : w.ownsMap P k R b n D) (hn : n < maxLen) (key val : Value) (kl : Lit) (hx : a.eval x = key) (hv : a.eval v = val) (hkey : keyOf P k key = some kl)
    (d : DataW H) (ps : List MemPlace) (hval : R val = some (d, ps))
    (hK : ∀ w', w'.ownsMap P k R b (n + 1) (D.put kl d) → w.grownBy w' (some b) → wpList P ops Q rest (a.put o.dst undef) w') :
    wpList P ops Q (o :: rest) a w := by
  refine wpList_plain hg fun K' hK' => ?_
  obtain ⟨w', hrun, r1, r2⟩ := hown.update K ht hn hkey hval
  unfold Oper.wp
  simp [execOp, hop, hm, hx, hv, hrun, Result.andThen]
  exact hK' _ _ (hK w' r1 r2)

def fnD (g : Nat) : DataW Unit := .lit (.int .i64 (g : Int))
end Go.Proofs.YtdkpnbjkehakjaaGreatDoor
