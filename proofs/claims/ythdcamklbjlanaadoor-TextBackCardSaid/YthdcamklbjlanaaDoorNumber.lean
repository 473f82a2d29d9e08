import Derived.Test.YthdcamklbjlanaaDoorNum
import Derived.Test.YthdcamklbjlanaaDoorLaysP
import Derived.Lib.AtoiErrMem
/-! the walk of text.Number -/
namespace Go.Proofs.YthdcamklbjlanaaDoor
set_option linter.unusedVariables false
open Go.RowKit

theorem var_below {P : Program} {w w' : World} {n : String} {cs : Array Value} (h : w.var? P n = some cs) (hb : Below w.heap.size w w') : w'.var? P n = some cs := by
  unfold World.var? at h ⊢
  cases hg : P.globalNamed n with
  | none => simp [hg] at h
  | some g =>
    simp only [hg, Option.bind_some] at h ⊢
    have hlt : g < w.heap.size := by
      rcases Nat.lt_or_ge g w.heap.size with h' | h'
      · exact h'
      · simp [Array.getElem?_eq_none h'] at h
    rw [hb.block g hlt]
    exact h
theorem Pow.below {w w' : World} (h : Pow w) (hb : Below w.heap.size w w') : Pow w' := var_below h hb
/-- the two errors that strconv names -/
def Errs (w : World) : Prop := (∃ tp p, w.var? Tryd.prog "strconv.ErrSyntax" = some #[.iface tp p]) ∧ ∃ tp p, w.var? Tryd.prog "strconv.ErrRange" = some #[.iface tp p]
theorem Errs.below {w w' : World} (h : Errs w) (hb : Below w.heap.size w w') : Errs w' :=
  ⟨h.1.imp fun _ h => h.imp fun _ h => var_below h hb, h.2.imp fun _ h => h.imp fun _ h => var_below h hb⟩

/-- strconv.ParseInt(s, 10, 64) at every string -/
theorem parse_any (s : ByteArray) (hs : s.size ≤ 281474976710656) (w : World) (hE : Errs w) :
    Calls Tryd.prog 23 #[.string s, .int .i64 10, .int .i64 64] w fun e w' =>
      ((∃ v, e = .returned (.tuple #[.int .i64 v, .nilIface]) ∧ Lib.parseIntB 64 s.data.toList = .ok v) ∨ (∃ x tp N, e = .returned (.tuple #[.int .i64 x, .iface tp (.pointer (some ⟨N, 0, none⟩))]) ∧ ∀ v, Lib.parseIntB 64 s.data.toList ≠ .ok v)) ∧ Below w.heap.size w w' := by
  obtain ⟨⟨tp, p, h1⟩, tq, q, h2⟩ := hE
  cases h : Lib.parseIntB 64 s.data.toList with
  | ok v =>
    refine (Any.strconv_ParseInt_10_at64_ok Tryd.laysC174 s (by omega) v h w).mono ?_
    rintro e w' ⟨rfl, hw⟩
    refine ⟨.inl ⟨v, rfl, rfl⟩, ?_⟩
    rcases hw with rfl | ⟨t, rfl⟩
    · exact Below.refl _ _
    · exact Lib.bytesWorld_below w _ t
  | range =>
    refine (Any.strconv_ParseInt_10_at64_range_var Tryd.laysC174 s hs h tq q w h2).mono ?_
    rintro e w' ⟨N, rfl, _, _, hb⟩
    exact ⟨.inr ⟨_, _, N, rfl, fun v hv => by cases hv⟩, hb⟩
  | _ =>
    refine (Any.strconv_ParseInt_10_at64_syntax_var Tryd.laysC174 s hs h tp p w h1).mono ?_
    rintro e w' ⟨N, rfl, _, _, hb⟩
    exact ⟨.inr ⟨_, _, N, rfl, fun v hv => by cases hv⟩, hb⟩

theorem bytes_ne {a b : ByteArray} (h : ¬ a = b) : (a.toList == b.toList) = false := by
  rw [beq_eq_false_iff_ne]
  intro e
  rw [ByteArray.toList_eq, ByteArray.toList_eq] at e
  exact h (ByteArray.ext (Array.toList_inj.1 e))
theorem ret_nb {v v' : Int} {b b' : Bool} (h : v = v') (g : b = b') : Ending.returned (.tuple #[.int .i64 v, .bool b]) = .returned (.tuple #[.int .i64 v', .bool b']) := by rw [h, g]

set_option maxHeartbeats 800000 in
theorem number_any (s : ByteArray) (w : World) (hs : s.size ≤ 140737488351232) (hE : Errs w) (hP : Pow w) :
    Calls Tryd.prog 14 #[.string s] w fun e w' => (∃ v ok, e = .returned (.tuple #[.int .i64 v, .bool ok]) ∧ NumRel s v ok) ∧ Below w.heap.size w w' := by
  have HE := Lib.hid hE
  have HP := Lib.hid hP
  clear hE hP
  go_enter Tryd.func14, Tryd.ntmps14
  go_wp2_with fail
  refine (parse_any s (by omega) _ HE.out).mono ?_
  rintro e w1 ⟨hr, hb1⟩
  rcases hr with ⟨v, rfl, hv⟩ | ⟨x, tp, N, rfl, hv⟩
  · obtain ⟨hy, hno, b0, b1⟩ := NumRel.of_ok hv
    have HY := Lib.hid hy
    have HNO := Lib.hid hno
    have HP1 := Lib.hid (HP.out.below hb1)
    have HW : Hid ((Lit.int .i64 v).wf = true) := Lib.hid (by simp only [Lit.wf, Bool.and_eq_true, decide_eq_true_eq]; exact ⟨b0, b1⟩)
    clear hy hno hv
    go_wp2_with fail
    refine (show_any v HW.out _ HP1.out).mono ?_
    rintro e w2 ⟨rfl, hb2⟩
    have hB := bstep hb1 hb2
    clear hb1 hb2
    by_cases hq : num v = s
    · have HR := Lib.hid (HY.out hq)
      subst hq
      go_wp2_with fail
      go_ret2
      exact ⟨⟨_, _, rfl, HR.out⟩, hB⟩
    · have HR := Lib.hid (HNO.out hq)
      have hne := bytes_ne hq
      clear hq
      go_wp2_with fail
      go_ret2
      exact ⟨⟨_, _, rfl, HR.out⟩, hB⟩
  · have HR := Lib.hid (NumRel.of_bad hv)
    clear hv
    go_wp2_with fail
    go_ret2
    exact ⟨⟨_, _, rfl, HR.out⟩, hb1⟩
end Go.Proofs.YthdcamklbjlanaaDoor
