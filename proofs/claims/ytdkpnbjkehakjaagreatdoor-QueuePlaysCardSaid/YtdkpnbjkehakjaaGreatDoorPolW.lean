import Derived.Test.YtdkpnbjkehakjaaGreatDoorPolY
import Derived.Test.YtdkpnbjkehakjaaGreatDoorPlatY
import Derived.Test.YtdkpnbjkehakjaaGreatDoorTextB
set_option linter.unusedSimpArgs false
set_option linter.unusedVariables false
/-! policy: finish -/
namespace Go.Proofs.YtdkpnbjkehakjaaGreatDoor
open Go.RowKit

/-- flows are between levels -/
def FlowsOk (st : PSt) : Prop := ∀ p ∈ st.F, pairOk st.L.length p = true
theorem pairOk_more {n m : Nat} {p : Int × Int} (h : pairOk n p = true) (hn : n ≤ m) : pairOk m p = true := by
  unfold pairOk at h ⊢
  simp only [Bool.and_eq_true, decide_eq_true_eq] at h ⊢
  omega
theorem ite_ok {c : Prop} [Decidable c] {a b : PSt × Int} (h1 : FlowsOk a.1) (h2 : ¬ c → FlowsOk b.1) : FlowsOk (if c then a else b).1 := by
  split
  · exact h1
  · exact h2 ‹_›
theorem doP_ok (st : PSt) (ws : List ByteArray) (h : FlowsOk st) : FlowsOk (doP st ws).1 := by
  unfold doP
  refine ite_ok h fun _ => ite_ok h fun _ => ?_
  split
  · unfold levelP
    refine ite_ok h fun _ => ite_ok h fun _ => ite_ok h fun _ => ite_ok h fun _ => ?_
    intro p hp
    exact pairOk_more (h p hp) (by simp)
  · split
    · unfold flowP
      refine ite_ok h fun _ => ite_ok h fun h1 => ite_ok h fun h2 => ?_
      intro p hp
      rcases List.mem_append.1 hp with hp | hp
      · exact h p hp
      · simp at hp
        subst hp
        have r1 := level_range st.L (wd6 ws 1)
        have r2 := level_range st.L (wd6 ws 2)
        unfold pairOk
        simp only [Bool.and_eq_true, decide_eq_true_eq]
        show (0 ≤ levelI st.L (wd6 ws 1) ∧ levelI st.L (wd6 ws 1) < (st.L.length : Int)) ∧ 0 ≤ levelI st.L (wd6 ws 2) ∧ levelI st.L (wd6 ws 2) < (st.L.length : Int)
        omega
    · split
      · unfold chanIP
        exact ite_ok h fun _ => ite_ok h fun _ => ite_ok h fun _ => ite_ok h fun _ => ite_ok h fun _ => h
      · split
        · unfold chanOP
          exact ite_ok h fun _ => ite_ok h fun _ => ite_ok h fun _ => ite_ok h fun _ => ite_ok h fun _ => h
        · split
          · unfold depthP
            refine ite_ok h fun _ => ?_
            split
            · exact h
            · exact ite_ok h fun _ => ite_ok h fun _ => h
          · exact h
theorem readP_ok : ∀ (ls : List ByteArray) (a : Int) (st : PSt), FlowsOk st → FlowsOk (readP ls a st).1
  | [], _, st, h => h
  | l :: ls, a, st, h => by
    unfold readP
    split
    · exact doP_ok st _ h
    · exact readP_ok ls _ _ (doP_ok st _ h)
theorem readP_F : ∀ (ls : List ByteArray) (a : Int) (st : PSt), (readP ls a st).1.F.length ≤ st.F.length + ls.length
  | [], _, st => Nat.le_refl _
  | l :: ls, a, st => by
    have h := doP_F st (wordsB l)
    unfold readP
    split
    · simp; omega
    · have := readP_F ls (a + (l.size + 1)) (doP st (wordsB l)).1
      simp; omega

/-- what finish finds -/
def FinE (st : PSt) (S : List Int) (k : Int) : Prop :=
  ((st.L.length = 0 ∨ st.D = 0) ∧ k = 4) ∨ (¬ (st.L.length = 0 ∨ st.D = 0) ∧ ∃ T, LL.IsClose st.L.length (toPrs st.F) T ∧ ((LL.rightB T = true ∧ S = T ∧ k = 0) ∨ (LL.rightB T = false ∧ k = 11)))
def FinP (wB : World) (r : Nat) (w : World) (st : PSt) (e : Ending) (w' : World) : Prop :=
  ∃ vL vU vI vO vF S k, e = .returned (.int .i64 k) ∧ w'.heap[r]? = some (rObj vL vU vI vO st.D vF) ∧ w'.ownsRow wB.heap.size 9 1 vL st.L.length (st.L.map Value.string) ∧ Nums .u64 w'.heap.size w' vU S ∧ Wide S ∧
    w'.ownsRow wB.heap.size 101 2 vI st.I.length (cellsC st.I) ∧ w'.ownsRow wB.heap.size 101 2 vO st.O.length (cellsC st.O) ∧
    Below wB.heap.size wB w' ∧ (∀ q, q < w.heap.size → q ≠ r → w'.heap[q]? = w.heap[q]?) ∧ w.heap.size ≤ w'.heap.size ∧ FinE st S k
theorem prs_of_rowF {W : World} {base : Nat} {e : TypeId} {v : Value} {l : List (Int × Int)} (h : W.ownsRow base e 2 v l.length (cellsF l)) : PrsI W.heap.size W v l := by
  have hlt := h.lt
  obtain ⟨_, ⟨rfl, h0⟩ | ⟨g, cap, cur, rfl, hb, hg, hn, hm, hs, hx⟩⟩ := h
  · exact .inl ⟨⟨_, _, rfl⟩, List.length_eq_zero_iff.1 h0⟩
  · refine .inr ⟨g, 0, cap, rfl, (hlt g rfl).2, hn, fun j hj => ?_⟩
    have hg2 := cellsF_get l j
    rw [List.getElem?_eq_getElem hj] at hg2
    have t1 : (cur.toList.take (l.length * 2))[j * 2]? = (cellsF l)[j * 2]? := by rw [hx]
    have t2 : (cur.toList.take (l.length * 2))[j * 2 + 1]? = (cellsF l)[j * 2 + 1]? := by rw [hx]
    rw [List.getElem?_take_of_lt (by omega), hg2.1] at t1
    rw [List.getElem?_take_of_lt (by omega), hg2.2] at t2
    rw [List.getElem?_eq_getElem hj]
    simp only [World.cell?, hg, Nat.zero_add]
    exact ⟨by simpa using t1, by simpa using t2⟩
end Go.Proofs.YtdkpnbjkehakjaaGreatDoor

/-! policy: the walk of finish -/
namespace Go.Proofs.YtdkpnbjkehakjaaGreatDoor
open Go.RowKit

theorem nums_on {k : IntKind} {w W : World} {v : Value} {cs : List Int} (h : Nums k w.heap.size w v cs) (hb : Below w.heap.size w W) : Nums k W.heap.size W v cs := (h.below hb).mono hb.size
theorem prs_on {w W : World} {v : Value} {ps : List (Int × Int)} (h : PrsI w.heap.size w v ps) (hb : Below w.heap.size w W) : PrsI W.heap.size W v ps := by
  rcases h with h | ⟨b, off, cap, e, hlt, hc, hcell⟩
  · exact .inl h
  · exact .inr ⟨b, off, cap, e, Nat.lt_of_lt_of_le hlt hb.size, hc, fun j hj => ⟨(hb.cell (p := ⟨b, off + j * 2, none⟩) hlt).trans (hcell j hj).1, (hb.cell (p := ⟨b, off + j * 2 + 1, none⟩) hlt).trans (hcell j hj).2⟩⟩
theorem nums_set1 {k : IntKind} {w : World} {n : Nat} {v u : Value} {ss : List Int} {r : Nat} (h : Nums k n w v ss) (hr : w.cell? ⟨r, 1, none⟩ = some (.slice none 0 0)) : Nums k n (w.setCell ⟨r, 1, none⟩ u) v ss := by
  rcases h with h | ⟨b, off, cap, rfl, hb, hc, hcell⟩
  · exact .inl h
  · refine .inr ⟨b, off, cap, rfl, hb, hc, fun j hj => (World.cell?_setCell_other _ _ _ _ ?_).trans (hcell j hj)⟩
    intro e
    have := hcell j hj
    rw [← e, hr] at this
    cases this
theorem wf6 {n : Int} (h0 : -9223372036854775808 ≤ n) (h1 : n ≤ 9223372036854775807) : (Lit.int .i64 n).wf = true := by
  simp only [Lit.wf, Bool.and_eq_true, decide_eq_true_eq]; exact ⟨h0, h1⟩
/-- what Build answers, where there are levels, and flows between them -/
theorem fin_of_build {st : PSt} {S : List Int} {k : Int} (h0 : ¬ (st.L.length = 0 ∨ st.D = 0)) (h64 : st.L.length ≤ 64) (hf : FlowsOk st)
    (h : (¬ (1 ≤ (st.L.length : Int) ∧ (st.L.length : Int) ≤ 64 ∧ ∀ p ∈ st.F, pairOk (st.L.length : Int).toNat p = true) ∧ S = [] ∧ k = 1) ∨
     (1 ≤ (st.L.length : Int) ∧ (st.L.length : Int) ≤ 64 ∧ (∀ p ∈ st.F, pairOk (st.L.length : Int).toNat p = true) ∧ ∃ T, LL.IsClose (st.L.length : Int).toNat (toPrs st.F) T ∧ ((LL.rightB T = true ∧ S = T ∧ k = 0) ∨ (LL.rightB T = false ∧ S = [] ∧ k = 11)))) : FinE st S k := by
  rw [Int.toNat_natCast] at h
  rcases h with ⟨h, _⟩ | ⟨_, _, _, T, h1, h2⟩
  · exact absurd ⟨by omega, by omega, hf⟩ h
  · refine .inr ⟨h0, T, h1, ?_⟩
    rcases h2 with ⟨a, b, c⟩ | ⟨a, _, c⟩
    · exact .inl ⟨a, b, c⟩
    · exact .inr ⟨a, c⟩
set_option maxRecDepth 100000 in
set_option maxHeartbeats 6400000 in
theorem finish6_any (wB : World) (r : Nat) (w : World) (vL vI vO vF : Value) (st : PSt) (hB : Below wB.heap.size wB w) (hS : RSt wB.heap.size r w vL vI vO vF st) (hF : st.F.length ≤ 1000000) (hFk : FlowsOk st) (hT : Tz wB) :
    Calls Tryz.prog 33 #[.pointer (some ⟨r, 0, none⟩)] w (FinP wB r w st) := by
  have HS := Lib.hid hS
  have HBB := Lib.hid hB
  have HT := Lib.hid hT
  have HFk := Lib.hid hFk
  obtain ⟨aL, capL, rfl⟩ := hS.strs.form
  obtain ⟨c0, c1, c2, c3, c4, c5⟩ := rObj_cell hS.obj
  have hrl := hS.lt
  clear hS hB hT hFk
  by_cases h0 : st.L.length = 0
  · have e0 : ((st.L.length : Int) == 0) = true := by rw [beq_iff_eq]; omega
    have HE := Lib.hid (show FinE st [] 4 from .inl ⟨.inl h0, rfl⟩)
    clear h0
    go_enter Tryz.func33, Tryz.ntmps33
    go_wp2_with fail
    go_ret
    exact ⟨_, _, _, _, _, [], 4, rfl, HS.out.obj, HS.out.oL, .inl ⟨⟨_, _, rfl⟩, rfl⟩, (fun x hx => by simp at hx), HS.out.oI, HS.out.oO, HBB.out, fun q _ _ => rfl, Nat.le_refl _, HE.out⟩
  · have e0 : ((st.L.length : Int) == 0) = false := by rw [beq_eq_false_iff_ne]; omega
    by_cases h1 : st.D = 0
    · have e1 : (st.D == 0) = true := by rw [h1]; rfl
      have HE := Lib.hid (show FinE st [] 4 from .inl ⟨.inr h1, rfl⟩)
      clear h0 h1
      go_enter Tryz.func33, Tryz.ntmps33
      go_wp2_with fail
      go_ret
      exact ⟨_, _, _, _, _, [], 4, rfl, HS.out.obj, HS.out.oL, .inl ⟨⟨_, _, rfl⟩, rfl⟩, (fun x hx => by simp at hx), HS.out.oI, HS.out.oO, HBB.out, fun q _ _ => rfl, Nat.le_refl _, HE.out⟩
    · have e1 : (st.D == 0) = false := by rw [beq_eq_false_iff_ne]; exact h1
      have HN := Lib.hid (show ¬ (st.L.length = 0 ∨ st.D = 0) by simp [h0, h1])
      have h64 := HS.out.nL
      clear h1
      have HPr := Lib.hid (prs_of_rowF HS.out.oF)
      go_enter Tryz.func33, Tryz.ntmps33
      go_wp2_with fail
      go_region_held3 (fun W => W.cell? ⟨r, 0, none⟩ = some (.slice aL st.L.length capL) ∧ W.cell? ⟨r, 5, none⟩ = some vF)
        (first
          | (go_keep; done)
          | exact ⟨(hb2.cell (p := ⟨r, 0, none⟩) hrl).trans c0, (hb2.cell (p := ⟨r, 5, none⟩) hrl).trans c5⟩)
        ((go_at_call 53; refine (build5_any vF st.F _ (st.L.length : Int) _ (prs_on HPr.out (bdN (Below.refl _ _) 1)) (Nat.le_refl _) (by simp only [big5]; omega) (wf6 (by omega) (by omega)) (HT.out.on (HBB.out.trans (bdN (Below.refl _ _) 1)))).mono ?_; rintro e w2 ⟨⟨vU, S, k, rfl, hu, hw, hk⟩, hb2'⟩; obtain ⟨aU, cU, rfl⟩ := hu.form; have hb2 := bdrew6 hb2'; clear hb2'))
      have hq := rObj_cell (HS.out.below hb2).obj
      have HS2 := Lib.hid (HS.out.below hb2)
      have HU := Lib.hid hu
      have HWd := Lib.hid hw
      have HK := Lib.hid hk
      have HB2 := Lib.hid hb2
      have f1 := rObj_frozen (k := 1) HS2.out.obj
      obtain ⟨q0, q1, q2, q3, q4, q5⟩ := hq
      clear hu hw hk hb2
      go_wp2_with fail
      go_ret
      refine ⟨_, _, _, _, _, S, k, rfl, set_obj (c := 1) _ HS2.out.obj, ?_, ?_, HWd.out, ?_, ?_, ?_, ?_, ?_, fin_of_build HN.out h64 HFk.out HK.out⟩
      · exact own_of_block HS2.out.oL fun q hq => Below.heap_setCell _ _ _ _ (fun e => own_other HS2.out.oL HS2.out.obj (by decide) (by rw [hq]; exact congrArg some e))
      · exact (nums_set1 HU.out (rObj_cell HS2.out.obj).2.1).mono (by simp)
      · exact own_of_block HS2.out.oI fun q hq => Below.heap_setCell _ _ _ _ (fun e => own_other HS2.out.oI HS2.out.obj (by decide) (by rw [hq]; exact congrArg some e))
      · exact own_of_block HS2.out.oO fun q hq => Below.heap_setCell _ _ _ _ (fun e => own_other HS2.out.oO HS2.out.obj (by decide) (by rw [hq]; exact congrArg some e))
      · exact (HBB.out.trans (HB2.out.mono HBB.out.size)).setCell (p := ⟨r, 1, none⟩) HS2.out.base _
      · intro q hq hqr
        rw [Below.heap_setCell _ _ _ _ hqr]
        exact HB2.out.block q hq
      · have := HB2.out.size; simp; exact this
end Go.Proofs.YtdkpnbjkehakjaaGreatDoor

/-! policy: the walk of Parse -/
namespace Go.Proofs.YtdkpnbjkehakjaaGreatDoor
open Go.RowKit
open Go.Lib (Utf8Tabs)

/-- the reader that has read nothing -/
def st06 : PSt := ⟨[], [], [], 0, []⟩
/-- what Parse tells of a text -/
def ParseE (s : ByteArray) (st : PSt) (S : List Int) (at_ e : Int) : Prop :=
  if 65536 < s.size then st = st06 ∧ S = [] ∧ at_ = 0 ∧ e = 2
  else if 0 ≤ badI s then st = st06 ∧ S = [] ∧ at_ = badI s ∧ e = 5
  else if (readP (linesB s) 0 st06).2.2 ≠ 0 then st = st06 ∧ S = [] ∧ at_ = (readP (linesB s) 0 st06).2.1 ∧ e = (readP (linesB s) 0 st06).2.2
  else ∃ k, FinE (readP (linesB s) 0 st06).1 S k ∧ ((k = 0 ∧ st = (readP (linesB s) 0 st06).1 ∧ at_ = 0 ∧ e = 0) ∨ (k ≠ 0 ∧ S = [] ∧ st = st06 ∧ at_ = s.size ∧ e = k))
/-- a policy as a value: the reader's state, and the masks -/
def PolV (w : World) (v : Value) (st : PSt) (S : List Int) : Prop :=
  ∃ vL vU vI vO, v = .agg #[vL, vU, vI, vO, .int .i64 st.D] ∧ Strs w.heap.size w vL st.L ∧ Nums .u64 w.heap.size w vU S ∧ Chans w.heap.size w vI st.I ∧ Chans w.heap.size w vO st.O
theorem PolV.none (w : World) (S : List Int) (h : S = []) : PolV w (.agg #[.slice none 0 0, .slice none 0 0, .slice none 0 0, .slice none 0 0, .int .i64 0]) st06 S := by
  subst h
  exact ⟨_, _, _, _, rfl, .inl ⟨⟨_, _, rfl, fun _ => rfl⟩, rfl⟩, .inl ⟨⟨_, _, rfl⟩, rfl⟩, .inl ⟨⟨_, _, rfl, fun _ => rfl⟩, rfl⟩, .inl ⟨⟨_, _, rfl, fun _ => rfl⟩, rfl⟩⟩
def ParseP (wB : World) (s : ByteArray) (e : Ending) (w' : World) : Prop :=
  ∃ v st S at_ k, e = .returned (.tuple #[v, .int .i64 at_, .int .i64 k]) ∧ PolV w' v st S ∧ ParseE s st S at_ k ∧ Below wB.heap.size wB w'

/-- a policy stored cell by cell -/
def set5 (w : World) (p : Nat) (a0 a1 a2 a3 a4 : Value) : World := ((((w.setCell ⟨p, 0, none⟩ a0).setCell ⟨p, 1, none⟩ a1).setCell ⟨p, 2, none⟩ a2).setCell ⟨p, 3, none⟩ a3).setCell ⟨p, 4, none⟩ a4
theorem set5_obj {w : World} {p : Nat} {b0 b1 b2 b3 b4 : Value} {t : TypeId} (h : w.heap[p]? = some (.cells #[b0, b1, b2, b3, b4] t)) (a0 a1 a2 a3 a4 : Value) : (set5 w p a0 a1 a2 a3 a4).heap[p]? = some (.cells #[a0, a1, a2, a3, a4] t) :=
  set_obj (c := 4) a4 (set_obj (c := 3) a3 (set_obj (c := 2) a2 (set_obj (c := 1) a1 (set_obj (c := 0) a0 h))))
theorem set5_other (w : World) (p : Nat) (a0 a1 a2 a3 a4 : Value) (k : Nat) (h : k ≠ p) : (set5 w p a0 a1 a2 a3 a4).heap[k]? = w.heap[k]? := by
  unfold set5
  rw [Below.heap_setCell _ _ _ _ h, Below.heap_setCell _ _ _ _ h, Below.heap_setCell _ _ _ _ h, Below.heap_setCell _ _ _ _ h, Below.heap_setCell _ _ _ _ h]
theorem set5_size (w : World) (p : Nat) (a0 a1 a2 a3 a4 : Value) : (set5 w p a0 a1 a2 a3 a4).heap.size = w.heap.size := by simp [set5]
theorem set5_below {B : Nat} {a w : World} (h : Below B a w) {p : Nat} (hp : B ≤ p) (a0 a1 a2 a3 a4 : Value) : Below B a (set5 w p a0 a1 a2 a3 a4) :=
  ((((h.setCell (p := ⟨p, 0, none⟩) hp _).setCell (p := ⟨p, 1, none⟩) hp _).setCell (p := ⟨p, 2, none⟩) hp _).setCell (p := ⟨p, 3, none⟩) hp _).setCell (p := ⟨p, 4, none⟩) hp _
theorem set5_cells {w : World} {p : Nat} {b0 b1 b2 b3 b4 : Value} {t : TypeId} (h : w.heap[p]? = some (.cells #[b0, b1, b2, b3, b4] t)) (a0 a1 a2 a3 a4 : Value) :
    (set5 w p a0 a1 a2 a3 a4).cell? ⟨p, 0, none⟩ = some a0 ∧ (set5 w p a0 a1 a2 a3 a4).cell? ⟨p, 1, none⟩ = some a1 ∧ (set5 w p a0 a1 a2 a3 a4).cell? ⟨p, 2, none⟩ = some a2 ∧ (set5 w p a0 a1 a2 a3 a4).cell? ⟨p, 3, none⟩ = some a3 ∧ (set5 w p a0 a1 a2 a3 a4).cell? ⟨p, 4, none⟩ = some a4 :=
  block_cells (set5_obj h a0 a1 a2 a3 a4)
theorem nums_apart {k : IntKind} {w w' : World} {n p : Nat} {v : Value} {ss : List Int} {cs : Array Value} {t : TypeId} (h : Nums k n w v ss) (hp : w.heap[p]? = some (.cells cs t)) (hc : ∀ (c : Nat) q, cs[c]? ≠ some (.int k q)) (hw : ∀ b, b ≠ p → w'.heap[b]? = w.heap[b]?) : Nums k n w' v ss := by
  rcases h with h | ⟨b, off, cap, rfl, hb, hl, hcell⟩
  · exact .inl h
  · refine .inr ⟨b, off, cap, rfl, hb, hl, fun j hj => (World.cell?_of_block (hw b ?_)).trans (hcell j hj)⟩
    rintro rfl
    have := hcell j hj
    simp only [World.cell?, hp] at this
    exact hc _ _ (by simpa using this)
/-- the policy that Parse answers, in the result's block -/
theorem polv_set5 {w5 : World} {B p : Nat} {vL vU vI vO : Value} {st : PSt} {S : List Int} {d0 : Int} (hp : w5.heap[p]? = some (.cells #[.slice none 0 0, .slice none 0 0, .slice none 0 0, .slice none 0 0, .int .i64 d0] 26))
    (oL : w5.ownsRow B 9 1 vL st.L.length (st.L.map Value.string)) (hU : Nums .u64 w5.heap.size w5 vU S) (oI : w5.ownsRow B 101 2 vI st.I.length (cellsC st.I)) (oO : w5.ownsRow B 101 2 vO st.O.length (cellsC st.O)) :
    PolV (set5 w5 p vL vU vI vO (.int .i64 st.D)) (.agg #[vL, vU, vI, vO, .int .i64 st.D]) st S := by
  have ho := set5_other w5 p vL vU vI vO (.int .i64 st.D)
  refine ⟨_, _, _, _, rfl, ?_, ?_, ?_, ?_⟩
  · exact strs_of_row (own_of_block oL fun k hk => ho k (fun e => own_other oL hp (by decide) (by rw [hk, e])))
  · rw [set5_size]
    refine nums_apart hU hp (fun c q => ?_) ho
    match c with
    | 0 | 1 | 2 | 3 => simp
    | 4 => simp
    | c + 5 => simp
  · exact chans_of_row (own_of_block oI fun k hk => ho k (fun e => own_other oI hp (by decide) (by rw [hk, e])))
  · exact chans_of_row (own_of_block oO fun k hk => ho k (fun e => own_other oO hp (by decide) (by rw [hk, e])))
theorem own_nil6 (w : World) (B e size : Nat) : w.ownsRow B e size (.slice none 0 0) (List.length ([] : List Value)) [] := ⟨by simp, .inl ⟨rfl, rfl⟩⟩
/-- the reader that has read nothing, in memory -/
theorem rst_new {w : World} {B : Nat} (hB : B ≤ w.heap.size) : RSt B w.heap.size (w.alloc (rObj (.slice none 0 0) (.slice none 0 0) (.slice none 0 0) (.slice none 0 0) 0 (.slice none 0 0))) (.slice none 0 0) (.slice none 0 0) (.slice none 0 0) (.slice none 0 0) st06 where
  obj := by show (w.heap.push _)[w.heap.size]? = _; simp; rfl
  base := hB
  oL := own_none _ _ _ _
  oI := own_none _ _ _ _
  oO := own_none _ _ _ _
  oF := own_none _ _ _ _
  io := fun k hk => by simp [Value.ownBlock] at hk
  nL := by decide
  nI := by decide
  nO := by decide
theorem free_new {w W : World} {k : Nat} (h : W.heap[w.heap.size]? = some (rObj (.slice none 0 0) (.slice none 0 0) (.slice none 0 0) (.slice none 0 0) 0 (.slice none 0 0))) (hk : k < w.heap.size) : Free w.heap.size W k := by
  refine ⟨by omega, fun v0 v1 v2 v3 d v5 e => ?_⟩
  obtain ⟨rfl, rfl, rfl, rfl, rfl, rfl⟩ := rObj_inj (Option.some.inj (h.symm.trans e))
  simp [Value.ownBlock]

set_option maxRecDepth 100000 in
set_option maxHeartbeats 6400000 in
theorem parse6_any (s : ByteArray) (w : World) (hs : s.size ≤ 140737488351232) (hT : Utf8Tabs 0 1 w) (hE : Errs w) (hP : Pow w) (hM : MaxL w) (hTz : Tz w) :
    Calls Tryz.prog 21 #[.string s] w (ParseP w s) := by
  by_cases h0 : 65536 < s.size
  · have e0 : decide ((65536 : Int) < (s.size : Int)) = true := decide_eq_true (by omega)
    have HQ := Lib.hid (show ParseE s st06 [] 0 2 by unfold ParseE; rw [if_pos h0]; exact ⟨rfl, rfl, rfl, rfl⟩)
    clear h0 hT hE hP hM hTz
    go_enter Tryz.func21, Tryz.ntmps21
    go_wp2_with fail
    refine bodyPost_ret (v := .tuple #[.agg #[.slice none 0 0, .slice none 0 0, .slice none 0 0, .slice none 0 0, .int .i64 0], .int .i64 0, .int .i64 2]) (by simp [results, Tryz.results21, go_sem]) rfl ?_
    exact ⟨_, _, _, _, _, rfl, PolV.none _ _ rfl, HQ.out, (Below.refl _ _).alloc (Nat.le_refl _) _⟩
  · have e0 : decide ((65536 : Int) < (s.size : Int)) = false := decide_eq_false (by omega)
    have hs6 : s.size ≤ 65536 := by omega
    have HQ := Lib.hid (show ∀ st S at_ e, ParseE s st S at_ e = if 0 ≤ badI s then st = st06 ∧ S = [] ∧ at_ = badI s ∧ e = 5
      else if (readP (linesB s) 0 st06).2.2 ≠ 0 then st = st06 ∧ S = [] ∧ at_ = (readP (linesB s) 0 st06).2.1 ∧ e = (readP (linesB s) 0 st06).2.2
      else ∃ k, FinE (readP (linesB s) 0 st06).1 S k ∧ ((k = 0 ∧ st = (readP (linesB s) 0 st06).1 ∧ at_ = 0 ∧ e = 0) ∨ (k ≠ 0 ∧ S = [] ∧ st = st06 ∧ at_ = s.size ∧ e = k)) from
        fun st S at_ e => by unfold ParseE; rw [if_neg h0])
    have hB1 : Below w.heap.size w (w.alloc (.cells #[.slice none 0 0, .slice none 0 0, .slice none 0 0, .slice none 0 0, .int .i64 0] 26)) := (Below.refl _ _).alloc (Nat.le_refl _) _
    have HT := Lib.hid (Utf8Tabs_below hT hB1)
    have HE := Lib.hid hE
    have HPw := Lib.hid hP
    have HM := Lib.hid hM
    have HTz := Lib.hid hTz
    have HB1 := Lib.hid hB1
    have HG1 := Lib.hid (show (w.alloc (.cells #[.slice none 0 0, .slice none 0 0, .slice none 0 0, .slice none 0 0, .int .i64 0] 26)).heap[w.heap.size]? = some (.cells #[.slice none 0 0, .slice none 0 0, .slice none 0 0, .slice none 0 0, .int .i64 0] 26) by
      show (w.heap.push _)[w.heap.size]? = _; simp)
    clear h0 hT hE hP hM hTz hB1
    go_enter Tryz.func21, Tryz.ntmps21
    go_wp2_with fail
    refine (bad_any s _ (by omega) HT.out).mono ?_
    rintro e w2 ⟨rfl, hb2⟩
    have hz1 : w.heap.size < (w.alloc (.cells #[.slice none 0 0, .slice none 0 0, .slice none 0 0, .slice none 0 0, .int .i64 0] 26)).heap.size := by simp
    have hg2 := (hb2.block w.heap.size hz1).trans HG1.out
    have HB2 := Lib.hid (bstep HB1.out hb2)
    have hlt2 : w.heap.size < w2.heap.size := Nat.lt_of_lt_of_le hz1 hb2.size
    clear hb2 hz1 HG1 HB1 HT
    by_cases h1 : 0 ≤ badI s
    · have e1 := decide_eq_true h1
      have HQ2 := Lib.hid (show ParseE s st06 [] (badI s) 5 by rw [HQ.out, if_pos h1]; exact ⟨rfl, rfl, rfl, rfl⟩)
      obtain ⟨c0, c1, c2, c3, c4⟩ := block_cells hg2
      have f0 := block_frozen (k := 0) hg2
      have f1 := block_frozen (k := 1) hg2
      have f2 := block_frozen (k := 2) hg2
      have f3 := block_frozen (k := 3) hg2
      have f4 := block_frozen (k := 4) hg2
      clear h1 HQ
      have hd := set5_cells hg2 (.slice none 0 0) (.slice none 0 0) (.slice none 0 0) (.slice none 0 0) (.int .i64 0)
      have HD := Lib.hid hd
      clear hd hg2
      go_wp2_with fail
      obtain ⟨d0, d1, d2, d3, d4⟩ := HD.out
      unfold set5 at d0 d1 d2 d3 d4
      refine bodyPost_ret (v := .tuple #[.agg #[.slice none 0 0, .slice none 0 0, .slice none 0 0, .slice none 0 0, .int .i64 0], .int .i64 (badI s), .int .i64 5]) (by simp [results, Tryz.results21, go_sem, d0, d1, d2, d3, d4]) rfl ?_
      exact ⟨_, _, _, _, _, rfl, PolV.none _ _ rfl, HQ2.out, set5_below HB2.out (Nat.le_refl _) _ _ _ _ _⟩
    · have e1 := decide_eq_false h1
      have HQ3 := Lib.hid (show ∀ st S at_ e, ParseE s st S at_ e = if (readP (linesB s) 0 st06).2.2 ≠ 0 then st = st06 ∧ S = [] ∧ at_ = (readP (linesB s) 0 st06).2.1 ∧ e = (readP (linesB s) 0 st06).2.2
        else ∃ k, FinE (readP (linesB s) 0 st06).1 S k ∧ ((k = 0 ∧ st = (readP (linesB s) 0 st06).1 ∧ at_ = 0 ∧ e = 0) ∨ (k ≠ 0 ∧ S = [] ∧ st = st06 ∧ at_ = s.size ∧ e = k)) from
          fun st S at_ e => by rw [HQ.out, if_neg h1])
      have HS3 := Lib.hid (rst_new (w := w2) (B := w.heap.size) HB2.out.size)
      have HB3 := Lib.hid (HB2.out.alloc HB2.out.size (rObj (.slice none 0 0) (.slice none 0 0) (.slice none 0 0) (.slice none 0 0) 0 (.slice none 0 0)))
      have HG3 := Lib.hid ((Below.heap_alloc w2 (rObj (.slice none 0 0) (.slice none 0 0) (.slice none 0 0) (.slice none 0 0) 0 (.slice none 0 0)) w.heap.size hlt2).trans hg2)
      have HF3 := Lib.hid (free_new (k := w.heap.size) HS3.out.obj hlt2)
      have HFl := Lib.hid (readP_F (linesB s) 0 st06)
      have HOk := Lib.hid (readP_ok (linesB s) 0 st06 (fun p hp => by simp [st06] at hp))
      have hll : (linesB s).length ≤ 65537 := by rw [linesB_len]; have := Lib.countB_le ⟨#[10]⟩ (by decide) s.size s (Nat.le_refl _); omega
      clear h1 HQ hg2
      go_wp2_with fail
      refine (read6_any w w2.heap.size s _ _ _ _ _ st06 HB3.out HS3.out hs6 (by decide) HE.out HPw.out HM.out).mono ?_
      rintro e w4 ⟨rfl, h4, hst4⟩
      have hlt3 : w.heap.size < (w2.alloc (rObj (.slice none 0 0) (.slice none 0 0) (.slice none 0 0) (.slice none 0 0) 0 (.slice none 0 0))).heap.size := by simp; omega
      have hg4 := (hst4.kept w.heap.size hlt3 HF3.out).1.trans HG3.out
      have HB4 := Lib.hid (HB3.out.trans hst4.below)
      have HS4 := Lib.hid h4
      have hlt4 : w.heap.size < w4.heap.size := Nat.lt_of_lt_of_le hlt3 hst4.below.size
      clear h4 hst4 HG3 HF3 HS3 HB3 hlt3
      generalize readP (linesB s) 0 st06 = p at *
      by_cases hz : p.2.2 = 0
      · have e2 : (p.2.2 != 0) = false := by rw [hz]; rfl
        have HQ4 := Lib.hid (show ∀ st S at_ e, ParseE s st S at_ e = ∃ k, FinE p.1 S k ∧ ((k = 0 ∧ st = p.1 ∧ at_ = 0 ∧ e = 0) ∨ (k ≠ 0 ∧ S = [] ∧ st = st06 ∧ at_ = s.size ∧ e = k)) from
          fun st S at_ e => by rw [HQ3.out, if_neg (by simp [hz])])
        clear HQ3 hz
        obtain ⟨vL, vI, vO, vF, h4⟩ := HS4.out
        have HS5 := Lib.hid h4
        clear h4 HS4
        have HG4 := Lib.hid hg4
        clear hg4
        go_wp2_with fail
        refine (finish6_any w w2.heap.size w4 vL vI vO vF p.1 HB4.out HS5.out (by have := HFl.out; simp [st06] at this; omega) HOk.out HTz.out).mono ?_
        rintro e w5 ⟨vL5, vU5, vI5, vO5, vF5, S, k, rfl, hobj, oL, oU, hW, oI, oO, hb5, hk5, hz5, hfin⟩
        have hg5 := (hk5 w.heap.size hlt4 (by omega)).trans HG4.out
        by_cases hk : k = 0
        · subst hk
          have HR := Lib.hid (polv_set5 hg5 oL oU oI oO)
          have hd := set5_cells hg5 vL5 vU5 vI5 vO5 (.int .i64 p.1.D)
          have HD := Lib.hid hd
          obtain ⟨q0, q1, q2, q3, q4, q5⟩ := rObj_cell hobj
          have HB5 := Lib.hid hb5
          have HFin := Lib.hid hfin
          obtain ⟨c0, c1, c2, c3, c4⟩ := block_cells hg5
          have f0 := block_frozen (k := 0) hg5
          have f1 := block_frozen (k := 1) hg5
          have f2 := block_frozen (k := 2) hg5
          have f3 := block_frozen (k := 3) hg5
          have f4 := block_frozen (k := 4) hg5
          obtain ⟨aL, cL, hL⟩ := (strs_of_row oL).form
          obtain ⟨aU, cU, hU⟩ := oU.form
          obtain ⟨aI, cI, hI⟩ := (chans_of_row oI).form
          obtain ⟨aO, cO, hO⟩ := (chans_of_row oO).form
          subst hL hU hI hO
          clear hd hg5 hobj oL oU hW oI oO hb5 hk5 hz5 hfin
          go_wp2_with fail
          obtain ⟨d0, d1, d2, d3, d4⟩ := HD.out
          unfold set5 at d0 d1 d2 d3 d4
          refine bodyPost_ret (v := .tuple #[.agg #[.slice aL p.1.L.length cL, .slice aU S.length cU, .slice aI p.1.I.length cI, .slice aO p.1.O.length cO, .int .i64 p.1.D], .int .i64 0, .int .i64 0]) (by simp [results, Tryz.results21, go_sem, d0, d1, d2, d3, d4]) rfl ?_
          exact ⟨_, p.1, S, 0, 0, rfl, HR.out, by rw [HQ4.out]; exact ⟨0, HFin.out, .inl ⟨rfl, rfl, rfl, rfl⟩⟩, set5_below HB5.out (Nat.le_refl _) _ _ _ _ _⟩
        · have e3 : (k != 0) = true := by rw [bne_iff_ne]; exact hk
          have hd := set5_cells hg5 (.slice none 0 0) (.slice none 0 0) (.slice none 0 0) (.slice none 0 0) (.int .i64 0)
          have HD := Lib.hid hd
          have HB5 := Lib.hid hb5
          have HPE := Lib.hid (show ∃ S0, S0 = [] ∧ ParseE s st06 S0 s.size k from ⟨[], rfl, by
            rw [HQ4.out]
            refine ⟨k, ?_, .inr ⟨hk, rfl, rfl, rfl, rfl⟩⟩
            rcases hfin with ⟨a, b⟩ | ⟨a, T, b, ⟨_, _, c⟩ | ⟨c, d⟩⟩
            · exact .inl ⟨a, b⟩
            · exact absurd c hk
            · exact .inr ⟨a, T, b, .inr ⟨c, d⟩⟩⟩)
          obtain ⟨c0, c1, c2, c3, c4⟩ := block_cells hg5
          have f0 := block_frozen (k := 0) hg5
          have f1 := block_frozen (k := 1) hg5
          have f2 := block_frozen (k := 2) hg5
          have f3 := block_frozen (k := 3) hg5
          have f4 := block_frozen (k := 4) hg5
          clear hd hg5 hobj oL oU hW oI oO hb5 hk5 hz5 hfin hk
          go_wp2_with fail
          obtain ⟨d0, d1, d2, d3, d4⟩ := HD.out
          unfold set5 at d0 d1 d2 d3 d4
          obtain ⟨S0, hS0, hPE⟩ := HPE.out
          refine bodyPost_ret (v := .tuple #[.agg #[.slice none 0 0, .slice none 0 0, .slice none 0 0, .slice none 0 0, .int .i64 0], .int .i64 (s.size : Int), .int .i64 k]) (by simp [results, Tryz.results21, go_sem, d0, d1, d2, d3, d4]) rfl ?_
          exact ⟨_, _, _, _, _, rfl, PolV.none _ _ hS0, hPE, set5_below HB5.out (Nat.le_refl _) _ _ _ _ _⟩
      · have e2 : (p.2.2 != 0) = true := by rw [bne_iff_ne]; exact hz
        have HQ4 := Lib.hid (show ParseE s st06 [] p.2.1 p.2.2 by rw [HQ3.out, if_pos hz]; exact ⟨rfl, rfl, rfl, rfl⟩)
        have hd := set5_cells hg4 (.slice none 0 0) (.slice none 0 0) (.slice none 0 0) (.slice none 0 0) (.int .i64 0)
        have HD := Lib.hid hd
        obtain ⟨c0, c1, c2, c3, c4⟩ := block_cells hg4
        have f0 := block_frozen (k := 0) hg4
        have f1 := block_frozen (k := 1) hg4
        have f2 := block_frozen (k := 2) hg4
        have f3 := block_frozen (k := 3) hg4
        have f4 := block_frozen (k := 4) hg4
        clear hd hg4 HQ3 hz
        go_wp2_with fail
        obtain ⟨d0, d1, d2, d3, d4⟩ := HD.out
        unfold set5 at d0 d1 d2 d3 d4
        refine bodyPost_ret (v := .tuple #[.agg #[.slice none 0 0, .slice none 0 0, .slice none 0 0, .slice none 0 0, .int .i64 0], .int .i64 p.2.1, .int .i64 p.2.2]) (by simp [results, Tryz.results21, go_sem, d0, d1, d2, d3, d4]) rfl ?_
        exact ⟨_, _, _, _, _, rfl, PolV.none _ _ rfl, HQ4.out, set5_below HB4.out (Nat.le_refl _) _ _ _ _ _⟩
end Go.Proofs.YtdkpnbjkehakjaaGreatDoor
