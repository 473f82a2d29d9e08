import Derived.Test.YtdkpnbjkehakjaaGreatDoorPolQ
set_option linter.unusedSimpArgs false
set_option linter.unusedVariables false
/-! policy: the walk of read -/
namespace Go.Proofs.YtdkpnbjkehakjaaGreatDoor
open Go.RowKit

/-- what read answers -/
def ReadP (B r : Nat) (w : World) (p : PSt × Int × Int) (e : Ending) (w' : World) : Prop :=
  e = .returned (.tuple #[.int .i64 p.2.1, .int .i64 p.2.2]) ∧ (∃ vL vI vO vF, RSt B r w' vL vI vO vF p.1) ∧ Step B r w w'
def RRel (B r : Nat) (W0 : World) (LS : List ByteArray) (st0 : PSt) (a i : Value) (wr : World) : Prop :=
  ∃ (k : Nat) (at_ : Int) (st : PSt) (vL vI vO vF : Value), k ≤ LS.length ∧ i = .int .i64 (k : Int) ∧ a = .int .i64 at_ ∧ 0 ≤ at_ ∧ at_ ≤ (k : Int) * 65537 ∧ RSt B r wr vL vI vO vF st ∧ Step B r W0 wr ∧ st.F.length ≤ 1000 + k ∧
    RowKit.Hid (readP LS 0 st0 = readP (LS.drop k) at_ st)
theorem lines_cell (w : World) (LS : List ByteArray) (t : TypeId) (j : Nat) (h : j < LS.length) : (w.alloc (.cells (LS.map Value.string).toArray t)).cell? ⟨w.heap.size, j, none⟩ = some (.string (wd6 LS j)) := by
  have e : (w.alloc (.cells (LS.map Value.string).toArray t)).heap[w.heap.size]? = some (.cells (LS.map Value.string).toArray t) := by show (w.heap.push _)[w.heap.size]? = _; simp
  simp only [World.cell?, e]
  unfold wd6
  simp [List.getElem?_eq_getElem h]
theorem drop_wd {LS : List ByteArray} {k : Nat} (h : k < LS.length) : LS.drop k = wd6 LS k :: LS.drop (k + 1) := by
  unfold wd6
  rw [List.drop_eq_getElem_cons h, List.getElem?_eq_getElem h]; rfl
theorem freev_slice {r A n c : Nat} {w : World} (h : Free r w A) : FreeV r w (.slice (some ⟨A, 0, none⟩) n c) := by
  intro k hk
  simp only [Value.ownBlock, Option.some.injEq] at hk
  subst hk; exact h
theorem Errs.on {B w : World} (h : Errs B) (hb : Below B.heap.size B w) : Errs w := h.below hb

set_option maxRecDepth 100000 in
set_option maxHeartbeats 6400000 in
theorem read6_any (wB : World) (r : Nat) (s : ByteArray) (w : World) (vL vI vO vF : Value) (st0 : PSt) (hB : Below wB.heap.size wB w) (hS : RSt wB.heap.size r w vL vI vO vF st0) (hs : s.size ≤ 65536) (hF : st0.F.length ≤ 1000)
    (hE : Errs wB) (hP : Pow wB) (hM : MaxL wB) :
    Calls Tryz.prog 32 #[.pointer (some ⟨r, 0, none⟩), .string s] w (ReadP wB.heap.size r w (readP (linesB s) 0 st0)) := by
  have hll : (linesB s).length ≤ 65537 := by rw [linesB_len]; have := Lib.countB_le ⟨#[10]⟩ (by decide) s.size s (Nat.le_refl _); omega
  have HLE := Lib.hid (linesB_le s)
  have HS := Lib.hid hS
  have HBB := Lib.hid hB
  have HE := Lib.hid hE
  have HPw := Lib.hid hP
  have HM := Lib.hid hM
  have HF := Lib.hid hF
  clear hS hB hE hP hM hF
  go_enter Tryz.func32, Tryz.ntmps32
  go_wp2_with fail
  refine (lines_any _).mono ?_
  rintro e w1 ⟨rfl, hm1, hb1⟩
  have HM1 := Lib.hid hm1
  clear hm1
  go_wp2_with fail
  refine (split6 s _ hs (HM.out.below (HBB.out.trans (hb1.mono HBB.out.size)))).mono ?_
  rintro e w2 ⟨rfl, hw2⟩
  have hb2 : Below w.heap.size w w2 := by rw [hw2]; exact hb1.alloc hb1.size _
  have HC := Lib.hid (show ∀ j, j < (linesB s).length → w2.cell? ⟨w1.heap.size, j, none⟩ = some (.string (wd6 (linesB s) j)) from fun j hj => by rw [hw2]; exact lines_cell w1 (linesB s) _ j hj)
  have HM2 := Lib.hid (show w2.ownsMap Tryz.prog 9 fnElem w.heap.size 5 linesD by rw [hw2]; exact HM1.out.alloc _)
  have hl1 : w1.heap.size < w2.heap.size := by rw [hw2]; simp
  have hl2 : w.heap.size < w2.heap.size := Nat.lt_of_lt_of_le HM1.out.lt (Nat.le_of_lt hl1)
  have HF1 := Lib.hid (HS.out.fresh hb2 hb1.size)
  have HF2 := Lib.hid (HS.out.fresh hb2 (Nat.le_refl _))
  have HS2 := Lib.hid (HS.out.below hb2)
  have HT2 := Lib.hid (HS.out.step hb2)
  clear hw2 HM1 hb1 HS
  generalize hLS : linesB s = LS at *
  clear hLS
  generalize w1.heap.size = bl at *
  go_wp2_with fail
  go_loopw [7, 16] (fun a i wr => RRel wB.heap.size r w2 LS st0 a i wr) (fun _ i _ => LS.length - (intOf i).toNat)
  case atStart => exact ⟨0, 0, st0, vL, vI, vO, vF, Nat.zero_le _, rfl, rfl, by omega, by omega, HS2.out, Step.refl _ _ _, HF.out, rfl⟩
  case round =>
    obtain ⟨k, at_, st, aL, aI, aO, aF, hk, rfl, rfl, h0, h1, hS, hT, hFk, HP⟩ := hrel
    have hbw : Below wB.heap.size wB wr := HBB.out.trans (HT2.out.below.trans hT.below)
    by_cases hlt : k < LS.length
    · obtain ⟨kb, kf⟩ := hT.kept bl hl1 HF1.out
      obtain ⟨mb, mf⟩ := hT.kept w.heap.size hl2 HF2.out
      have hcl : wr.cell? ⟨bl, k, none⟩ = some (.string (wd6 LS k)) := (World.cell?_of_block (by exact kb)).trans (HC.out k hlt)
      have HMr := Lib.hid (map_kept HM2.out mb)
      have hls : (wd6 LS k).size ≤ 65536 := Nat.le_trans (HLE.out _ (wd6_mem hlt)) hs
      have HW := Lib.hid (words_wd (wd6 LS k) hls)
      have HD := Lib.hid (drop_wd hlt)
      have HSr := Lib.hid hS
      have HT := Lib.hid hT
      have HBw := Lib.hid hbw
      have HKf := Lib.hid kf
      have HMf := Lib.hid mf
      have i1 : (0 : Int) ≤ k ∧ (k : Int) < LS.length := by omega
      clear kb mb kf mf hS hT hbw
      generalize hlg : wd6 LS k = l at *
      clear hlg
      go_wp2_with fail
      refine (fields6 l _ hls).mono ?_
      rintro e w3 ⟨A, rfl, hA, hstr, hb3⟩
      have HB3 := Lib.hid hb3
      have HA := Lib.hid (show Free r w3 A from HSr.out.fresh hb3 hA)
      have HS3 := Lib.hid (HSr.out.below hb3)
      have HT3 := Lib.hid (HSr.out.step hb3)
      have HStr := Lib.hid hstr
      have HE3 := Lib.hid (HE.out.below (HBw.out.trans (hb3.mono HBw.out.size)))
      have HP3 := Lib.hid (HPw.out.below (HBw.out.trans (hb3.mono HBw.out.size)))
      have HM3 := Lib.hid (map_kept HMr.out (hb3.block _ HMr.out.lt))
      clear hb3 hA hstr
      go_wp2_with fail
      refine (do6_any wB.heap.size r w3.heap.size w.heap.size 5 _ (wordsB l) _ aL aI aO aF st HS3.out HStr.out (Nat.le_refl _) (freev_slice HA.out) HW.out.1 (by omega) HE3.out HP3.out HM3.out HW.out.2).mono ?_
      rintro e w4 ⟨rfl, h4, hst4⟩
      have HS4 := Lib.hid h4
      have HT4 := Lib.hid (HT.out.trans (HT3.out.trans hst4))
      have hN := doP_none st (wordsB l)
      have hFn := doP_F st (wordsB l)
      have HR : Hid (readP LS 0 st0 = if (doP st (wordsB l)).2 ≠ 0 then ((doP st (wordsB l)).1, at_ + Lib.index l.data.toList (wd6 (wordsB l) 0).data.toList, (doP st (wordsB l)).2) else readP (LS.drop (k + 1)) (at_ + (l.size + 1)) (doP st (wordsB l)).1) := Lib.hid (by
        rw [HP.out, HD.out, readP])
      by_cases hz : (doP st (wordsB l)).2 = 0
      · have hz' : ((doP st (wordsB l)).2 != 0) = false := by rw [hz]; rfl
        have HR2 := Lib.hid (show readP LS 0 st0 = readP (LS.drop (k + 1)) (at_ + (l.size + 1)) (doP st (wordsB l)).1 by rw [HR.out, if_neg (by simp [hz])])
        clear hN hz h4 hst4 HR
        generalize doP st (wordsB l) = p at *
        go_wp2_with fail
        go_roundw
        case rel =>
          obtain ⟨a4, b4, c4, d4, h4⟩ := HS4.out
          exact ⟨k + 1, at_ + (l.size + 1), p.1, a4, b4, c4, d4, by omega, by go_num, by go_num, by omega, by omega, h4, HT4.out, by omega, HR2⟩
        case measure => simp [intOf]; omega
      · have hz' : ((doP st (wordsB l)).2 != 0) = true := by rw [bne_iff_ne]; exact hz
        have HR2 := Lib.hid (show readP LS 0 st0 = ((doP st (wordsB l)).1, at_ + Lib.index l.data.toList (wd6 (wordsB l) 0).data.toList, (doP st (wordsB l)).2) by rw [HR.out, if_pos hz])
        have hpos := hN hz
        obtain ⟨b, off, cap, hve, hb, hcap, hc⟩ := HStr.out.one hpos
        simp only [Value.slice.injEq, Option.some.injEq, Addr.mk.injEq] at hve
        obtain ⟨⟨rfl, rfl, _⟩, _, rfl⟩ := hve
        have hc0 : w4.cell? ⟨A, 0, none⟩ = some (.string (wd6 (wordsB l) 0)) := (World.cell?_of_block (by exact (hst4.kept A hb HA.out).1)).trans (hc 0 hpos)
        have hi1 := Lib.index_ge l.data.toList (wd6 (wordsB l) 0).data.toList
        have hi2 : Lib.index l.data.toList (wd6 (wordsB l) 0).data.toList ≤ 65536 := by
          have := Lib.index_le l.data.toList (wd6 (wordsB l) 0).data.toList
          have e : l.data.toList.length = l.size := by simp
          omega
        have HM4 := Lib.hid (HM.out.below (HBB.out.trans (HT2.out.below.trans HT4.out.below)))
        clear hN hz hst4 HR hc hb hcap
        generalize doP st (wordsB l) = p at *
        go_wp2_with fail
        refine (index6 l _ _ hls HM4.out).mono ?_
        rintro e w5 ⟨rfl, rfl⟩
        go_wp2_with fail
        go_ret2
        refine ⟨?_, ?_, ?_⟩
        · rw [HR2.out]; rfl
        · rw [HR2.out]; exact HS4.out
        · exact HT2.out.trans HT4.out
    · obtain rfl : k = LS.length := by omega
      have HR := Lib.hid (show readP LS 0 st0 = (st, 0, 0) by rw [HP.out, List.drop_length, readP])
      have HSr := Lib.hid hS
      have HT := Lib.hid (HT2.out.trans hT)
      clear hS hT hbw
      go_wp2_with fail
      go_ret2
      refine ⟨?_, ?_, ?_⟩
      · rw [HR.out]; rfl
      · rw [HR.out]; exact ⟨_, _, _, _, HSr.out⟩
      · exact HT.out
end Go.Proofs.YtdkpnbjkehakjaaGreatDoor
