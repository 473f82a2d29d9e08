import Derived.Test.YthjfgfgkbfhdfaaGreatDoorLawPolicyBack
import Derived.Test.YthjfgfgkbfhdfaaGreatDoorTurnQ
set_option linter.unusedSimpArgs false
set_option linter.unusedVariables false
/-! PolicyTurns: the walk -/
namespace Go.Proofs.YthjfgfgkbfhdfaaGreatDoor
open Go.RowKit
theorem bytes_at {t : ByteArray} {l : List UInt8} (h : t.data.toList = l) {i : Nat} (hi : i < t.size) (hi2 : i < l.length) : t[i] = l[i] := by
  subst h; rfl
theorem piece_bytes (t : ByteArray) (a b : Nat) : (t.extract a b).data.toList = (t.data.toList.drop a).take (b - a) := by
  rw [extract_list]; rfl
/-- a line cut off: whether it names a level -/
def LevF (ln : ByteArray) (b : Bool) : Prop := levB ln.data.toList = b
theorem Cut8.byte {ls : List (List UInt8)} {t : ByteArray} {f i : Nat} {X Y : List UInt8} (h : Cut8 ls f i X Y) (ht : t.data.toList = ls.flatten) (hl : ∀ l ∈ ls, Line8 l) (hi : i < t.size) :
    (((t[i].toNat : Int) == 10) = false ∧ Cut8 ls f (i + 1) X Y) ∨ (((t[i].toNat : Int) == 10) = true ∧
      ((LevF (t.extract f (i + 1)) true ∧ Cut8 ls (i + 1) (i + 1) (X ++ (t.extract f (i + 1)).data.toList) Y) ∨ (LevF (t.extract f (i + 1)) false ∧ Cut8 ls (i + 1) (i + 1) X ((t.extract f (i + 1)).data.toList ++ Y)))) := by
  have hi2 : i < ls.flatten.length := by rw [← ht]; simpa using hi
  have hb := bytes_at ht hi hi2
  have hp : (t.extract f (i + 1)).data.toList = (ls.flatten.drop f).take (i + 1 - f) := by rw [piece_bytes, ht]
  unfold LevF
  rcases h.next hl hi2 with ⟨h1, h2⟩ | ⟨h1, l, h2, h3⟩
  · left
    refine ⟨?_, h2⟩
    rw [← hb] at h1
    rw [beq_eq_false_iff_ne]
    intro e
    exact h1 (UInt8.toNat_inj.1 (by have : (t[i].toNat : Int) = 10 := e; show t[i].toNat = 10; omega))
  · right
    rw [hp, h2]
    refine ⟨by rw [hb, h1]; rfl, h3⟩
theorem toList_data6 (s : ByteArray) : s.toList = s.data.toList := by simp [ByteArray.toList_eq]
def levLitB : ByteArray := ⟨#[108, 101, 118, 101, 108, 32]⟩
theorem lev_cut (ln : ByteArray) : (ln.extract 0 6 = levLitB) ↔ ln.data.toList.take 6 = levLit := by
  have h := piece_bytes ln 0 6
  rw [List.drop_zero, Nat.sub_zero] at h
  constructor
  · intro e; rw [← h, e]; rfl
  · intro e
    rw [← h] at e
    exact ByteArray.ext (Array.toList_inj.1 e)
theorem lev_yes {ln : ByteArray} (h : LevF ln true) : ((ln.extract 0 6).toList == [108, 101, 118, 101, 108, 32]) = true := by
  unfold LevF levB at h
  rw [Bool.and_eq_true, decide_eq_true_eq, beq_iff_eq] at h
  rw [(lev_cut ln).2 h.2]; decide +kernel
theorem lev_not {ln : ByteArray} (h : LevF ln false) (h6 : 6 < ln.size) : ((ln.extract 0 6).toList == [108, 101, 118, 101, 108, 32]) = false := by
  rw [beq_eq_false_iff_ne]
  intro e
  have e2 : ln.data.toList.take 6 = levLit := by
    have h0 := piece_bytes ln 0 6
    rw [List.drop_zero, Nat.sub_zero] at h0
    rw [← h0, ← toList_data6, e]; rfl
  unfold LevF levB at h
  rw [decide_eq_true (by simpa using h6), e2] at h
  simp at h
theorem lev_short {ln : ByteArray} (h : LevF ln true) (h6 : ¬ 6 < ln.size) : False := by
  unfold LevF levB at h
  rw [Bool.and_eq_true, decide_eq_true_eq] at h
  have := h.1
  simp at this
  exact h6 this
set_option maxRecDepth 100000 in
set_option maxHeartbeats 6400000 in
theorem turns_any (v0 v1 v2 v3 : Value) (st : PSt) (S : List Int) (w : World) (h : PolIn w v0 v1 v2 v3 st S) (hw : Wide S) (hsh : Short7 st) (hT : Go.Lib.Utf8Tabs 1 2 w) (hE : Errs w) (hP : Pow w) (hM : MaxL w) (hTz : Tz w) :
    Calls Tryz.prog 5 #[.agg #[v0, v1, v2, v3, .int .i64 st.D]] w fun e w' => e = .returned (.bool true) ∧ Below w.heap.size w w' := by
  have HT := Lib.hid hT
  have HE := Lib.hid hE
  have HPw := Lib.hid hP
  have HM := Lib.hid hM
  have HTz := Lib.hid hTz
  have HW := Lib.hid hw
  have HS := Lib.hid hsh
  have hl2 := h.l2
  have hl1 := h.l1
  obtain ⟨a0, k0, rfl⟩ := h.s0.form
  obtain ⟨a1, k1, rfl⟩ := h.s1.form
  obtain ⟨a2, k2, rfl⟩ := h.s2.form
  obtain ⟨a3, k3, rfl⟩ := h.s3.form
  have hA : Below w.heap.size w (w.alloc (.cells #[.slice a0 st.L.length k0, .slice a1 S.length k1, .slice a2 st.I.length k2, .slice a3 st.O.length k3, .int .i64 st.D] 26)) := (Below.refl _ _).alloc (Nat.le_refl _) _
  have H := Lib.hid (h.below hA)
  have HA := Lib.hid hA
  have HG := Lib.hid (Below.refl (w.alloc (.cells #[.slice a0 st.L.length k0, .slice a1 S.length k1, .slice a2 st.I.length k2, .slice a3 st.O.length k3, .int .i64 st.D] 26)).heap.size (w.alloc (.cells #[.slice a0 st.L.length k0, .slice a1 S.length k1, .slice a2 st.I.length k2, .slice a3 st.O.length k3, .int .i64 st.D] 26)))
  clear h hT hE hP hM hTz hA hw hsh
  obtain ⟨c0, c1, c2, c3, c4⟩ := pol_cells2 HG.out
  go_enter Tryz.func5, Tryz.ntmps5
  go_wp2_with fail
  refine (rcopy_in _ _ _ _ st S _ (H.out.below HG.out)).mono ?_
  rintro e w1 ⟨⟨u0, u1, u2, u3, rfl, hq⟩, hb⟩
  have HQ := Lib.hid hq
  clear hq
  have HG1 := Lib.hid (HG.out.trans (hb.mono HG.out.size))
  clear HG c0 c1 c2 c3 c4
  have HG := HG1
  clear HG1 hb
  have HB := Lib.hid (bstep HA.out HG.out)
  go_wp2_with fail
  refine (print6_any u0 u1 u2 u3 st S _ HQ.out HW.out (HTz.out.on HB.out) HS.out (HPw.out.below HB.out)).mono ?_
  rintro e w2 ⟨⟨t, k, rfl, hpb⟩, hb⟩
  clear HQ HB
  have HG2 := Lib.hid (HG.out.trans (hb.mono HG.out.size))
  clear HG
  have HG := HG2
  clear HG2 hb
  have HB := Lib.hid (bstep HA.out HG.out)
  rcases hpb with hy | hn
  · obtain ⟨hr, rfl, ht⟩ := hy
    have HR := Lib.hid hr
    have htz : t.size ≤ 65536 := by have := rightP_fit hr HW.out; rw [← ht, list_size] at this; exact this
    have HLL := Lib.hid (lsP_line hr (right_cov hr))
    rw [lsP_flat] at ht
    have HTT := Lib.hid ht
    clear hr ht
    go_wp2_with fail
    go_loopw [5, 6, 7, 8] (fun x y f k wr => ∃ (i g : Nat) (X Y : ByteArray), i ≤ t.size ∧ g ≤ i ∧ X.size + Y.size = g ∧ k = .int .i64 (i : Int) ∧ f = .int .i64 (g : Int) ∧ x = .string X ∧ y = .string Y ∧ RowKit.Hid (Cut8 (lsP st S) g i X.data.toList Y.data.toList) ∧ w2 = wr) (fun _ _ _ k _ => t.size - (intOf k).toNat)
    case atStart => exact ⟨0, 0, ⟨#[]⟩, ⟨#[]⟩, Nat.zero_le _, Nat.le_refl _, rfl, rfl, rfl, rfl, rfl, Lib.hid (Cut8.start _), rfl⟩
    case round =>
      obtain ⟨i, g, X, Y, hi, hg, hxy, rfl, rfl, rfl, rfl, HC, rfl⟩ := hrel
      by_cases hlt : i < t.size
      · have i1 : (0 : Int) ≤ i ∧ (i : Int) + 1 ≤ t.size := by omega
        have i2 : (0 : Int) ≤ g ∧ (g : Int) ≤ (i : Int) + 1 := by omega
        rcases HC.out.byte HTT.out HLL.out hlt with ⟨hc, hcut⟩ | ⟨hc, hcut⟩
        · have HC2 := Lib.hid hcut
          clear hcut
          go_wp2_with fail
          go_roundw
          case rel => exact ⟨i + 1, g, X, Y, by omega, by omega, hxy, by go_num, rfl, rfl, rfl, HC2, (by first | rfl | trivial)⟩
          case measure => simp [intOf]; omega
        · have HC2 := Lib.hid hcut
          clear hcut
          have hes := Lib.hid (show (t.extract g (i + 1)).size = i + 1 - g by rw [ByteArray.size_extract]; omega)
          go_upto_region 12 with (fail)
          generalize t.extract g (i + 1) = ln at HC2 hes ⊢
          by_cases h6 : 6 < ln.size
          · have g6 : decide ((6 : Int) < (ln.size : Int)) = true := decide_eq_true (by omega)
            rcases HC2.out with ⟨hv, hcut⟩ | ⟨hv, hcut⟩
            · have hx6 := lev_yes hv
              have HC3 := Lib.hid hcut
              have h66 : (6 : Int) ≤ (ln.size : Int) := by omega
              clear hcut hv HC2 h6
              have hz1 : ¬ 9223372036854775807 < X.size + ln.size := by have := hes.out; omega
              go_wp2_with fail
              go_roundw
              case rel => exact ⟨i + 1, i + 1, X ++ ln, Y, by omega, by omega, by rw [ByteArray.size_append]; have := hes.out; omega, by go_num, by go_num, rfl, rfl, Lib.hid (by rw [ByteArray.data_append, Array.toList_append]; exact HC3.out), (by first | rfl | trivial)⟩
              case measure => simp [intOf]; omega
            · have hx6 := lev_not hv h6
              have HC3 := Lib.hid hcut
              have h66 : (6 : Int) ≤ (ln.size : Int) := by omega
              clear hcut hv HC2 h6
              have hz1 : ¬ 9223372036854775807 < ln.size + Y.size := by have := hes.out; omega
              go_wp2_with fail
              go_roundw
              case rel => exact ⟨i + 1, i + 1, X, ln ++ Y, by omega, by omega, by rw [ByteArray.size_append]; have := hes.out; omega, by go_num, by go_num, rfl, rfl, Lib.hid (by rw [ByteArray.data_append, Array.toList_append]; exact HC3.out), (by first | rfl | trivial)⟩
              case measure => simp [intOf]; omega
          · have g6 : decide ((6 : Int) < (ln.size : Int)) = false := decide_eq_false (by omega)
            have hcut := (HC2.out.resolve_left (fun h => lev_short h.1 h6)).2
            have HC3 := Lib.hid hcut
            clear hcut HC2 h6
            have hz1 : ¬ 9223372036854775807 < ln.size + Y.size := by have := hes.out; omega
            go_wp2_with fail
            go_roundw
            case rel => exact ⟨i + 1, i + 1, X, ln ++ Y, by omega, by omega, by rw [ByteArray.size_append]; have := hes.out; omega, by go_num, by go_num, rfl, rfl, Lib.hid (by rw [ByteArray.data_append, Array.toList_append]; exact HC3.out), (by first | rfl | trivial)⟩
            case measure => simp [intOf]; omega
      · have hie : i = t.size := by omega
        obtain ⟨eX, eY⟩ := HC.out.all HLL.out (by rw [← HTT.out, list_size]; exact hie)
        have hZ : (X ++ Y).data.toList = wordsL (turnW st S) := by rw [ByteArray.data_append, Array.toList_append, eX, eY, heads_tails]
        have hzs : (X ++ Y).size ≤ 65536 := by rw [ByteArray.size_append]; omega
        have hz1 : ¬ 9223372036854775807 < X.size + Y.size := by rw [ByteArray.size_append] at hzs; omega
        have HZ := Lib.hid hZ
        have HZS := Lib.hid hzs
        clear eX eY hZ hzs HC
        go_wp2_with fail
        generalize X ++ Y = Z at HZ HZS ⊢
        refine (parse6_any Z _ (Nat.le_trans HZS.out (by decide)) (Utf8Tabs_below HT.out HB.out) (HE.out.below HB.out) (HPw.out.below HB.out) (HM.out.below HB.out) (HTz.out.on HB.out)).mono ?_
        rintro e w3 ⟨q, st3, S3, a3', k3', rfl, ⟨qL, qU, qI, qO, rfl, hL, hU, hI, hO⟩, hp, hb⟩
        obtain ⟨rfl, rfl, e3⟩ := parse_turn HR.out HW.out (right_64 HR.out) (right_cov HR.out) HZ.out HZS.out hp
        have e3b := e3.symm
        subst e3b
        rw [show (turnSt st S).D = st.D from rfl]
        obtain ⟨bL, dL, rfl⟩ := hL.form
        obtain ⟨bU, dU, rfl⟩ := hU.form
        obtain ⟨bI, dI, eI⟩ := hI.form
        obtain ⟨bO, dO, eO⟩ := hO.form
        rw [show (turnSt st S).I.length = st.I.length from List.length_reverse] at eI
        rw [show (turnSt st S).O.length = st.O.length from List.length_reverse] at eO
        subst eI eO
        rw [show (turnSt st S).L.length = st.L.length from rfl]
        have hbW := (Below.refl w3.heap.size w3).alloc (Nat.le_refl _) (.cells #[.slice bL st.L.length dL, .slice bU S.length dU, .slice bI st.I.length dI, .slice bO st.O.length dO, .int .i64 st.D] 26)
        have HG3 := Lib.hid (HG.out.trans ((hb.trans (hbW.mono hb.size)).mono HG.out.size))
        have hqc := pol_cells w3 (.slice bL st.L.length dL) (.slice bU S.length dU) (.slice bI st.I.length dI) (.slice bO st.O.length dO) (.int .i64 st.D) 26
        have HQI := Lib.hid (chans_on (show Chans w3.heap.size w3 (.slice bI st.I.length dI) st.I.reverse from hI) hbW)
        have HQU := Lib.hid (nums_on hU hbW)
        clear hL hU hI hO hp hb hbW
        obtain ⟨c0, c1, c2, c3, c4⟩ := pol_cells2 HG3.out
        have q0 := hqc 0 _ rfl
        have q1 := hqc 1 _ rfl
        have q2 := hqc 2 _ rfl
        have q3 := hqc 3 _ rfl
        have q4 := hqc 4 _ rfl
        clear hqc
        have n1 : ((st.I.length : Int) != (st.I.length : Int)) = false := by simp
        have n2 : ((st.O.length : Int) != (st.O.length : Int)) = false := by simp
        have n3 : (st.D != st.D) = false := by simp
        go_wp2_with fail
        generalize w3.alloc (.cells #[.slice bL st.L.length dL, .slice bU S.length dU, .slice bI st.I.length dI, .slice bO st.O.length dO, .int .i64 st.D] 26) = W3 at HG3 HQI HQU c0 c1 c2 c3 c4 q0 q1 q2 q3 q4 ⊢
        have HPI := Lib.hid (chans_on H.out.s2 HG3.out)
        have HPU := Lib.hid (nums_on H.out.s1 HG3.out)
        clear n1 n2 n3 c0 c3 c4 q0 q3 q4 hz1
        go_loopw [13] (fun k wr => ∃ i d : Nat, i ≤ st.I.length ∧ k = .int .i64 (i : Int) ∧ W3.drewN d = wr) (fun k _ => st.I.length - (intOf k).toNat)
        case atStart => exact ⟨0, 0, Nat.zero_le _, rfl, rfl⟩
        case round =>
          obtain ⟨j, d, hj, rfl, rfl⟩ := hrel
          by_cases hjt : j < st.I.length
          · obtain ⟨m, hm⟩ : ∃ m : Nat, m = st.I.length - 1 - j := ⟨_, rfl⟩
            have hml : m < st.I.length := by omega
            have j1 : (0 : Int) ≤ j ∧ (j : Int) < st.I.length := by omega
            have j2 : (0 : Int) ≤ m ∧ (m : Int) < st.I.length := by omega
            have hwa : IntKind.i64.wrap ((st.I.length : Int) - 1) = (st.I.length : Int) - 1 := IntWalk.i64_in _ (by omega)
            have hwb : IntKind.i64.wrap ((st.I.length : Int) - 1 - (j : Int)) = (m : Int) := by rw [show (st.I.length : Int) - 1 - (j : Int) = (m : Int) by omega]; exact IntWalk.i64_in _ (by omega)
            obtain ⟨cb, co, ea, g1, g2⟩ := HPI.out.at hjt
            subst ea
            obtain ⟨eb, eo, ea, f1, f2⟩ := HQI.out.at (show m < st.I.reverse.length by rw [List.length_reverse]; exact hml)
            subst ea
            have hch : chAt st.I.reverse m = chAt st.I j := by
              unfold chAt
              rw [List.getElem?_reverse hml, show st.I.length - 1 - m = j by omega]
            rw [hch] at f1 f2
            obtain ⟨x, ex⟩ : ∃ x, x = (chAt st.I j).1 := ⟨_, rfl⟩
            obtain ⟨l, el⟩ : ∃ l, l = (chAt st.I j).2 := ⟨_, rfl⟩
            rw [← ex] at g1 f1
            rw [← el] at g2 f2
            clear ex el hch hm
            have hE := eq_chan x l
            go_wp2_with fail
            go_quiet (fail)
            go_wp2_with fail
            go_roundw
            case rel => exact ⟨j + 1, d + nq, by omega, by go_num, (by first | rfl | trivial | exact (World.drewN_drewN _ _ _).symm)⟩
            case measure => simp [intOf]; omega
          · go_wp2_with fail
            clear q2 c2
            go_loopw [14] (fun k wr => ∃ i d : Nat, i ≤ S.length ∧ k = .int .i64 (i : Int) ∧ W3.drewN d = wr) (fun k _ => S.length - (intOf k).toNat)
            case atStart => exact ⟨0, d, Nat.zero_le _, rfl, rfl⟩
            case round =>
              obtain ⟨j3, d3, hj3, rfl, rfl⟩ := hrel
              by_cases hjt3 : j3 < S.length
              · have j1 : (0 : Int) ≤ j3 ∧ (j3 : Int) < S.length := by omega
                obtain ⟨pb, po, pc, ea, _, g1⟩ := HPU.out.at (by omega)
                cases ea
                obtain ⟨eb, eo, ec, ea, _, f1⟩ := HQU.out.at (by omega)
                cases ea
                have g1' := g1 j3 hjt3
                have f1' := f1 j3 hjt3
                clear g1 f1
                generalize S[j3]?.getD 0 = z at g1' f1'
                have n1 : ((S.length : Int) != (S.length : Int)) = false := by simp
                have n2 : (z != z) = false := by simp
                go_wp2_with fail
                go_quiet (fail)
                go_wp2_with fail
                go_roundw
                case rel => exact ⟨j3 + 1, d3 + nq, by omega, by go_num, (by first | rfl | trivial | exact (World.drewN_drewN _ _ _).symm)⟩
                case measure => simp [intOf]; omega
              · have HB9 := Lib.hid (bstep HA.out (HG3.out.trans ((below_dn6 W3 d3).mono HG3.out.size)))
                go_wp2_with (go_at_call 11; refine (awake6_any _ (Utf8Tabs_below HT.out HB9.out) (HE.out.below HB9.out) (HPw.out.below HB9.out) (HM.out.below HB9.out) (HTz.out.on HB9.out)).mono ?_; rintro e w11 ⟨rfl, hb⟩; have HB11 := Lib.hid (bstep HB9.out hb); clear hb)
                go_ret
                exact ⟨rfl, HB11.out⟩
  · obtain ⟨hr, rfl, rfl⟩ := hn
    clear hr
    go_wp2_with (go_at_call 11; refine (awake6_any _ (Utf8Tabs_below HT.out HB.out) (HE.out.below HB.out) (HPw.out.below HB.out) (HM.out.below HB.out) (HTz.out.on HB.out)).mono ?_; rintro e w11 ⟨rfl, hb⟩; have HB11 := Lib.hid (bstep HB.out hb); clear hb)
    go_ret
    exact ⟨rfl, HB11.out⟩
end Go.Proofs.YthjfgfgkbfhdfaaGreatDoor
