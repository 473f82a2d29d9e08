import Derived.Test.YtdkpnbjkehakjaaGreatDoorPrnL
import Derived.Test.YtdkpnbjkehakjaaGreatDoorPolE
import Derived.Test.YtdkpnbjkehakjaaGreatDoorPolW
set_option linter.unusedSimpArgs false
set_option linter.unusedVariables false
/-! policy: the project's areNames and channels -/
namespace Go.Proofs.YtdkpnbjkehakjaaGreatDoor
open Go.RowKit

theorem Strs.take {n : Nat} {w : World} {a : Option Addr} {m cap j : Nat} {ss : List ByteArray} (h : Strs n w (.slice a m cap) ss) (hj : j ≤ ss.length) : Strs n w (.slice a j cap) (ss.take j) := by
  have hl : (ss.take j).length = j := by rw [List.length_take]; omega
  rcases h with ⟨⟨b, c, e, hn⟩, rfl⟩ | ⟨b, off, c, e, hb, hc, hcell⟩
  · cases e
    obtain rfl : j = 0 := by simpa using hj
    exact .inl ⟨⟨_, _, rfl, hn⟩, rfl⟩
  · cases e
    refine .inr ⟨b, off, cap, by rw [hl], hb, by omega, fun k hk => ?_⟩
    rw [hl] at hk
    rw [List.getElem?_take_of_lt hk]
    exact hcell k (by omega)
theorem Strs.at {n : Nat} {w : World} {a : Option Addr} {m cap j : Nat} {ss : List ByteArray} (h : Strs n w (.slice a m cap) ss) (hj : j < ss.length) : ∃ b off, a = some ⟨b, off, none⟩ ∧ j ≤ cap ∧ w.cell? ⟨b, off + j, none⟩ = some (.string (wd6 ss j)) := by
  rcases h with ⟨_, rfl⟩ | ⟨b, off, c, e, hb, hc, hcell⟩
  · simp at hj
  · cases e
    exact ⟨b, off, rfl, by omega, hcell j hj⟩
theorem names_no {ss : List ByteArray} {f k : Nat} (h : pnameB (wd6 ss k) = false) : namesFrom ss (f + 1) k = false := by
  unfold namesFrom; rw [if_pos h]
theorem names_seen {ss : List ByteArray} {f k : Nat} (h : 0 ≤ levelI (ss.take k) (wd6 ss k)) : namesFrom ss (f + 1) k = false := by
  unfold namesFrom; split
  · rfl
  · first | rfl | rw [if_pos h]
theorem names_step {ss : List ByteArray} {f k : Nat} (h : pnameB (wd6 ss k) = true) (h2 : ¬ 0 ≤ levelI (ss.take k) (wd6 ss k)) : namesFrom ss (f + 1) k = namesFrom ss f (k + 1) := by
  conv => lhs; unfold namesFrom
  rw [if_neg (by rw [h]; simp), if_neg h2]
set_option maxRecDepth 100000 in
set_option maxHeartbeats 1600000 in
theorem arenames6_any (v : Value) (ss : List ByteArray) (w : World) (hv : Strs w.heap.size w v ss) (hx : ss.length ≤ 9223372036854775807) (hz : ∀ j, j < ss.length → (wd6 ss j).size ≤ 562949953421312) :
    Calls Tryz.prog 28 #[v] w fun e w' => e = .returned (.bool (namesP ss)) ∧ Below w.heap.size w w' := by
  obtain ⟨a, cap, rfl⟩ := hv.form
  have HV := Lib.hid hv
  have HZ := Lib.hid hz
  clear hv hz
  go_enter Tryz.func28, Tryz.ntmps28
  go_wp2_with fail
  go_loopw [7] (fun k wr => ∃ j : Nat, j ≤ ss.length ∧ k = .int .i64 (j : Int) ∧ Below w.heap.size w wr ∧ RowKit.Hid (namesP ss = namesFrom ss (ss.length - j) j)) (fun k _ => ss.length - (intOf k).toNat)
  case atStart => exact ⟨0, Nat.zero_le _, rfl, Below.refl _ _, rfl⟩
  case round =>
    obtain ⟨j, hj, rfl, hB, HP⟩ := hrel
    have HB := Lib.hid hB
    clear hB
    by_cases hlt : j < ss.length
    · obtain ⟨b, off, rfl, hjc, hc⟩ := (HV.out.below HB.out).at hlt
      have i1 : (0 : Int) ≤ j ∧ (j : Int) < ss.length := by omega
      have hzj := HZ.out j hlt
      have HT := Lib.hid ((HV.out.below HB.out).take hj)
      have hf : ss.length - j = (ss.length - (j + 1)) + 1 := by omega
      obtain ⟨q, eq⟩ : ∃ q, q = wd6 ss j := ⟨_, rfl⟩
      have HN0 := Lib.hid (fun h => HP.out.trans ((congrArg (fun f => namesFrom ss f j) hf).trans (names_no (f := ss.length - (j + 1)) h)))
      have HN1 := Lib.hid (fun h => HP.out.trans ((congrArg (fun f => namesFrom ss f j) hf).trans (names_seen (f := ss.length - (j + 1)) h)))
      have HN2 := Lib.hid (fun h h2 => HP.out.trans ((congrArg (fun f => namesFrom ss f j) hf).trans (names_step (f := ss.length - (j + 1)) h h2)))
      rw [← eq] at hc hzj HN0 HN1 HN2
      clear eq hf
      cases hp : pnameB q
      · have HR := Lib.hid (HN0.out hp)
        clear HN0 HN1 HN2
        have HPF := Lib.hid hp
        clear hp
        go_wp2_with (go_at_call 40; refine (isname_any q _ hzj).mono ?_; rintro e w' ⟨rfl, hb⟩; rw [HPF.out]; have HB1 := Lib.hid (HB.out.trans (hb.mono HB.out.size)); clear hb)
        go_ret
        exact ⟨ret_bool HR.out.symm, HB1.out⟩
      · have HPF := Lib.hid hp
        by_cases hs : 0 ≤ levelI (ss.take j) q
        · have HR := Lib.hid (HN1.out hs)
          have HS := Lib.hid (decide_eq_true hs)
          clear HN0 HN1 HN2 hp hs
          go_wp2_with (first
            | (go_at_call 40; refine (isname_any q _ hzj).mono ?_; rintro e w' ⟨rfl, hb⟩; rw [HPF.out]; have HB1 := Lib.hid (HB.out.trans (hb.mono HB.out.size)); have HT1 := Lib.hid (HT.out.below (hb.mono HB.out.size)); clear hb)
            | (go_at_call 41; refine (contains_q _ _ q _ _ HT1.out (by rw [List.length_take]; omega)).mono ?_; rintro e w' ⟨rfl, rfl⟩; rw [HS.out]))
          go_ret
          exact ⟨ret_bool HR.out.symm, HB1.out⟩
        · have HR := Lib.hid (HN2.out hp hs)
          have HS := Lib.hid (decide_eq_false hs)
          clear HN0 HN1 HN2 hp hs
          go_wp2_with (first
            | (go_at_call 40; refine (isname_any q _ hzj).mono ?_; rintro e w' ⟨rfl, hb⟩; rw [HPF.out]; have HB1 := Lib.hid (HB.out.trans (hb.mono HB.out.size)); have HT1 := Lib.hid (HT.out.below (hb.mono HB.out.size)); clear hb)
            | (go_at_call 41; refine (contains_q _ _ q _ _ HT1.out (by rw [List.length_take]; omega)).mono ?_; rintro e w' ⟨rfl, rfl⟩; rw [HS.out]))
          go_roundw
          case rel => exact ⟨j + 1, by omega, by go_num, HB1.out, HR⟩
          case measure => simp [intOf]; omega
    · obtain rfl : j = ss.length := by omega
      go_wp2_with fail
      go_ret
      exact ⟨ret_bool (by rw [HP.out, Nat.sub_self]; rfl), HB.out⟩
end Go.Proofs.YtdkpnbjkehakjaaGreatDoor

/-! policy: the project's channels -/
namespace Go.Proofs.YtdkpnbjkehakjaaGreatDoor
open Go.RowKit

theorem world_heap6 {w' : World} (w : World) (h : w' = { w with heap := w'.heap }) (e : w'.heap = w.heap) : w' = w := by
  rw [e] at h; exact h
/-- a row that is stored where it lies -/
theorem setRow_new6 (w : World) (old cs : Array Value) (t : TypeId) : (w.alloc (.cells old t)).setRow w.heap.size cs = w.alloc (.cells cs t) := by
  have e : ((w.alloc (.cells old t)).setRow w.heap.size cs).heap = (w.alloc (.cells cs t)).heap := by
    apply Array.ext_getElem?
    intro k
    by_cases h : k = w.heap.size
    · subst h
      rw [setRow_heap _ _ old cs t (0, 0) (heap_alloc_new _ _), heap_alloc_new]
    · simp only [World.setRow, Array.getElem?_modify]
      rw [if_neg (fun e => h e.symm)]
      by_cases h2 : k < w.heap.size
      · rw [heap_alloc_old _ _ h2, heap_alloc_old _ _ h2]
      · rw [Array.getElem?_eq_none (by simp; omega), Array.getElem?_eq_none (by simp; omega)]
  exact world_heap6 (w' := (w.alloc (.cells old t)).setRow w.heap.size cs) (w.alloc (.cells cs t)) rfl e
theorem cell_one6 (w : World) (v : Value) (t : TypeId) {b : Nat} (h : w.heap.size = b) : ∀ (j : Nat) (u : Value), [v][j]? = some u → (w.alloc (.cells #[v] t)).cell? ((⟨b, 0, none⟩ : Addr).add j) = some u := by
  subst h
  intro j u hj
  rw [Addr.add_lit, Nat.zero_add]
  simp only [World.cell?, heap_alloc_new]
  simpa using hj
theorem run_zeroCh (w : World) : (zeroValue 101).run Tryz.prog w = .ok (.agg #[.string ⟨#[]⟩, .int .i64 0]) w := by
  have h := Tryz.infoChan6
  cases hi : Tryz.prog.info? 101 with
  | none => rw [hi] at h; cases h
  | some i =>
    rw [hi] at h
    simp only [Option.map_some, Option.some.injEq, Prod.mk.injEq] at h
    simp [zeroValue, typeInfo, hi, h.1]
theorem wpList_loadCh {ops : Array Oper} {rest : List Oper} {o : Oper} {a : Act} {w : World} {Q : Exit → Act → World → Prop} (hgd : o.guard = none) (x : Operand) (ho : o.op = .load 101 x)
    (blk off : Nat) (hx : a.eval x = .pointer (some ⟨blk, off, none⟩)) (p q : Value) (h1 : w.cell? ⟨blk, off, none⟩ = some p) (h2 : w.cell? ⟨blk, off + 1, none⟩ = some q)
    (h : wpList Tryz.prog ops Q rest (a.put o.dst (.agg #[p, q])) w) : wpList Tryz.prog ops Q (o :: rest) a w := by
  have hl : (loadCells ⟨blk, off, none⟩ 2).run Tryz.prog w = .ok #[p, q] w :=
    run_loadCells_list (P := Tryz.prog) w ⟨blk, off, none⟩ [p, q] (fun j u hu => by
      rw [Addr.add_lit]
      match j, hu with
      | 0, hu => simp at hu; subst hu; exact h1
      | 1, hu => simp at hu; subst hu; exact h2)
  have hagg : (isAgg 101).run Tryz.prog w = .ok true w := by kernel_rfl
  have hs : (sizeOf 101).run Tryz.prog w = .ok 2 w := by kernel_rfl
  refine wpList_plain hgd fun K hK => ?_
  unfold Oper.wp execOp
  simp only [ho, hx, Instr.loadAt, Instr.sureAddr, Sem.run_bind, Sem.run_pure, Result.andThen_ok]
  simp only [loadVar, Sem.run_bind, hagg, hs, hl, Result.andThen_ok, if_true, Sem.run_pure]
  exact hK _ _ h
theorem Chans.at {n : Nat} {w : World} {a : Option Addr} {m cap j : Nat} {cs : List (ByteArray × Int)} (h : Chans n w (.slice a m cap) cs) (hj : j < cs.length) :
    ∃ b off, a = some ⟨b, off, none⟩ ∧ w.cell? ⟨b, off + j * 2, none⟩ = some (.string (chAt cs j).1) ∧ w.cell? ⟨b, off + j * 2 + 1, none⟩ = some (.int .i64 (chAt cs j).2) := by
  rcases h with ⟨_, rfl⟩ | ⟨b, off, c, e, hb, hc, hcell⟩
  · simp at hj
  · cases e
    exact ⟨b, off, rfl, hcell j hj⟩
theorem chans_no {N : Int} {cs : List (ByteArray × Int)} {k : Nat} (hk : k < cs.length) (h : ¬ (0 ≤ (chAt cs k).2 ∧ (chAt cs k).2 < N)) : chansP N cs = false := by
  cases e : chansP N cs
  · rfl
  · exact absurd (ch_lev (chans_split e).2.1 hk) h
theorem chans_yes {N : Int} {cs : List (ByteArray × Int)} (h32 : cs.length ≤ 32) (h : ∀ k, k < cs.length → 0 ≤ (chAt cs k).2 ∧ (chAt cs k).2 < N) : chansP N cs = namesP (cs.map (·.1)) := by
  have : levsP N cs = true := by
    unfold levsP
    rw [List.all_eq_true]
    intro c hc
    obtain ⟨k, hk, e⟩ := List.getElem_of_mem hc
    have h1 := h k hk
    have e2 : chAt cs k = c := by unfold chAt; rw [List.getElem?_eq_getElem hk]; exact e
    rw [e2] at h1
    rw [Bool.and_eq_true, decide_eq_true_eq, decide_eq_true_eq]
    exact h1
  unfold chansP
  rw [this, decide_eq_true h32]; rfl
/-- the names of the first i -/
def nmV (cs : List (ByteArray × Int)) (i : Nat) : List Value := ((cs.map (·.1)).take i).map Value.string
theorem nmV_succ {cs : List (ByteArray × Int)} {i : Nat} (hi : i < cs.length) : nmV cs i ++ [.string (chAt cs i).1] = nmV cs (i + 1) := by
  unfold nmV
  have hl : i < (cs.map (·.1)).length := by simpa using hi
  rw [List.take_succ_eq_append_getElem hl, List.map_append]
  simp [chAt, List.getElem?_eq_getElem hi]
theorem nm_in {B : Nat} {w wr w2 : World} {u v2 : Value} {i : Nat} {xs : List Value} {o o2 : Obj} (hB : Below B w wr) (hs : B ≤ wr.heap.size) (hO : wr.ownsRow B 9 1 u i xs) (hg : ((wr.alloc o).alloc o2).grownBy w2 u.ownBlock) : Below B w w2 :=
  ((hB.alloc hs o).alloc (by simp; omega) o2).grown hg (by simp; omega) (fun k e => (hO.lt k e).1)
theorem ch_cells (w : World) (p q : Value) (t : TypeId) : (w.alloc (.cells #[p, q] t)).cell? ⟨w.heap.size, 0, none⟩ = some p ∧ (w.alloc (.cells #[p, q] t)).cell? ⟨w.heap.size, 1, none⟩ = some q := by
  constructor <;> (simp only [World.cell?, heap_alloc_new]; rfl)
theorem ch_one (s : ByteArray) (l : Int) : (#[.string s, .int .i64 l] : Array Value).all (·.oneCell') = true := by
  simp [Value.oneCell']

set_option maxRecDepth 100000 in
set_option maxHeartbeats 3200000 in
theorem channels6_any (v : Value) (cs : List (ByteArray × Int)) (N : Int) (w : World) (hv : Chans w.heap.size w v cs) (hz : ∀ j, j < cs.length → (chAt cs j).1.size ≤ 562949953421312) :
    Calls Tryz.prog 29 #[v, .int .i64 N] w fun e w' => e = .returned (.bool (chansP N cs)) ∧ Below w.heap.size w w' := by
  obtain ⟨a, cap, rfl⟩ := hv.form
  obtain ⟨i0, hi, hz0, hz1, hz2⟩ := info_parts Tryz.infoStr6
  have hzc := fun (w : World) => run_zeroCh w
  have HV := Lib.hid hv
  have HZ := Lib.hid hz
  clear hv hz
  by_cases h32 : cs.length ≤ 32
  · go_enter Tryz.func29, Tryz.ntmps29
    go_wp2_with fail
    go_loopw [5, 13] (fun o k wr => ∃ i : Nat, i ≤ cs.length ∧ k = .int .i64 (i : Int) ∧ wr.ownsRow w.heap.size 9 1 o i (nmV cs i) ∧ Below w.heap.size w wr ∧ RowKit.Hid (∀ j, j < i → 0 ≤ (chAt cs j).2 ∧ (chAt cs j).2 < N)) (fun _ k _ => cs.length - (intOf k).toNat)
    case atStart => exact ⟨0, Nat.zero_le _, rfl, World.ownsRow_nil _ _ _ _, Below.refl _ _, Lib.hid (fun j hj => absurd hj (Nat.not_lt_zero _))⟩
    case round =>
      obtain ⟨i, hil, rfl, hO, hB, HK⟩ := hrel
      have HO := Lib.hid hO
      have HB := Lib.hid hB
      clear hO hB
      by_cases hlt : i < cs.length
      · obtain ⟨b, off, rfl, c1, c2⟩ := (HV.out.below HB.out).at hlt
        have i1 : (0 : Int) ≤ i ∧ (i : Int) < cs.length := by omega
        have HNV := Lib.hid (nmV_succ hlt)
        have HNO := Lib.hid (fun h => chans_no (N := N) hlt h)
        have HST := Lib.hid (fun (h : 0 ≤ (chAt cs i).2 ∧ (chAt cs i).2 < N) j (hj : j < i + 1) => (Nat.lt_succ_iff_lt_or_eq.1 hj).elim (HK.out j) (fun e => by rw [e]; exact h))
        obtain ⟨s, es⟩ : ∃ s, s = (chAt cs i).1 := ⟨_, rfl⟩
        obtain ⟨l, el⟩ : ∃ l, l = (chAt cs i).2 := ⟨_, rfl⟩
        rw [← es] at c1 HNV
        rw [← el] at c2 HNO HST
        clear es el
        have h1 := (ch_cells wr (.string s) (.int .i64 l) 101).1
        have h2 := (ch_cells wr (.string s) (.int .i64 l) 101).2
        by_cases l0 : l < 0
        · have HR := Lib.hid (HNO.out (by omega))
          clear HNO HST HNV
          go_wp2_with (first
            | (refine wpList_loadCh rfl (.tmp 15) rfl b (off + i * 2) rfl _ _ c1 c2 ?_)
            | (refine wpList_store_row rfl 101 (.tmp 7) (.tmp 16) rfl _ #[.string s, .int .i64 l] rfl rfl 101 #[.string ⟨#[]⟩, .int .i64 0] (heap_alloc_new _ _) (by kernel_rfl) rfl (ch_one s l) ?_
               rw [setRow_new6]))
          go_ret
          exact ⟨ret_bool HR.out.symm, HB.out.alloc HB.out.size _⟩
        · by_cases l1 : l < N
          · have l2 : ¬ N ≤ l := by omega
            have HS := Lib.hid (HST.out (by omega))
            clear HNO HST
            go_wp2_with (first
              | (refine wpList_loadCh rfl (.tmp 15) rfl b (off + i * 2) rfl _ _ c1 c2 ?_)
              | (refine wpList_store_row rfl 101 (.tmp 7) (.tmp 16) rfl _ #[.string s, .int .i64 l] rfl rfl 101 #[.string ⟨#[]⟩, .int .i64 0] (heap_alloc_new _ _) (by kernel_rfl) rfl (ch_one s l) ?_
                 rw [setRow_new6])
              | (at_builtin
                 refine wpList_append_any rfl _ _ 22 rfl w.heap.size 9 i0 (.string ⟨#[]⟩) 1 16 Tryz.underlying22 hi hz0 hz1 hz2 rfl (by decide) u5 i (nmV cs i) rfl ((HO.out.alloc _).alloc _) (.slice (some ⟨_, 0, none⟩) 1 1) 1 [.string s] rfl rfl (.inr ⟨_, _, rfl, cell_one6 _ _ _ (by simp)⟩) (by intro u hu; rw [List.mem_singleton.1 hu]; rfl) (by unfold maxLen; omega) (by omega) (by have := HB.out.size; simp; omega) ?_
                 intro v2 w2 ho hg
                 have HD := Lib.hid ho
                 have HE := Lib.hid (nm_in (v2 := v2) HB.out HB.out.size HO.out hg)
                 clear ho hg))
            go_roundw
            case rel => exact ⟨i + 1, by omega, by go_num, by rw [← HNV.out]; exact HD.out, HE.out, Lib.hid HS.out⟩
            case measure => simp [intOf]; omega
          · have l2 : N ≤ l := by omega
            have HR := Lib.hid (HNO.out (by omega))
            clear HNO HST HNV
            go_wp2_with (first
              | (refine wpList_loadCh rfl (.tmp 15) rfl b (off + i * 2) rfl _ _ c1 c2 ?_)
              | (refine wpList_store_row rfl 101 (.tmp 7) (.tmp 16) rfl _ #[.string s, .int .i64 l] rfl rfl 101 #[.string ⟨#[]⟩, .int .i64 0] (heap_alloc_new _ _) (by kernel_rfl) rfl (ch_one s l) ?_
                 rw [setRow_new6]))
            go_ret
            exact ⟨ret_bool HR.out.symm, HB.out.alloc HB.out.size _⟩
      · have hie : i = cs.length := by omega
        have HY := Lib.hid (chans_yes (N := N) h32 (fun k hk => HK.out k (by omega)))
        have HS := Lib.hid (show Strs wr.heap.size wr u5 (cs.map (·.1)) by
          have h := HO.out
          rw [hie] at h
          refine strs_of_row (base := w.heap.size) (e := 9) ?_
          rw [List.length_map]
          have e : nmV cs cs.length = (cs.map (·.1)).map Value.string := by unfold nmV; rw [List.take_of_length_le (by simp)]
          rw [← e]; exact h)
        have HZ2 := Lib.hid (show ∀ j, j < (cs.map (·.1)).length → (wd6 (cs.map (·.1)) j).size ≤ 562949953421312 from fun j hj => by
          have hj' : j < cs.length := by simpa using hj
          rw [ch_name hj']; exact HZ.out j hj')
        clear hie
        go_wp2_with (go_at_call 28; refine (arenames6_any _ (cs.map (·.1)) _ HS.out (by rw [List.length_map]; omega) HZ2.out).mono ?_; rintro e w' ⟨rfl, hb⟩)
        go_ret
        exact ⟨ret_bool HY.out.symm, HB.out.trans (hb.mono HB.out.size)⟩
  · have HR := Lib.hid (show chansP N cs = false by unfold chansP; rw [decide_eq_false h32]; rfl)
    go_enter Tryz.func29, Tryz.ntmps29
    go_wp2_with fail
    go_ret
    exact ⟨ret_bool HR.out.symm, Below.refl _ _⟩
end Go.Proofs.YtdkpnbjkehakjaaGreatDoor

/-! policy: the project's Right -/
namespace Go.Proofs.YtdkpnbjkehakjaaGreatDoor
open Go.RowKit

/-- the texts of a policy are no longer than texts are -/
structure Short6 (st : PSt) : Prop where
  l : ∀ j, j < st.L.length → (wd6 st.L j).size ≤ 562949953421312
  i : ∀ j, j < st.I.length → (chAt st.I j).1.size ≤ 562949953421312
  o : ∀ j, j < st.O.length → (chAt st.O j).1.size ≤ 562949953421312
theorem rightP_no {st : PSt} {S : List Int} (h : rightP st S = true → False) : rightP st S = false := by
  cases e : rightP st S
  · rfl
  · exact (h e).elim
theorem pol_cells (w : World) (p0 p1 p2 p3 p4 : Value) (t : TypeId) : ∀ (c : Nat) (u : Value), [p0, p1, p2, p3, p4][c]? = some u → (w.alloc (.cells #[p0, p1, p2, p3, p4] t)).cell? ⟨w.heap.size, c, none⟩ = some u := by
  intro c u h
  simp only [World.cell?, heap_alloc_new]
  simpa using h
theorem bstep6 {A w w' : World} (h : Below A.heap.size A w) (g : Below w.heap.size w w') : Below A.heap.size A w' := h.trans (g.mono h.size)
set_option maxRecDepth 100000 in
set_option maxHeartbeats 3200000 in
theorem right6_any (v0 v1 v2 v3 : Value) (st : PSt) (S : List Int) (w : World) (h : PolIn w v0 v1 v2 v3 st S) (hw : Wide S) (hTz : Tz w) (hsh : Short6 st) :
    Calls Tryz.prog 17 #[.agg #[v0, v1, v2, v3, .int .i64 st.D]] w fun e w' => e = .returned (.bool (rightP st S)) ∧ Below w.heap.size w w' := by
  have hl0 := h.l0
  have hl1 := h.l1
  obtain ⟨a0, k0, rfl⟩ := h.s0.form
  obtain ⟨a1, k1, rfl⟩ := h.s1.form
  obtain ⟨a2, k2, rfl⟩ := h.s2.form
  obtain ⟨a3, k3, rfl⟩ := h.s3.form
  obtain ⟨W0, eW0⟩ : ∃ W0, W0 = w.alloc (.cells #[.slice a0 st.L.length k0, .slice a1 S.length k1, .slice a2 st.I.length k2, .slice a3 st.O.length k3, .int .i64 st.D] 26) := ⟨_, rfl⟩
  have HB0 := Lib.hid (show Below w.heap.size w W0 by rw [eW0]; exact (Below.refl _ _).alloc (Nat.le_refl _) _)
  have HW0 := Lib.hid (show w.heap.size < W0.heap.size by rw [eW0]; simp)
  have HC0 := Lib.hid (show ∀ c u, [.slice a0 st.L.length k0, .slice a1 S.length k1, .slice a2 st.I.length k2, .slice a3 st.O.length k3, .int .i64 st.D][c]? = some u → W0.cell? ⟨w.heap.size, c, none⟩ = some u by rw [eW0]; exact pol_cells _ _ _ _ _ _ _)
  have HP0 := Lib.hid (h.below HB0.out)
  have HT0 := Lib.hid (hTz.on HB0.out)
  have HSH := Lib.hid hsh
  have EW0 := Lib.hid eW0
  have q0 := HC0.out 0 _ rfl
  have q1 := HC0.out 1 _ rfl
  have q2 := HC0.out 2 _ rfl
  have q3 := HC0.out 3 _ rfl
  have q4 := HC0.out 4 _ rfl
  rw [eW0] at q0 q1 q2 q3 q4
  have HKC := Lib.hid (fun (w1 : World) (hb : Below W0.heap.size W0 w1) c u (hu : [.slice a0 st.L.length k0, .slice a1 S.length k1, .slice a2 st.I.length k2, .slice a3 st.O.length k3, .int .i64 st.D][c]? = some u) => (hb.cell (p := ⟨w.heap.size, c, none⟩) HW0.out).trans (HC0.out c u hu))
  clear h hTz hsh eW0
  by_cases c1 : 1 ≤ st.D
  · by_cases c2 : st.D ≤ 64
    · by_cases c3 : S.length = st.L.length
      · have HC3 := Lib.hid c3
        have t3 : ((S.length : Int) == (st.L.length : Int)) = true := beq_iff_eq.2 (by omega)
        clear c3
        by_cases c4 : LL.rightB S = true
        · have HR4 := Lib.hid c4
          by_cases c5 : namesP st.L = true
          · have HR5 := Lib.hid c5
            by_cases c6 : chansP st.L.length st.I = true
            · have HR6 := Lib.hid c6
              have HN := Lib.hid (show rightP st S = chansP st.L.length st.O by unfold rightP; rw [decide_eq_true (show 1 ≤ st.D ∧ st.D ≤ 64 from ⟨c1, c2⟩), decide_eq_true HC3.out, c4, c5, c6]; simp)
              clear c4 c5 c6
              go_enter Tryz.func17, Tryz.ntmps17
              go_wp2_with (first
                | (go_at_call 29; refine (channels6_any (.slice a3 st.O.length k3) st.O st.L.length w3 (chans_on HP0.out.s3 HB3.out) HSH.out.o).mono ?_; rintro e w4 ⟨rfl, hb⟩; have HB4 := Lib.hid (bstep6 HB3.out hb); clear hb p0 p2 p3)
                | (go_at_call 29; refine (channels6_any (.slice a2 st.I.length k2) st.I st.L.length w2 (chans_on HP0.out.s2 HB2.out) HSH.out.i).mono ?_; rintro e w3 ⟨rfl, hb⟩; rw [HR6.out]; have HB3 := Lib.hid (bstep6 HB2.out hb); clear hb p0 p2 p3; have p0 := HKC.out w3 HB3.out 0 _ rfl; have p2 := HKC.out w3 HB3.out 2 _ rfl; have p3 := HKC.out w3 HB3.out 3 _ rfl)
                | (go_at_call 28; refine (arenames6_any _ st.L w1 (strs_on HP0.out.s0 HB1.out) (by omega) HSH.out.l).mono ?_; rintro e w2 ⟨rfl, hb⟩; rw [HR5.out]; have HB2 := Lib.hid (bstep6 HB1.out hb); clear hb p0 p2 p3; have p0 := HKC.out w2 HB2.out 0 _ rfl; have p2 := HKC.out w2 HB2.out 2 _ rfl; have p3 := HKC.out w2 HB2.out 3 _ rfl)
                | (go_at_call 27; rw [← EW0.out]; refine (right5_any _ S W0.heap.size _ (nums_on HP0.out.s1 (Below.refl _ _)) (Nat.le_refl _) hw (by simp only [big5]; omega) HT0.out).mono ?_; rintro e w1 ⟨rfl, hb⟩; rw [HR4.out]; have HB1 := Lib.hid hb; clear hb; have p0 := HKC.out w1 HB1.out 0 _ rfl; have p2 := HKC.out w1 HB1.out 2 _ rfl; have p3 := HKC.out w1 HB1.out 3 _ rfl))
              go_ret
              exact ⟨ret_bool HN.out.symm, HB0.out.trans (HB4.out.mono HB0.out.size)⟩
            · have HN := Lib.hid (rightP_no (st := st) (S := S) (fun e => c6 (rightP_parts e).2.2.2.2.1))
              have HR6 := Lib.hid (eq_false_of_ne_true c6)
              clear c4 c5 c6
              go_enter Tryz.func17, Tryz.ntmps17
              go_wp2_with (first
                | (go_at_call 29; refine (channels6_any (.slice a2 st.I.length k2) st.I st.L.length w2 (chans_on HP0.out.s2 HB2.out) HSH.out.i).mono ?_; rintro e w3 ⟨rfl, hb⟩; rw [HR6.out]; have HB3 := Lib.hid (bstep6 HB2.out hb); clear hb p0 p2 p3; have p0 := HKC.out w3 HB3.out 0 _ rfl; have p2 := HKC.out w3 HB3.out 2 _ rfl; have p3 := HKC.out w3 HB3.out 3 _ rfl)
                | (go_at_call 28; refine (arenames6_any _ st.L w1 (strs_on HP0.out.s0 HB1.out) (by omega) HSH.out.l).mono ?_; rintro e w2 ⟨rfl, hb⟩; rw [HR5.out]; have HB2 := Lib.hid (bstep6 HB1.out hb); clear hb p0 p2 p3; have p0 := HKC.out w2 HB2.out 0 _ rfl; have p2 := HKC.out w2 HB2.out 2 _ rfl; have p3 := HKC.out w2 HB2.out 3 _ rfl)
                | (go_at_call 27; rw [← EW0.out]; refine (right5_any _ S W0.heap.size _ (nums_on HP0.out.s1 (Below.refl _ _)) (Nat.le_refl _) hw (by simp only [big5]; omega) HT0.out).mono ?_; rintro e w1 ⟨rfl, hb⟩; rw [HR4.out]; have HB1 := Lib.hid hb; clear hb; have p0 := HKC.out w1 HB1.out 0 _ rfl; have p2 := HKC.out w1 HB1.out 2 _ rfl; have p3 := HKC.out w1 HB1.out 3 _ rfl))
              go_ret
              exact ⟨ret_bool HN.out.symm, HB0.out.trans (HB3.out.mono HB0.out.size)⟩
          · have HN := Lib.hid (rightP_no (st := st) (S := S) (fun e => c5 (rightP_parts e).2.2.2.1))
            have HR5 := Lib.hid (eq_false_of_ne_true c5)
            clear c4 c5
            go_enter Tryz.func17, Tryz.ntmps17
            go_wp2_with (first
              | (go_at_call 28; refine (arenames6_any _ st.L w1 (strs_on HP0.out.s0 HB1.out) (by omega) HSH.out.l).mono ?_; rintro e w2 ⟨rfl, hb⟩; rw [HR5.out]; have HB2 := Lib.hid (bstep6 HB1.out hb); clear hb p0 p2 p3; have p0 := HKC.out w2 HB2.out 0 _ rfl; have p2 := HKC.out w2 HB2.out 2 _ rfl; have p3 := HKC.out w2 HB2.out 3 _ rfl)
              | (go_at_call 27; rw [← EW0.out]; refine (right5_any _ S W0.heap.size _ (nums_on HP0.out.s1 (Below.refl _ _)) (Nat.le_refl _) hw (by simp only [big5]; omega) HT0.out).mono ?_; rintro e w1 ⟨rfl, hb⟩; rw [HR4.out]; have HB1 := Lib.hid hb; clear hb; have p0 := HKC.out w1 HB1.out 0 _ rfl; have p2 := HKC.out w1 HB1.out 2 _ rfl; have p3 := HKC.out w1 HB1.out 3 _ rfl))
            go_ret
            exact ⟨ret_bool HN.out.symm, HB0.out.trans (HB2.out.mono HB0.out.size)⟩
        · have HN := Lib.hid (rightP_no (st := st) (S := S) (fun e => c4 (rightP_parts e).2.2.1))
          have HR4 := Lib.hid (eq_false_of_ne_true c4)
          clear c4
          go_enter Tryz.func17, Tryz.ntmps17
          go_wp2_with (first
            | (go_at_call 27; rw [← EW0.out]; refine (right5_any _ S W0.heap.size _ (nums_on HP0.out.s1 (Below.refl _ _)) (Nat.le_refl _) hw (by simp only [big5]; omega) HT0.out).mono ?_; rintro e w1 ⟨rfl, hb⟩; rw [HR4.out]; have HB1 := Lib.hid hb; clear hb; have p0 := HKC.out w1 HB1.out 0 _ rfl; have p2 := HKC.out w1 HB1.out 2 _ rfl; have p3 := HKC.out w1 HB1.out 3 _ rfl))
          go_ret
          exact ⟨ret_bool HN.out.symm, HB0.out.trans (HB1.out.mono HB0.out.size)⟩
      · have HN := Lib.hid (rightP_no (st := st) (S := S) (fun e => c3 (rightP_parts e).2.1))
        go_enter Tryz.func17, Tryz.ntmps17
        go_wp2_with fail
        go_ret
        exact ⟨ret_bool HN.out.symm, by first | exact HB0.out | (rw [← EW0.out]; exact HB0.out)⟩
    · have HN := Lib.hid (rightP_no (st := st) (S := S) (fun e => c2 (rightP_parts e).1.2))
      go_enter Tryz.func17, Tryz.ntmps17
      go_wp2_with fail
      go_ret
      exact ⟨ret_bool HN.out.symm, by first | exact HB0.out | (rw [← EW0.out]; exact HB0.out)⟩
  · have HN := Lib.hid (rightP_no (st := st) (S := S) (fun e => c1 (rightP_parts e).1.1))
    have d1 : st.D < 1 := by omega
    go_enter Tryz.func17, Tryz.ntmps17
    go_wp2_with fail
    go_ret
    exact ⟨ret_bool HN.out.symm, by first | exact HB0.out | (rw [← EW0.out]; exact HB0.out)⟩
end Go.Proofs.YtdkpnbjkehakjaaGreatDoor
