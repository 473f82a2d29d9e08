import Derived.Test.YtbelhoeailjkkaaCalG
import Derived.Deep.Cut
import Derived.Deep.RegionHeld3
import Derived.Deep.AppendLies
set_option linter.unusedSimpArgs false
set_option linter.unusedVariables false
/-! calls: leading -/
namespace Go.Proofs.Ytbelhoeailjkkaa
open Go.RowKit
namespace CC
theorem own_of_block {w w' : World} {B e n size : Nat} {v : Value} {xs : List Value} (h : w.ownsRow B e size v n xs) (hk : ∀ k, v.ownBlock = some k → w'.heap[k]? = w.heap[k]?) : w'.ownsRow B e size v n xs := by
  refine ⟨h.1, ?_⟩
  rcases h.2 with hn | ⟨g, cap, cur, rfl, hb, hgg, rest⟩
  · exact .inl hn
  · exact .inr ⟨g, cap, cur, rfl, hb, (hk g rfl).trans hgg, rest⟩
theorem own_lower {W : World} {B B' e size n : Nat} {v : Value} {xs : List Value} (h : B' ≤ B) (g : W.ownsRow B e size v n xs) : W.ownsRow B' e size v n xs := by
  refine ⟨g.1, ?_⟩
  rcases g.2 with hn | ⟨k, cap, cur, rfl, hb, rest⟩
  · exact .inl hn
  · exact .inr ⟨k, cap, cur, rfl, Nat.le_trans h hb, rest⟩
theorem ownOf {w : World} {B e n size : Nat} {v : Value} {xs : List Value} (h : w.ownsRow B e size v n xs) : ∃ a cap, v = .slice a n cap := by
  rcases h.2 with ⟨rfl, rfl⟩ | ⟨g, cap, cur, rfl, _⟩
  · exact ⟨_, _, rfl⟩
  · exact ⟨_, _, rfl⟩
theorem set_obj {w : World} {r c : Nat} {cs : Array Value} {T : TypeId} (v : Value) (h : w.heap[r]? = some (.cells cs T)) : (w.setCell ⟨r, c, none⟩ v).heap[r]? = some (.cells (cs.setIfInBounds c v) T) := by
  simp only [World.setCell, Array.getElem?_modify, if_pos rfl, h, Option.map_some]
  rfl
theorem heap_some_lt {w : World} {g : Nat} {o : Obj} (h : w.heap[g]? = some o) : g < w.heap.size := (Array.getElem?_eq_some_iff.1 h).1
theorem new_at {w : World} {o : Obj} {n : Nat} (h : w.heap.size = n) : (w.alloc o).heap[n]? = some o := by
  subst h
  exact heap_alloc_new _ _
end CC
open CC
theorem Try.infoCBools : (Try.prog.info? 31).map (fun i => (i.zero, i.size, i.bytes)) = some (some (.slice none 0 0), 1, 24) := by kernel_rfl
/-- the table that leading makes, as far as row i -/
structure LeadT (W : World) (n i : Nat) (L : Nat → Nat → Bool) (V : World) (v : Value) (vs : List Value) : Prop where
  below : Below W.heap.size W V
  cell : V.heap[W.heap.size]? = some (.cells #[v] 40)
  own : V.ownsRow (W.heap.size + 1) 31 1 v i vs
  rows : ∀ j, j < i → ∃ r, vs[j]? = some r ∧ V.ownsRow (W.heap.size + 1) 4 1 r n (boolsV (flagsL n (L j)))
theorem LeadT.lt {W V : World} {n i : Nat} {L : Nat → Nat → Bool} {v : Value} {vs : List Value} (h : LeadT W n i L V v vs) : W.heap.size + 1 ≤ V.heap.size := heap_some_lt h.cell
theorem LeadT.start (W : World) (n : Nat) (L : Nat → Nat → Bool) : LeadT W n 0 L (W.alloc (.cells #[.slice none 0 0] 40)) (.slice none 0 0) [] :=
  ⟨(Below.refl _ _).alloc (Nat.le_refl _) _, new_at rfl, World.ownsRow_nil _ _ _ _, fun j hj => absurd hj (Nat.not_lt_zero _)⟩
/-- a row more -/
theorem LeadT.next {W V w1 w3 : World} {n i : Nat} {L : Nat → Nat → Bool} {v v' rv : Value} {vs : List Value} {o : Obj} (h : LeadT W n i L V v vs) (hb : Below V.heap.size V w1) (hr : w1.ownsRow V.heap.size 4 1 rv n (boolsV (flagsL n (L i))))
    (ho : w3.ownsRow (W.heap.size + 1) 31 1 v' (i + 1) (vs ++ [rv])) (hg : (w1.alloc o).grownBy w3 v.ownBlock) :
    w3.heap[W.heap.size]? = some (.cells #[v] 40) ∧ LeadT W n (i + 1) L (w3.setCell ⟨W.heap.size, 0, none⟩ v') v' (vs ++ [rv]) := by
  have hlt := h.lt
  have hs1 := hb.size
  have key : ∀ k, k < w1.heap.size → some k ≠ v.ownBlock → w3.heap[k]? = w1.heap[k]? := fun k hk hne => (hg.block k (by simp; omega) hne).trans (heap_alloc_old _ _ hk)
  have hnv : some W.heap.size ≠ v.ownBlock := fun e => by have := (h.own.lt _ e.symm).1; omega
  have hc1 : w1.heap[W.heap.size]? = some (.cells #[v] 40) := (hb.block _ (by omega)).trans h.cell
  have hc3 := (key _ (by omega) hnv).trans hc1
  have hset : ∀ k, k ≠ W.heap.size → (w3.setCell ⟨W.heap.size, 0, none⟩ v').heap[k]? = w3.heap[k]? := fun k hk => Below.heap_setCell _ _ _ _ hk
  refine ⟨hc3, ?_, ?_, own_of_block ho (fun k e => hset k (by have := (ho.lt k e).1; omega)), fun j hj => ?_⟩
  · have h1 : Below W.heap.size W w1 := h.below.trans (hb.mono h.below.size)
    exact ((h1.alloc h1.size o).grown hg (by have := h1.size; simp; omega) (fun k e => by have := (h.own.lt k e).1; omega)).setCell (Nat.le_refl _) _
  · have := set_obj (c := 0) v' hc3
    simpa using this
  · have hl : vs.length = i := by have := h.own.1; omega
    by_cases e : j = i
    · subst e
      refine ⟨rv, by rw [← hl]; simp, ?_⟩
      have hvw : w1.ownsRow (W.heap.size + 1) 31 1 v j vs := own_of_block h.own (fun k e => hb.block _ (h.own.lt k e).2)
      refine own_lower (by omega) (own_of_block hr (fun k e => ?_))
      have hk := hr.lt k e
      rw [hset k (by omega), key k hk.2 (fun e' => by rcases GG.own_types hr hvw (by decide) with q | q; rw [q] at e; cases e; exact q (e.trans e'))]
    · obtain ⟨r, h1, h2⟩ := h.rows j (by omega)
      refine ⟨r, by rw [List.getElem?_append_left (by omega)]; exact h1, own_of_block h2 (fun k e => ?_)⟩
      have hk := h2.lt k e
      rw [hset k (by omega), key k (by omega) (fun e' => by rcases GG.own_types h2 h.own (by decide) with q | q; rw [q] at e; cases e; exact q (e.trans e')), hb.block k hk.2]
/-- .. all rows -/
theorem LeadT.lead {W V : World} {n : Nat} {L : Nat → Nat → Bool} {v : Value} {vs : List Value} (h : LeadT W n n L V v vs) : LeadM V.heap.size V W.heap.size n L := by
  have hl : vs.length = n := by have := h.own.1; omega
  exact ⟨h.lt, v, cell_of_one h.cell, vs, cells_of_row h.own, hl, fun j hj => by obtain ⟨r, h1, h2⟩ := h.rows j hj; exact ⟨r, h1, cells_of_row h2⟩⟩

set_option maxRecDepth 100000 in
set_option maxHeartbeats 6400000 in
theorem leading_any {v : Value} {to : List (List Int)} (W : World) (hv : GraphM W.heap.size W v to) (hx : Small to) (hr : GG.rightG to = true) :
    Calls Try.prog 19 #[v] W fun e W' => e = .returned (.func (.func 35) #[] #[.pointer (some ⟨W.heap.size, 0, none⟩)]) ∧ LeadM W'.heap.size W' W.heap.size to.length (leadL to) ∧ Below W.heap.size W W' := by
  have hx0 := hx.1
  have hlen := GG.right_len hr
  have HV := Lib.hid hv
  have HX := Lib.hid hx
  have HR := Lib.hid hr
  obtain ⟨va, vc, rfl⟩ := hv.form
  obtain ⟨b0, hb0, hy0, hy1, hy2⟩ := info_parts Try.infoCBools
  clear hv hx hr
  go_enter Try.func19, Try.ntmps19
  go_wp2_with fail
  go_loopw [7] (fun k wr => ∃ i : Nat, i ≤ to.length ∧ k = .int .i64 (i : Int) ∧ RowKit.Hid (∃ v vs, LeadT W to.length i (leadL to) wr v vs)) (fun k _ => to.length - (intOf k).toNat)
  case atStart => exact ⟨0, by omega, rfl, Lib.hid ⟨_, _, LeadT.start W to.length (leadL to)⟩⟩
  case round =>
    obtain ⟨i, hi, rfl, HT⟩ := hrel
    obtain ⟨v, vs, hT⟩ := HT.out
    have HT := Lib.hid hT
    clear hT
    by_cases hlt : i < to.length
    · have j1 : decide ((i : Int) < (to.length : Int)) = true := decide_eq_true (by omega)
      have HE := Lib.hid (show reachedL to (i : Int) = flagsL to.length (leadL to i) by unfold reachedL; rw [if_pos ⟨HR.out, decide_eq_true (by omega)⟩, Int.toNat_natCast]; rfl)
      obtain ⟨wa, wc, rfl⟩ := CC.ownOf HT.out.own
      have hN := HT.out.lt
      have hcA : wr.cell? ⟨W.heap.size, 0, none⟩ = some (.slice wa i wc) := cell_of_one HT.out.cell
      have hcB : wr.drew.cell? ⟨W.heap.size, 0, none⟩ = some (.slice wa i wc) := hcA
      go_upto_region 5 with fail
      refine wp_region_held_drew (S := (fun _ => True)) (by kernel_rfl) ?_ (fun hHeld => ?_)
      · trivial
      refine wpAnyH_take (i := 1) (v := .slice va to.length vc) rfl (by kernel_rfl) (by kernel_rfl) (by kernel_rfl) (fun _ _ _ h => h) (Or.inl ⟨by rfl, fun W hSW => ?_⟩) hHeld ?_
      · ((try dsimp only at hSW); go_split_ands; go_simp <;> with_reducible rfl)
      try simp only [List.getElem_toArray, List.getElem_cons_succ, List.getElem_cons_zero, Act.put, List.setIfInBounds_toArray, List.set_cons_zero, List.set_cons_succ]
      refine wpAnyH_take (i := 2) (v := .int .i64 i) rfl (by kernel_rfl) (by kernel_rfl) (by kernel_rfl) (fun _ _ _ h => h) (Or.inl ⟨by rfl, fun W hSW => ?_⟩) hHeld ?_
      · ((try dsimp only at hSW); go_split_ands; go_simp <;> with_reducible rfl)
      try simp only [List.getElem_toArray, List.getElem_cons_succ, List.getElem_cons_zero, Act.put, List.setIfInBounds_toArray, List.set_cons_zero, List.set_cons_succ]
      refine wpAnyH_ready (rs := [0, 3]) (by kernel_rfl) (by simp) ?_
      refine AllReadyH.cons rfl (fun K hK => ?_) (AllReadyH.cons rfl (fun K hK => ?_) AllReadyH.nil)
      · skip
        try simp only [List.getElem_toArray, List.getElem_cons_succ, List.getElem_cons_zero]
        go_simp
        try go_wp2_with fail
        refine hK.out _ _ ?_ (fun hHeld => ?_)
        · trivial
        clear hK K
        try simp only [List.getElem_toArray, List.getElem_cons_succ, List.getElem_cons_zero, Act.put, List.setIfInBounds_toArray, List.set_cons_zero, List.set_cons_succ]
        refine wpAnyH_ready (rs := [3]) (by kernel_rfl) (by simp) ?_
        refine AllReadyH.cons rfl (fun K hK => ?_) AllReadyH.nil
        try simp only [List.getElem_toArray, List.getElem_cons_succ, List.getElem_cons_zero]
        go_simp
        (refine (reached_own (to := to) (i : Int) _ (by first | exact HV.out.on HT.out.below HT.out.below.size | exact HV.out.on HT.out.below.drew HT.out.below.size) HX.out).mono ?_; rintro e w1 ⟨rv, rfl, hrv, hb⟩; rw [HE.out, flagsL_len] at hrv)
        try go_wp2_with fail
        refine hK.out _ _ ?_ (fun hHeld => ?_)
        · trivial
        clear hK K
        try simp only [List.getElem_toArray, List.getElem_cons_succ, List.getElem_cons_zero, Act.put, List.setIfInBounds_toArray, List.set_cons_zero, List.set_cons_succ]
        have HRV := Lib.hid (show w1.ownsRow wr.heap.size 4 1 rv to.length (boolsV (flagsL to.length (leadL to i))) by first | exact hrv | exact own_lower (Nat.le_refl _) hrv)
        have HB1 := Lib.hid (show Below wr.heap.size wr w1 by first | exact hb | exact (Below.refl wr.heap.size wr).drew.trans hb)
        obtain ⟨rva, rvc, rfl⟩ := CC.ownOf HRV.out
        have hc1 : w1.cell? ⟨W.heap.size, 0, none⟩ = some (.slice wa i wc) := (HB1.out.cell (p := ⟨W.heap.size, 0, none⟩) hN).trans hcA
        have hc2 : w1.drew.cell? ⟨W.heap.size, 0, none⟩ = some (.slice wa i wc) := hc1
        have hc3 : (w1.alloc (.cells #[.slice rva to.length rvc] 31)).cell? ⟨W.heap.size, 0, none⟩ = some (.slice wa i wc) := ((HB1.out.alloc HB1.out.size _).cell (p := ⟨W.heap.size, 0, none⟩) hN).trans hcA
        have hc4 : (w1.alloc (.cells #[.slice rva to.length rvc] 31)).drew.cell? ⟨W.heap.size, 0, none⟩ = some (.slice wa i wc) := hc3
        have hc5 : (w1.drew.alloc (.cells #[.slice rva to.length rvc] 31)).cell? ⟨W.heap.size, 0, none⟩ = some (.slice wa i wc) := hc3
        clear hrv hb
        refine wpAnyH_ready (rs := [4]) (by kernel_rfl) (by simp) ?_
        refine AllReadyH.cons rfl (fun K hK => ?_) AllReadyH.nil
        try simp only [List.getElem_toArray, List.getElem_cons_succ, List.getElem_cons_zero]
        go_simp
        try go_wp2_with fail
        refine hK.out _ _ ?_ (fun hHeld => ?_)
        · trivial
        clear hK K
        try simp only [List.getElem_toArray, List.getElem_cons_succ, List.getElem_cons_zero, Act.put, List.setIfInBounds_toArray, List.set_cons_zero, List.set_cons_succ]
        refine wpAnyH_ready (rs := [5]) (by kernel_rfl) (by simp) ?_
        refine AllReadyH.cons rfl (fun K hK => ?_) AllReadyH.nil
        refine step_append_lies _ rfl (.tmp 10) (.tmp 14) 40 rfl (W.heap.size + 1) 31 b0 (.slice none 0 0) 1 24 Try.underlying40 hb0 hy0 hy1 hy2 rfl (by decide) (.slice wa i wc) i vs (by rfl) (own_of_block HT.out.own (fun k hk => (HB1.out.alloc HB1.out.size _).block _ (HT.out.own.lt k hk).2)) ⟨w1.heap.size, 0, none⟩ 1 1 [.slice rva to.length rvc] (by rfl) rfl (World.news_of_block (cs := #[.slice rva to.length rvc]) (t := 31) (fr := (0, 0)) (new_at rfl)) (by intro u hu; rw [List.mem_singleton.1 hu]; rfl) (by decide) (by unfold maxLen; omega) (by omega) (by have := HB1.out.size; simp; omega) (w1.heap.size + 1) (by simp) ?_
        intro g2 cap2 w3 hown hg hat hlt2
        have HF := Lib.hid (HT.out.next HB1.out HRV.out hown hg)
        have hc6 := cell_of_one HF.out.1
        have hf6 := free_of_one HF.out.1
        refine hK.out _ _ ?_ (fun hHeld => ?_)
        · trivial
        clear hK K
        try simp only [List.getElem_toArray, List.getElem_cons_succ, List.getElem_cons_zero, Act.put, List.setIfInBounds_toArray, List.set_cons_zero, List.set_cons_succ]
        refine wpAnyH_ready (rs := [6]) (by kernel_rfl) (by simp) ?_
        refine AllReadyH.cons rfl (fun K hK => ?_) AllReadyH.nil
        try simp only [List.getElem_toArray, List.getElem_cons_succ, List.getElem_cons_zero]
        go_simp
        try go_wp2_with fail
        refine hK.out _ _ ?_ (fun hHeld => ?_)
        · trivial
        clear hK K
        try simp only [List.getElem_toArray, List.getElem_cons_succ, List.getElem_cons_zero, Act.put, List.setIfInBounds_toArray, List.set_cons_zero, List.set_cons_succ]
        refine wpAnyH_done (by kernel_rfl) ?_ _
        clear hHeld
        go_wp2_with fail
        go_roundw
        case rel => exact ⟨i + 1, by omega, by go_num, Lib.hid ⟨_, _, HF.out.2⟩⟩
        case measure => simp [intOf]; omega
      · skip
        try simp only [List.getElem_toArray, List.getElem_cons_succ, List.getElem_cons_zero]
        go_simp
        (refine (reached_own (to := to) (i : Int) _ (by first | exact HV.out.on HT.out.below HT.out.below.size | exact HV.out.on HT.out.below.drew HT.out.below.size) HX.out).mono ?_; rintro e w1 ⟨rv, rfl, hrv, hb⟩; rw [HE.out, flagsL_len] at hrv)
        try go_wp2_with fail
        refine hK.out _ _ ?_ (fun hHeld => ?_)
        · trivial
        clear hK K
        try simp only [List.getElem_toArray, List.getElem_cons_succ, List.getElem_cons_zero, Act.put, List.setIfInBounds_toArray, List.set_cons_zero, List.set_cons_succ]
        have HRV := Lib.hid (show w1.ownsRow wr.heap.size 4 1 rv to.length (boolsV (flagsL to.length (leadL to i))) by first | exact hrv | exact own_lower (Nat.le_refl _) hrv)
        have HB1 := Lib.hid (show Below wr.heap.size wr w1 by first | exact hb | exact (Below.refl wr.heap.size wr).drew.trans hb)
        obtain ⟨rva, rvc, rfl⟩ := CC.ownOf HRV.out
        have hc1 : w1.cell? ⟨W.heap.size, 0, none⟩ = some (.slice wa i wc) := (HB1.out.cell (p := ⟨W.heap.size, 0, none⟩) hN).trans hcA
        have hc2 : w1.drew.cell? ⟨W.heap.size, 0, none⟩ = some (.slice wa i wc) := hc1
        have hc3 : (w1.alloc (.cells #[.slice rva to.length rvc] 31)).cell? ⟨W.heap.size, 0, none⟩ = some (.slice wa i wc) := ((HB1.out.alloc HB1.out.size _).cell (p := ⟨W.heap.size, 0, none⟩) hN).trans hcA
        have hc4 : (w1.alloc (.cells #[.slice rva to.length rvc] 31)).drew.cell? ⟨W.heap.size, 0, none⟩ = some (.slice wa i wc) := hc3
        have hc5 : (w1.drew.alloc (.cells #[.slice rva to.length rvc] 31)).cell? ⟨W.heap.size, 0, none⟩ = some (.slice wa i wc) := hc3
        clear hrv hb
        refine wpAnyH_ready (rs := [0, 4]) (by kernel_rfl) (by simp) ?_
        refine AllReadyH.cons rfl (fun K hK => ?_) (AllReadyH.cons rfl (fun K hK => ?_) AllReadyH.nil)
        · skip
          try simp only [List.getElem_toArray, List.getElem_cons_succ, List.getElem_cons_zero]
          go_simp
          try go_wp2_with fail
          refine hK.out _ _ ?_ (fun hHeld => ?_)
          · trivial
          clear hK K
          try simp only [List.getElem_toArray, List.getElem_cons_succ, List.getElem_cons_zero, Act.put, List.setIfInBounds_toArray, List.set_cons_zero, List.set_cons_succ]
          refine wpAnyH_ready (rs := [4]) (by kernel_rfl) (by simp) ?_
          refine AllReadyH.cons rfl (fun K hK => ?_) AllReadyH.nil
          try simp only [List.getElem_toArray, List.getElem_cons_succ, List.getElem_cons_zero]
          go_simp
          try go_wp2_with fail
          refine hK.out _ _ ?_ (fun hHeld => ?_)
          · trivial
          clear hK K
          try simp only [List.getElem_toArray, List.getElem_cons_succ, List.getElem_cons_zero, Act.put, List.setIfInBounds_toArray, List.set_cons_zero, List.set_cons_succ]
          refine wpAnyH_ready (rs := [5]) (by kernel_rfl) (by simp) ?_
          refine AllReadyH.cons rfl (fun K hK => ?_) AllReadyH.nil
          refine step_append_lies _ rfl (.tmp 10) (.tmp 14) 40 rfl (W.heap.size + 1) 31 b0 (.slice none 0 0) 1 24 Try.underlying40 hb0 hy0 hy1 hy2 rfl (by decide) (.slice wa i wc) i vs (by rfl) (own_of_block HT.out.own (fun k hk => (HB1.out.alloc HB1.out.size _).block _ (HT.out.own.lt k hk).2)) ⟨w1.heap.size, 0, none⟩ 1 1 [.slice rva to.length rvc] (by rfl) rfl (World.news_of_block (cs := #[.slice rva to.length rvc]) (t := 31) (fr := (0, 0)) (new_at rfl)) (by intro u hu; rw [List.mem_singleton.1 hu]; rfl) (by decide) (by unfold maxLen; omega) (by omega) (by have := HB1.out.size; simp; omega) (w1.heap.size + 1) (by simp) ?_
          intro g2 cap2 w3 hown hg hat hlt2
          have HF := Lib.hid (HT.out.next HB1.out HRV.out hown hg)
          have hc6 := cell_of_one HF.out.1
          have hf6 := free_of_one HF.out.1
          refine hK.out _ _ ?_ (fun hHeld => ?_)
          · trivial
          clear hK K
          try simp only [List.getElem_toArray, List.getElem_cons_succ, List.getElem_cons_zero, Act.put, List.setIfInBounds_toArray, List.set_cons_zero, List.set_cons_succ]
          refine wpAnyH_ready (rs := [6]) (by kernel_rfl) (by simp) ?_
          refine AllReadyH.cons rfl (fun K hK => ?_) AllReadyH.nil
          try simp only [List.getElem_toArray, List.getElem_cons_succ, List.getElem_cons_zero]
          go_simp
          try go_wp2_with fail
          refine hK.out _ _ ?_ (fun hHeld => ?_)
          · trivial
          clear hK K
          try simp only [List.getElem_toArray, List.getElem_cons_succ, List.getElem_cons_zero, Act.put, List.setIfInBounds_toArray, List.set_cons_zero, List.set_cons_succ]
          refine wpAnyH_done (by kernel_rfl) ?_ _
          clear hHeld
          go_wp2_with fail
          go_roundw
          case rel => exact ⟨i + 1, by omega, by go_num, Lib.hid ⟨_, _, HF.out.2⟩⟩
          case measure => simp [intOf]; omega
        · skip
          try simp only [List.getElem_toArray, List.getElem_cons_succ, List.getElem_cons_zero]
          go_simp
          try go_wp2_with fail
          refine hK.out _ _ ?_ (fun hHeld => ?_)
          · trivial
          clear hK K
          try simp only [List.getElem_toArray, List.getElem_cons_succ, List.getElem_cons_zero, Act.put, List.setIfInBounds_toArray, List.set_cons_zero, List.set_cons_succ]
          refine wpAnyH_ready (rs := [0]) (by kernel_rfl) (by simp) ?_
          refine AllReadyH.cons rfl (fun K hK => ?_) AllReadyH.nil
          try simp only [List.getElem_toArray, List.getElem_cons_succ, List.getElem_cons_zero]
          go_simp
          try go_wp2_with fail
          refine hK.out _ _ ?_ (fun hHeld => ?_)
          · trivial
          clear hK K
          try simp only [List.getElem_toArray, List.getElem_cons_succ, List.getElem_cons_zero, Act.put, List.setIfInBounds_toArray, List.set_cons_zero, List.set_cons_succ]
          refine wpAnyH_ready (rs := [5]) (by kernel_rfl) (by simp) ?_
          refine AllReadyH.cons rfl (fun K hK => ?_) AllReadyH.nil
          refine step_append_lies _ rfl (.tmp 10) (.tmp 14) 40 rfl (W.heap.size + 1) 31 b0 (.slice none 0 0) 1 24 Try.underlying40 hb0 hy0 hy1 hy2 rfl (by decide) (.slice wa i wc) i vs (by rfl) (own_of_block HT.out.own (fun k hk => (HB1.out.alloc HB1.out.size _).block _ (HT.out.own.lt k hk).2)) ⟨w1.heap.size, 0, none⟩ 1 1 [.slice rva to.length rvc] (by rfl) rfl (World.news_of_block (cs := #[.slice rva to.length rvc]) (t := 31) (fr := (0, 0)) (new_at rfl)) (by intro u hu; rw [List.mem_singleton.1 hu]; rfl) (by decide) (by unfold maxLen; omega) (by omega) (by have := HB1.out.size; simp; omega) (w1.heap.size + 1) (by simp) ?_
          intro g2 cap2 w3 hown hg hat hlt2
          have HF := Lib.hid (HT.out.next HB1.out HRV.out hown hg)
          have hc6 := cell_of_one HF.out.1
          have hf6 := free_of_one HF.out.1
          refine hK.out _ _ ?_ (fun hHeld => ?_)
          · trivial
          clear hK K
          try simp only [List.getElem_toArray, List.getElem_cons_succ, List.getElem_cons_zero, Act.put, List.setIfInBounds_toArray, List.set_cons_zero, List.set_cons_succ]
          refine wpAnyH_ready (rs := [6]) (by kernel_rfl) (by simp) ?_
          refine AllReadyH.cons rfl (fun K hK => ?_) AllReadyH.nil
          try simp only [List.getElem_toArray, List.getElem_cons_succ, List.getElem_cons_zero]
          go_simp
          try go_wp2_with fail
          refine hK.out _ _ ?_ (fun hHeld => ?_)
          · trivial
          clear hK K
          try simp only [List.getElem_toArray, List.getElem_cons_succ, List.getElem_cons_zero, Act.put, List.setIfInBounds_toArray, List.set_cons_zero, List.set_cons_succ]
          refine wpAnyH_done (by kernel_rfl) ?_ _
          clear hHeld
          go_wp2_with fail
          go_roundw
          case rel => exact ⟨i + 1, by omega, by go_num, Lib.hid ⟨_, _, HF.out.2⟩⟩
          case measure => simp [intOf]; omega
    · have HF := Lib.hid (show LeadT W to.length to.length (leadL to) wr v vs by have e : i = to.length := by omega
                                                                                 rw [e] at HT; exact HT.out)
      go_wp2_with fail
      go_ret
      exact ⟨rfl, HF.out.lead, HF.out.below⟩
end Go.Proofs.Ytbelhoeailjkkaa
