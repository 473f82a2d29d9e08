import Derived.Test.YtaaicmldldkhhaaDoorLatQ
import Derived.Test.YtaaicmldldkhhaaDoorLatV
set_option linter.unusedSimpArgs false
set_option linter.unusedVariables false
/-! plain: the pairs that stand right above one another make the order again; chains, and levels beside one another -/
namespace Go.Proofs.YtaaicmldldkhhaaDoor.LL

theorem mem_rowUp {xs : List Int} {a k : Nat} {p : Nat × Nat} : p ∈ rowUp xs a k ↔ p.1 = a ∧ p.2 < k ∧ isCover xs a p.2 = true := by
  obtain ⟨x, y⟩ := p
  unfold rowUp
  simp only [List.mem_map, List.mem_filter, List.mem_range, Prod.mk.injEq]
  constructor
  · rintro ⟨b, ⟨h1, h2⟩, rfl, rfl⟩; exact ⟨rfl, h1, h2⟩
  · rintro ⟨rfl, h1, h2⟩; exact ⟨y, ⟨h1, h2⟩, rfl, rfl⟩
theorem mem_covers {xs : List Int} {a b : Nat} : (a, b) ∈ coversL xs ↔ a < xs.length ∧ b < xs.length ∧ isCover xs a b = true := by
  unfold coversL coversUp
  simp only [List.mem_flatMap, List.mem_range, mem_rowUp]
  constructor
  · rintro ⟨i, hi, rfl, h1, h2⟩; exact ⟨hi, h1, h2⟩
  · rintro ⟨h1, h2, h3⟩; exact ⟨a, h1, rfl, h2, h3⟩
theorem covers_nodup (xs : List Int) : (coversL xs).Nodup := by
  unfold coversL coversUp List.Nodup
  rw [List.pairwise_flatMap]
  refine ⟨fun a _ => ?_, ?_⟩
  · unfold rowUp
    rw [List.pairwise_map]
    refine List.Pairwise.imp ?_ (List.Pairwise.filter _ List.nodup_range)
    intro x y h e
    exact h (Prod.mk.inj e).2
  · refine List.Pairwise.imp ?_ List.nodup_range
    intro a b h x hx y hy e
    subst e
    exact h ((mem_rowUp.1 hx).1.symm.trans (mem_rowUp.1 hy).1)
theorem cover_st {xs : List Int} {a b : Nat} (h : isCover xs a b = true) : st xs a b = true ∧ ∀ m, m < xs.length → m ≠ a → m ≠ b → ab xs a m = true → ab xs m b = true → False := by
  unfold isCover at h
  rw [Bool.and_eq_true, List.all_eq_true] at h
  refine ⟨h.1, fun m hm h1 h2 h3 h4 => ?_⟩
  have := h.2 m (List.mem_range.2 hm)
  unfold coverAt at this
  rw [h3, h4] at this
  simp [h1, h2] at this
theorem st_not_cover {xs : List Int} {a b : Nat} (hs : st xs a b = true) (h : isCover xs a b = false) : ∃ m, m < xs.length ∧ m ≠ a ∧ m ≠ b ∧ ab xs a m = true ∧ ab xs m b = true := by
  unfold isCover at h
  unfold st at hs
  rw [hs, Bool.true_and, List.all_eq_false] at h
  obtain ⟨m, hm, h2⟩ := h
  unfold coverAt at h2
  simp only [Bool.or_eq_true, beq_iff_eq, Bool.not_eq_true', not_or, Bool.not_eq_false] at h2
  exact ⟨m, List.mem_range.1 hm, h2.1, h2.2.1, h2.2.2.1, h2.2.2.2⟩
theorem st_mk {xs : List Int} {a b : Nat} (h1 : a ≠ b) (h2 : ab xs a b = true) : st xs a b = true := by
  unfold st; rw [h2, show (a != b) = true by rw [bne_iff_ne]; exact h1]; rfl
theorem st_ab {xs : List Int} {a b : Nat} (h : st xs a b = true) : a ≠ b ∧ ab xs a b = true := by
  unfold st at h; rw [Bool.and_eq_true, bne_iff_ne] at h; exact h
/-- right above a there is one at or below b -/
theorem ex_cover {xs : List Int} (ho : ordB xs = true) (hw : Wide xs) {a b : Nat} (ha : a < xs.length) : ∀ c m, xs.length - cnt xs m ≤ c → m < xs.length → st xs a m = true → ab xs m b = true →
    ∃ z, z < xs.length ∧ isCover xs a z = true ∧ ab xs z b = true := by
  intro c
  induction c with
  | zero =>
    intro m hc hm hs hb
    cases hcv : isCover xs a m
    · obtain ⟨z, hz, h1, h2, h3, h4⟩ := st_not_cover hs hcv
      have h5 := (cnt_lt ho hw hz (st_mk h2 h4)).2
      have h6 := cnt_le xs z
      omega
    · exact ⟨m, hm, hcv, hb⟩
  | succ c ih =>
    intro m hc hm hs hb
    cases hcv : isCover xs a m
    · obtain ⟨z, hz, h1, h2, h3, h4⟩ := st_not_cover hs hcv
      have h5 := (cnt_lt ho hw hz (st_mk h2 h4)).2
      have h6 := cnt_le xs z
      exact ih z (by omega) hz (st_mk (fun e => h1 e.symm) h3) (ord_trans ho hw hz h4 hb)
    · exact ⟨m, hm, hcv, hb⟩
theorem covers_reach {xs : List Int} (ho : ordB xs = true) (hw : Wide xs) : ∀ c a b, cnt xs a ≤ c → a < xs.length → ab xs a b = true → Reach (coversL xs) a b := by
  intro c
  induction c with
  | zero => intro a b hc ha _; have := cnt_pos ho ha; omega
  | succ c ih =>
    intro a b hc ha hab
    by_cases e : a = b
    · subst e; exact .refl
    · have hb := (ord_at ho ha hab).1
      obtain ⟨z, hz, hcv, hzb⟩ := ex_cover ho hw ha _ b (Nat.le_refl _) hb (st_mk e hab) (ord_refl ho hb)
      have hs := (cover_st hcv).1
      exact (Reach.one (mem_covers.2 ⟨ha, hz, hcv⟩)).trans (ih z b (by have := (cnt_lt ho hw ha hs).2; omega) hz hzb)
theorem reach_ab {xs : List Int} (ho : ordB xs = true) (hw : Wide xs) {ps : List (Nat × Nat)} (hp : ∀ p ∈ ps, p ∈ coversL xs) {a b : Nat} (ha : a < xs.length) (h : Reach ps a b) : ab xs a b = true := by
  induction h with
  | refl => exact ord_refl ho ha
  | tail _ hm ih =>
    have := mem_covers.1 (hp _ hm)
    exact ord_trans ho hw ha ih (st_ab (cover_st this.2.2).1).2
/-- the covers make the lattice again -/
theorem covers_close {xs : List Int} (ho : ordB xs = true) (hw : Wide xs) : IsClose xs.length (coversL xs) xs :=
  ⟨rfl, hw, fun i k hi => ⟨fun e => covers_reach ho hw _ i k (Nat.le_refl _) hi e, fun r => reach_ab ho hw (fun _ h => h) hi r⟩⟩
/-- .. and none of them is too many -/
theorem less_close {xs : List Int} (ho : ordB xs = true) (hw : Wide xs) {k : Nat} (hk : k < (coversL xs).length) : ¬ IsClose xs.length ((coversL xs).take k ++ (coversL xs).drop (k + 1)) xs := by
  intro hc
  obtain ⟨⟨a, b⟩, hp⟩ : ∃ p, (coversL xs)[k] = p := ⟨_, rfl⟩
  have hmem : (a, b) ∈ coversL xs := hp ▸ List.getElem_mem hk
  have hm := mem_covers.1 hmem
  have hsub : ∀ p ∈ (coversL xs).take k ++ (coversL xs).drop (k + 1), p ∈ coversL xs := fun p h => by
    rcases List.mem_append.1 h with h | h
    · exact List.mem_of_mem_take h
    · exact List.mem_of_mem_drop h
  have hnot : (a, b) ∉ (coversL xs).take k ++ (coversL xs).drop (k + 1) := by
    have hn := covers_nodup xs
    have e : coversL xs = (coversL xs).take k ++ (a, b) :: (coversL xs).drop (k + 1) := by
      rw [← hp, ← List.drop_eq_getElem_cons hk, List.take_append_drop]
    rw [e, List.nodup_append] at hn
    intro h
    rcases List.mem_append.1 h with h | h
    · exact hn.2.2 _ h _ (List.mem_cons_self ..) rfl
    · exact (List.nodup_cons.1 hn.2.1).1 h
  have hs := cover_st hm.2.2
  have hab := st_ab hs.1
  have hr : Reach ((coversL xs).take k ++ (coversL xs).drop (k + 1)) a b := (hc.2.2 a b hm.1).1 hab.2
  cases hr with
  | refl => exact hab.1 rfl
  | tail hr hl =>
    rename_i c
    have hca := reach_ab ho hw hsub hm.1 hr
    have hcb := mem_covers.1 (hsub _ hl)
    have hcs := st_ab (cover_st hcb.2.2).1
    by_cases e : c = a
    · subst e; exact hnot hl
    · exact hs.2 c hcb.1 e hcs.1 hca hcs.2
theorem covers_none {xs : List Int} (h : rightB xs = true) (hw : Wide xs) (he : coversL xs = []) : xs.length = 1 := by
  have ho := right_ord h
  have hl := ord_len ho
  apply Classical.byContradiction
  intro hn
  have key : ∀ i j, i < xs.length → st xs i j = true → False := by
    intro i j hi hs
    have hj := (cnt_lt ho hw hi hs).1
    obtain ⟨z, hz, hcv, _⟩ := ex_cover ho hw hi _ j (Nat.le_refl _) hj hs (ord_refl ho hj)
    have : (i, z) ∈ coversL xs := mem_covers.2 ⟨hi, hz, hcv⟩
    rw [he] at this
    simp at this
  obtain ⟨j, hj⟩ := ex_join h (a := 0) (b := 1) (by omega) (by omega)
  by_cases e : j = 0
  · exact key 1 j (by omega) (st_mk (by omega) hj.2.2.1)
  · exact key 0 j (by omega) (st_mk (by omega) hj.2.1)
theorem covers_ok (xs : List Int) : ∀ p ∈ coversL xs, p.1 < xs.length ∧ p.2 < xs.length := fun p hp => by
  obtain ⟨a, b⟩ := p
  have := mem_covers.1 hp
  exact ⟨this.1, this.2.1⟩

/-- how a lattice is told -/
theorem right_intro {xs : List Int} (hl : 1 ≤ xs.length ∧ xs.length ≤ 64) (hw : Wide xs) (hrefl : ∀ i, i < xs.length → ab xs i i = true) (hran : ∀ i k, i < xs.length → ab xs i k = true → k < xs.length)
    (hanti : ∀ i k, i < xs.length → ab xs i k = true → ab xs k i = true → k = i) (htrans : ∀ i k m, i < xs.length → ab xs i k = true → ab xs k m = true → ab xs i m = true)
    (hj : ∀ a b, a < xs.length → b < xs.length → ∃ j, IsJ xs a b j) (hm : ∀ a b, a < xs.length → b < xs.length → ∃ j, IsM xs a b j) : rightB xs = true := by
  have ho : ordB xs = true := by
    unfold ordB
    rw [decide_eq_true hl, Bool.true_and]
    refine all_yes fun i hi => ?_
    unfold ordRow
    rw [hrefl i hi, Bool.true_and]
    refine all_yes fun k hk => ?_
    unfold ordAt
    cases e : ab xs i k
    · rfl
    · have h1 := hran i k hi e
      have h2 : (k == i || !ab xs k i) = true := by
        cases e2 : ab xs k i
        · simp
        · rw [show (k == i) = true by rw [beq_iff_eq]; exact hanti i k hi e e2]; rfl
      have h3 : (bits .or .u64 (xs[k]?.getD 0) (xs[i]?.getD 0) == xs[i]?.getD 0) = true := by
        rw [beq_iff_eq]
        have bo := or_bd5 _ _ (hw.at k).1 (hw.at k).2 (hw.at i).1 (hw.at i).2
        refine mask_ext _ _ bo.1 bo.2 (hw.at i).1 (hw.at i).2 fun m => ?_
        rw [or_has _ _ m (hw.at k).1 (hw.at k).2 (hw.at i).1 (hw.at i).2]
        cases e3 : MM.hasB (xs[k]?.getD 0) (m : Int)
        · rfl
        · have : ab xs i m = true := htrans i k m hi e e3
          unfold ab at this
          rw [this]; rfl
      rw [decide_eq_true h1, h2, h3]; rfl
  unfold rightB
  rw [ho, Bool.true_and]
  refine all_yes fun a ha => all_yes fun b hb => ?_
  obtain ⟨j, hj⟩ := hj a b ha (by omega)
  obtain ⟨m, hm⟩ := hm a b ha (by omega)
  have h1 : 0 ≤ joinI xs a b := by
    apply Classical.byContradiction; intro hn
    have hp : isJoin xs a b j = true := (isJoin_iff hj.1).2 hj
    unfold joinI firstI at hn
    split at hn
    · omega
    · rename_i e
      rw [List.find?_eq_none] at e
      exact e j (List.mem_range.2 hj.1) hp
  have h2 : 0 ≤ meetI xs a b := by
    apply Classical.byContradiction; intro hn
    have hp : isMeet xs a b m = true := (isMeet_iff hm.1).2 hm
    unfold meetI firstI at hn
    split at hn
    · omega
    · rename_i e
      rw [List.find?_eq_none] at e
      exact e m (List.mem_range.2 hm.1) hp
  unfold pairB
  rw [decide_eq_true h1, decide_eq_true h2]; rfl
theorem height_is {xs : List Int} (ho : ordB xs = true) (hw : Wide xs) {L : Nat → Nat} {t : Nat} (h1 : ∀ a b, a < xs.length → st xs a b = true → L b + 1 ≤ L a)
    (h2 : ∀ a, a < xs.length → L a = 0 ∨ ∃ b, b < xs.length ∧ st xs a b = true ∧ L a = L b + 1) (ht : t < xs.length) (h3 : ∀ a, a < xs.length → L a ≤ L t) : heightN xs = L t := by
  have e := long_one ho hw h1 h2
  unfold heightN
  have le1 := maxUp_le (f := longL xs) ht
  rw [← e t ht] at le1
  rcases maxUp_hit (longL xs) xs.length with h | ⟨k, hk, h⟩
  · omega
  · have := h3 k hk
    rw [e k hk, ← h] at this
    omega
/-! the pairs of a chain, and of levels beside one another -/
def chainPs (k : Nat) : List (Nat × Nat) := (List.range (k - 1)).map fun i => (i, i + 1)
def besidePs (k : Nat) : List (Nat × Nat) := (List.range (k - 1)).flatMap fun i => [(0, i), (i, k - 1)]
theorem reach_chain (k i j : Nat) (hi : i < k) : Reach (chainPs k) i j ↔ i ≤ j ∧ j < k := by
  constructor
  · intro h
    induction h with
    | refl => exact ⟨Nat.le_refl _, hi⟩
    | tail _ hm ih =>
      unfold chainPs at hm
      obtain ⟨x, hx, e⟩ := List.mem_map.1 hm
      have := List.mem_range.1 hx
      obtain ⟨e1, e2⟩ := Prod.mk.inj e
      omega
  · rintro ⟨h1, h2⟩
    obtain ⟨d, rfl⟩ : ∃ d, j = i + d := ⟨j - i, by omega⟩
    clear h1
    induction d with
    | zero => exact .refl
    | succ d ih =>
      refine (ih (by omega)).tail (List.mem_map.2 ⟨i + d, List.mem_range.2 (by omega), rfl⟩)
theorem mem_beside (k i j : Nat) : (i, j) ∈ besidePs k ↔ (i = 0 ∧ j + 1 < k) ∨ (i + 1 < k ∧ j = k - 1) := by
  unfold besidePs
  simp only [List.mem_flatMap, List.mem_range, List.mem_cons, List.mem_nil_iff, or_false, Prod.mk.injEq]
  constructor
  · rintro ⟨x, hx, ⟨rfl, rfl⟩ | ⟨rfl, rfl⟩⟩
    · exact .inl ⟨rfl, by omega⟩
    · exact .inr ⟨by omega, rfl⟩
  · rintro (⟨rfl, h⟩ | ⟨h, rfl⟩)
    · exact ⟨j, by omega, .inl ⟨rfl, rfl⟩⟩
    · exact ⟨i, by omega, .inr ⟨rfl, rfl⟩⟩
theorem reach_beside (k i j : Nat) (hi : i < k) : Reach (besidePs k) i j ↔ j < k ∧ (i = j ∨ i = 0 ∨ j = k - 1) := by
  constructor
  · intro h
    induction h with
    | refl => exact ⟨hi, .inl rfl⟩
    | tail _ hm ih => have := (mem_beside k _ _).1 hm; omega
  · rintro ⟨hj, rfl | rfl | rfl⟩
    · exact .refl
    · by_cases e : j = 0
      · subst e; exact .refl
      · by_cases e2 : j + 1 < k
        · exact .one ((mem_beside k _ _).2 (.inl ⟨rfl, e2⟩))
        · exact .one ((mem_beside k _ _).2 (.inr ⟨by omega, by omega⟩))
    · by_cases e : i = k - 1
      · subst e; exact .refl
      · exact .one ((mem_beside k _ _).2 (.inr ⟨by omega, rfl⟩))
theorem close_ab {k : Nat} {ps : List (Nat × Nat)} {xs : List Int} (h : IsClose k ps xs) {i j : Nat} (hi : i < xs.length) : ab xs i j = true ↔ Reach ps i j := h.2.2 i j (h.1 ▸ hi)
theorem chain_right {k : Nat} (h1 : 1 ≤ k) (h2 : k ≤ 64) {xs : List Int} (h : IsClose k (chainPs k) xs) : rightB xs = true ∧ heightN xs = k - 1 := by
  have hl := h.1
  have hab : ∀ i j, i < xs.length → (ab xs i j = true ↔ i ≤ j ∧ j < k) := fun i j hi => (close_ab h hi).trans (reach_chain k i j (hl ▸ hi))
  have hr : rightB xs = true := by
    refine right_intro ⟨by omega, by omega⟩ h.2.1 (fun i hi => (hab i i hi).2 ⟨Nat.le_refl _, by omega⟩) (fun i j hi e => by have := (hab i j hi).1 e; omega) ?_ ?_ ?_ ?_
    · intro i j hi e1 e2
      have a1 := (hab i j hi).1 e1
      have a2 := (hab j i (by omega)).1 e2
      omega
    · intro i j m hi e1 e2
      have a1 := (hab i j hi).1 e1
      have a2 := (hab j m (by omega)).1 e2
      exact (hab i m hi).2 (by omega)
    · intro a b ha hb
      refine ⟨max a b, by omega, (hab a _ ha).2 (by omega), (hab b _ hb).2 (by omega), fun m hm e1 e2 => ?_⟩
      have a1 := (hab a m ha).1 e1
      have a2 := (hab b m hb).1 e2
      exact (hab _ m (by omega)).2 (by omega)
    · intro a b ha hb
      refine ⟨min a b, by omega, (hab _ a (by omega)).2 (by omega), (hab _ b (by omega)).2 (by omega), fun m hm e1 e2 => ?_⟩
      have a1 := (hab m a hm).1 e1
      have a2 := (hab m b hm).1 e2
      exact (hab m _ hm).2 (by omega)
  refine ⟨hr, ?_⟩
  rw [height_is (right_ord hr) h.2.1 (L := fun a => k - 1 - a) (t := 0) ?_ ?_ (by omega) (fun a ha => by omega)]
  · omega
  · intro a b ha hs
    have := st_ab hs
    have a1 := (hab a b ha).1 this.2
    omega
  · intro a ha
    by_cases e : a + 1 < k
    · exact .inr ⟨a + 1, by omega, st_mk (by omega) ((hab a _ ha).2 (by omega)), by omega⟩
    · exact .inl (by omega)
def besL (k a : Nat) : Nat := if a = k - 1 then 0 else if a = 0 then min (k - 1) 2 else 1
theorem bes_cases (k a : Nat) : (a = k - 1 ∧ besL k a = 0) ∨ (a ≠ k - 1 ∧ a = 0 ∧ besL k a = min (k - 1) 2) ∨ (a ≠ k - 1 ∧ a ≠ 0 ∧ besL k a = 1) := by
  unfold besL
  by_cases e : a = k - 1
  · exact .inl ⟨e, by rw [if_pos e]⟩
  · by_cases e0 : a = 0
    · exact .inr (.inl ⟨e, e0, by rw [if_neg e, if_pos e0]⟩)
    · exact .inr (.inr ⟨e, e0, by rw [if_neg e, if_neg e0]⟩)
theorem beside_right {k : Nat} (h1 : 1 ≤ k) (h2 : k ≤ 64) {xs : List Int} (h : IsClose k (besidePs k) xs) : rightB xs = true ∧ heightN xs = min (k - 1) 2 := by
  have hl := h.1
  have hab : ∀ i j, i < xs.length → (ab xs i j = true ↔ j < k ∧ (i = j ∨ i = 0 ∨ j = k - 1)) := fun i j hi => (close_ab h hi).trans (reach_beside k i j (hl ▸ hi))
  have hr : rightB xs = true := by
    refine right_intro ⟨by omega, by omega⟩ h.2.1 (fun i hi => (hab i i hi).2 (by omega)) (fun i j hi e => by have := (hab i j hi).1 e; omega) ?_ ?_ ?_ ?_
    · intro i j hi e1 e2
      have a1 := (hab i j hi).1 e1
      have a2 := (hab j i (by omega)).1 e2
      omega
    · intro i j m hi e1 e2
      have a1 := (hab i j hi).1 e1
      have a2 := (hab j m (by omega)).1 e2
      exact (hab i m hi).2 (by omega)
    · intro a b ha hb
      refine ⟨if a = b ∨ b = 0 then a else if a = 0 then b else k - 1, by split <;> (try split) <;> omega, (hab a _ ha).2 (by split <;> (try split) <;> omega), (hab b _ hb).2 (by split <;> (try split) <;> omega), fun m hm e1 e2 => ?_⟩
      have a1 := (hab a m ha).1 e1
      have a2 := (hab b m hb).1 e2
      exact (hab _ m (by split <;> (try split) <;> omega)).2 (by split <;> (try split) <;> omega)
    · intro a b ha hb
      refine ⟨if a = b ∨ b = k - 1 then a else if a = k - 1 then b else 0, by split <;> (try split) <;> omega, (hab _ a (by split <;> (try split) <;> omega)).2 (by split <;> (try split) <;> omega), (hab _ b (by split <;> (try split) <;> omega)).2 (by split <;> (try split) <;> omega), fun m hm e1 e2 => ?_⟩
      have a1 := (hab m a hm).1 e1
      have a2 := (hab m b hm).1 e2
      exact (hab m _ hm).2 (by split <;> (try split) <;> omega)
  refine ⟨hr, ?_⟩
  have hL := bes_cases k
  have top := hL 0
  rw [height_is (right_ord hr) h.2.1 (L := besL k) (t := 0) ?_ ?_ (by omega) (fun a ha => by have := hL a; omega)]
  · omega
  · intro a b ha hs
    have := st_ab hs
    have a1 := (hab a b ha).1 this.2
    have la := hL a
    have lb := hL b
    omega
  · intro a ha
    have la := hL a
    by_cases e : a = k - 1
    · exact .inl (by omega)
    · by_cases e0 : a = 0
      · by_cases e2 : k ≤ 2
        · exact .inr ⟨k - 1, by omega, st_mk (by omega) ((hab a _ ha).2 (by omega)), by have := hL (k - 1); omega⟩
        · exact .inr ⟨1, by omega, st_mk (by omega) ((hab a _ ha).2 (by omega)), by have := hL 1; omega⟩
      · exact .inr ⟨k - 1, by omega, st_mk (by omega) ((hab a _ ha).2 (by omega)), by have := hL (k - 1); omega⟩
end Go.Proofs.YtaaicmldldkhhaaDoor.LL
