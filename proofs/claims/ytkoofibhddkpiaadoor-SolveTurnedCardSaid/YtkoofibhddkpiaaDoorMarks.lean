import Derived.Test.YtkoofibhddkpiaaDoorMaskG
/-! what ranges over functions leave behind, where they stand in a loop; walks that never panic -/
namespace Go.Proofs.YtkoofibhddkpiaaDoor
set_option linter.unusedVariables false
open Go.RowKit Go.Shelf

def marks (Ds : List Nat) : List Deferred := Ds.map fun D => { target := .collected D, args := #[] }
def Marks (n : Nat) (W : World) (Ds : List Nat) : Prop := Ds.Nodup ∧ ∀ D ∈ Ds, n ≤ D ∧ W.heap[D]? = some (.deferred (some []))
theorem Marks.nil (n : Nat) (W : World) : Marks n W [] := ⟨List.nodup_nil, fun D h => by cases h⟩
theorem Marks.lt {n : Nat} {W : World} {Ds : List Nat} (h : Marks n W Ds) {D : Nat} (hD : D ∈ Ds) : D < W.heap.size := (Array.getElem?_eq_some_iff.1 (h.2 D hD).2).1
theorem Marks.cons {n : Nat} {W : World} {Ds : List Nat} {D : Nat} (h : Marks n W Ds) (hD : n ≤ D) (hK : W.heap[D]? = some (.deferred (some []))) (hlt : ∀ E ∈ Ds, E < D) : Marks n W (D :: Ds) :=
  ⟨List.nodup_cons.2 ⟨fun hm => Nat.lt_irrefl _ (hlt D hm), h.1⟩, fun E hE => by
    rcases List.mem_cons.1 hE with rfl | hE
    · exact ⟨hD, hK⟩
    · exact h.2 E hE⟩
theorem Marks.keeps {n : Nat} {W W' : World} {Ds : List Nat} (h : Marks n W Ds) (k : KeepsOthers W W') : Marks n W' Ds := ⟨h.1, fun D hD => ⟨(h.2 D hD).1, k.same D _ (h.2 D hD).2 rfl⟩⟩
theorem Marks.drewN {n : Nat} {W : World} {Ds : List Nat} (h : Marks n W Ds) (d : Nat) : Marks n (W.drewN d) Ds := h
theorem marks_own {β : Type} (n B : Nat) (Ds : List Nat) (hB : ∀ D ∈ Ds, D < B) : OwnFrom B (fun (_ : β) W => Marks n W Ds) :=
  fun _ _ _ _ hs hg hr => ⟨hs.1, fun D hD => ⟨(hs.2 D hD).1, (hg.block D (hs.lt hD) (fun e => by have h1 := (hr D e.symm).1; have h2 := hB D hD; omega)).trans (hs.2 D hD).2⟩⟩
theorem leaves_marks {F : Fence} {m : Nat} {P : Program} {fn : Func} {tmps : Array Value} {R : Ending → World → Prop} {b : Nat} : ∀ (Ds : List Nat) (W : World), b ≤ W.heap.size → Marks b W Ds →
    (∀ W', (∀ p v, W.cell? p = some v → W'.cell? p = some v) → Below b W W' → LeavesIn F m P fn tmps R [] .returning W') → LeavesInM F m P fn tmps R (marks Ds) .returning W := by
  intro Ds
  induction Ds with
  | nil => intro W _ _ h; exact h W (fun _ _ h => h) (Below.refl b W)
  | cons D Ds ih =>
    intro W hb hm h
    have hK := (hm.2 D (by simp)).2
    have hbD := (hm.2 D (by simp)).1
    have hB : Below b W (W.putObj D (.deferred none)) := (Below.refl b W).grown (grownBy_putObj' W D _) hb (fun k e => by cases e; exact hbD)
    refine ⟨by simp, .inl ⟨D, W.putObj D (.deferred none), rfl, run_takeDeferred hK, ih _ (Nat.le_trans hb hB.size) ⟨(List.nodup_cons.1 hm.1).2, fun E hE => ⟨(hm.2 E (by simp [hE])).1, ?_⟩⟩ fun W' hc hB' => h W' (fun p v hp => ?_) (hB.trans hB')⟩⟩
    · have hne : E ≠ D := fun e => (List.nodup_cons.1 hm.1).1 (e ▸ hE)
      exact (World.putObj_heap_other (fun e => hne e)).trans (hm.2 E (by simp [hE])).2
    · exact hc p v (cell_kept hp (grownBy_putObj' W D (.deferred none)) (fun r e => (by cases e; exact ⟨_, hK, rfl⟩)))

theorem cell_lt {W : World} {p : Addr} {v : Value} (h : W.cell? p = some v) : p.block < W.heap.size := by
  rcases Nat.lt_or_ge p.block W.heap.size with h1 | h1
  · exact h1
  · simp [World.cell?, Array.getElem?_eq_none h1] at h

/-- a walk that never panics -/
def noPanic (Q : Exit → Act → World → Prop) : Exit → Act → World → Prop
  | .panic _, _, _ => False
  | .normal, a, w => Q .normal a w
  | .ret, a, w => Q .ret a w
  | .exit i, a, w => Q (.exit i) a w
  | .goto l, a, w => Q (.goto l) a w
  | .outgrown, a, w => Q .outgrown a w
theorem noPanic_of {Q : Exit → Act → World → Prop} : ∀ e a w, noPanic Q e a w → Q e a w
  | .panic _, _, _, h => h.elim
  | .normal, _, _, h => h
  | .ret, _, _, h => h
  | .exit _, _, _, h => h
  | .goto _, _, _, h => h
  | .outgrown, _, _, h => h
end Go.Proofs.YtkoofibhddkpiaaDoor
