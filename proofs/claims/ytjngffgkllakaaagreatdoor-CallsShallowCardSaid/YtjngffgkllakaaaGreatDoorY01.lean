/- A part of a proof: laws that the last text uses. -/
import Derived.OrdersHeld
import Derived.Test.YtjngffgkllakaaaGreatDoorRows
import Derived.WalkKit
import Derived.WalkSpells
import Derived.WalkLawsBesides
import Derived.Lib.Hide
import Derived.Deep.QuietTactic
import Derived.BigQuiet
import Derived.Deep.OwnRows
import Derived.Deep.LoopGhost
import Derived.StillTailTactics
import Derived.Great.Walk
import Derived.Laws.EntriesVeiled
import Derived.Deep.RegionLaw
import Derived.Deep.RegionHeld3
import Derived.Great.BuildSlice
import Derived.Shelf.Small.Bits
import Derived.Shelf.Strconv.Itoa0
import Derived.Shelf.Sort.Plain
import Derived.Shelf.Bits.Mul64
import Derived.Shelf.Slices.Turned
import Derived.Shelf.Slices.Reverse
import Derived.Shelf.Slices.Equal
import Derived.Ground.Names2Prog
import Derived.Shelf.Slices.Clone
import Derived.Shelf.Slices.CompactI
import Derived.Shelf.Slices.Cells
import Derived.Shelf.Slices.In.SortNone
import Derived.Shelf.Slices.Empties2
import Derived.Test.YtjngffgkllakaaaGreatDoorProg
import Derived.Lib.OwnBridge
import Derived.Deep.AppendLies
set_option linter.unusedSimpArgs false
set_option linter.unusedVariables false
namespace Go.Proofs.YtjngffgkllakaaaGreatDoor
open List renaming getElem_toArray → zA, getElem_cons_succ → zB, getElem_cons_zero → zC, setIfInBounds_toArray → zD, set_cons_zero → zE, set_cons_succ → zF
open Lib renaming hid → zH
theorem tkV{P:Program}{ops:Array Oper}{Q:Exit->Act->World->Prop}{md:Region.Mode}{S:World->Prop}(i:Nat){oi:Oper}(v:Value){fuel:Nat}{listed:Array Bool}{a:Act}{w:World}(hi:ops[i]?=some oi)(hy:∀w,S w->(execOp a.eval oi).run P w=.ok (.value v) w)(hS:S w)
 (h:wpAnyH P md ops Q S fuel (listed.setIfInBounds i true) (a.put oi.dst v) w) (hs:Region.noSelect ops=true:=by kernel_rfl) (hf:Region.free md ops listed i=true:=by kernel_rfl) (hr:(Region.ready md ops listed).contains i=true:=by kernel_rfl) (hQ:∀c a w,Q (.panic c) (a.put oi.dst v) w->Q (.panic c) a w:=by exact fun _ _ _ h=>h) (hw:Region.wanted oi (yielded ops a.tmps)=true:=by rfl):wpAnyH P md ops Q S (fuel+1) listed a w :=
 wpAnyH_take hi hs hf hr hQ (Or.inl ⟨hw,hy⟩) hS h
theorem tkU{P:Program}{ops:Array Oper}{Q:Exit->Act->World->Prop}{md:Region.Mode}{S:World->Prop}(i:Nat){oi:Oper}{fuel:Nat}{listed:Array Bool}{a:Act}{w:World}(hi:ops[i]?=some oi)(hS:S w)
 (h:wpAnyH P md ops Q S fuel (listed.setIfInBounds i true) (a.put oi.dst undef) w) (hs:Region.noSelect ops=true:=by kernel_rfl) (hf:Region.free md ops listed i=true:=by kernel_rfl) (hr:(Region.ready md ops listed).contains i=true:=by kernel_rfl) (hQ:∀c a w,Q (.panic c) (a.put oi.dst undef) w->Q (.panic c) a w:=by exact fun _ _ _ h=>h) (hw:Region.wanted oi (yielded ops a.tmps)=false:=by rfl):wpAnyH P md ops Q S (fuel+1) listed a w :=
 wpAnyH_take hi hs hf hr hQ (Or.inr ⟨hw,rfl⟩) hS h
section
open Go.RowKit
theorem cC{k:IntKind}{a b:Int}(h:a=b):Ending.returned (.int k a)=.returned (.int k b):=by rw[h]
theorem af{a b:Bool}(h:a=b):Ending.returned (.bool a)=.returned (.bool b):=by rw[h]
theorem bstep{a w w':World}(h:Below a.heap.size a w)(k:Below w.heap.size w w'):Below a.heap.size a w':=h.trans (k.mono h.size)
theorem wf_i64_bd{a:Int}(h:(Lit.int .i64 a).wf=true):-9223372036854775808<=a/\a<=9223372036854775807:=by
 simp only[Lit.wf,Bool.and_eq_true,decide_eq_true_eq] at h;exact h
theorem wf_u64_bd{a:Int}(h:(Lit.int .u64 a).wf=true):0<=a/\a<=18446744073709551615:=by
 simp only[Lit.wf,Bool.and_eq_true,decide_eq_true_eq] at h;exact h
end
end Go.Proofs.YtjngffgkllakaaaGreatDoor
namespace Go.Proofs.YtjngffgkllakaaaGreatDoor.GG
open List renaming getElem_toArray → zA, getElem_cons_succ → zB, getElem_cons_zero → zC, setIfInBounds_toArray → zD, set_cons_zero → zE, set_cons_succ → zF
open Lib renaming hid → zH
section
inductive Reach (adj:Nat->List Nat):Nat->Nat->Prop
 | refl (i:Nat):Reach adj i i
 | step {i j k:Nat} (h:Reach adj i j) (hk:k∈adj j):Reach adj i k
theorem Reach.trans{adj:Nat->List Nat}{i j k:Nat}(h:Reach adj i j)(g:Reach adj j k):Reach adj i k:=by
 induction g with
 | refl=>exact h
 | step _ hk ih=>exact .step ih hk
theorem Reach.one{adj:Nat->List Nat}{i j:Nat}(h:j∈adj i):Reach adj i j:=.step (.refl i) h
theorem Reach.ahead{adj:Nat->List Nat}{i j k:Nat}(h:j∈adj i)(g:Reach adj j k):Reach adj i k:=(Reach.one h).trans g
theorem Reach.closed{adj:Nat->List Nat}{P:Nat->Prop}(hc:∀x,P x->∀j∈adj x,P j){i k:Nat}(h:Reach adj i k)(hi:P i):P k:=by
 induction h with
 | refl=>exact hi
 | step _ hk ih=>exact hc _ ih _ hk
theorem Reach.cases_head{adj:Nat->List Nat}{i k:Nat}(h:Reach adj i k):i=k∨∃j∈adj i,Reach adj j k:=by
 induction h with
 | refl=>exact .inl rfl
 | step _ hk ih =>
   rcases ih with rfl | ⟨j,hj,hr⟩
   ·exact .inr ⟨_,hk,.refl _⟩
   ·exact .inr ⟨j,hj,.step hr hk⟩
theorem Reach.back{adj bak:Nat->List Nat}(hb:∀i j,j∈adj i->i∈bak j){i k:Nat}(h:Reach adj i k):Reach bak k i:=by
 induction h with
 | refl=>exact .refl _
 | step _ hk ih=>exact Reach.ahead (hb _ _ hk) ih
theorem Reach.lt{adj:Nat->List Nat}{n:Nat}(ha:∀x,∀j∈adj x,j<n){i k:Nat}(h:Reach adj i k)(hi:i<n):k<n:=by
 cases h with
 | refl=>exact hi
 | step _ hk=>exact ha _ _ hk
def setB(B:Nat->Bool)(i:Nat):Nat->Bool:=fun x=>if x=i then true else B x
theorem jC(B:Nat->Bool)(i:Nat):setB B i i=true:=by simp [setB]
theorem dN(B:Nat->Bool)(i x:Nat):setB B i x=true↔x=i∨B x=true:=by
 unfold setB;by_cases h:x=i <;> simp [h]
abbrev St:=(Nat->Bool) × List Nat
def dfs(adj:Nat->List Nat):Nat->Nat->St->St
 | 0,_,s=>s
 | f+1,i,s =>
   if s.1 i=true then s
   else
    let t:=(adj i).foldl (fun s j=>dfs adj f j s) (setB s.1 i,s.2)
    (t.1,t.2 ++ [i])
def unv(n:Nat)(B:Nat->Bool):Nat:=((List.range n).filter fun x=>!B x).length
theorem iB(n:Nat)(B:Nat->Bool):unv n B<=n:=by
 unfold unv;have:=List.length_filter_le (fun x=>!B x) (List.range n);simpa using this
theorem gl(n:Nat){B C:Nat->Bool}(h:∀x,B x=true->C x=true):unv n C<=unv n B:=by
 unfold unv
 induction n with
 | zero=>simp
 | succ n ih =>
   rw[List.range_succ,List.filter_append,List.filter_append,List.length_append,List.length_append]
   have:(List.filter (fun x=>!C x) [n]).length<=(List.filter (fun x=>!B x) [n]).length:=by
    cases hb:B n
    ·simp [List.filter_cons,hb];split <;> simp
    ·simp [List.filter_cons,hb,h n hb]
   omega
theorem eM(n:Nat){B:Nat->Bool}{i:Nat}(hi:i<n)(hB:B i=false):unv n (setB B i)<unv n B:=by
 unfold unv
 induction n with
 | zero=>omega
 | succ n ih =>
   rw[List.range_succ,List.filter_append,List.filter_append,List.length_append,List.length_append]
   by_cases e:i=n
   ·subst e
    have h1:(List.filter (fun x=>!setB B i x) [i]).length=0:=by simp [List.filter_cons,jC]
    have h2:(List.filter (fun x=>!B x) [i]).length=1:=by simp [List.filter_cons,hB]
    have h3:=gl i (B:=B) (C:=setB B i) (fun x h=>(dN _ _ _).2 (.inr h))
    unfold unv at h3
    omega
   ·have:=ih (by omega)
    have h1:(List.filter (fun x=>!setB B i x) [n])=(List.filter (fun x=>!B x) [n]):=by
     have:setB B i n=B n:=by unfold setB;rw[if_neg (fun h=>e h.symm)]
     simp [List.filter_cons,this]
    rw[h1];omega
theorem unv_pos{n:Nat}{B:Nat->Bool}{i:Nat}(hi:i<n)(hB:B i=false):0<unv n B:=Nat.lt_of_le_of_lt (Nat.zero_le _) (eM n hi hB)
structure Walk (adj:Nat->List Nat) (fr:Nat->Prop) (s t:St) (new:List Nat):Prop where
 out:t.2=s.2 ++ new
 been:∀x,t.1 x=true↔s.1 x=true∨x∈new
 fresh:∀x∈new,s.1 x=false
 once:new.Nodup
 from_:∀x∈new,∃i,fr i/\Reach adj i x
 ways:∀p x q,new=p ++ x :: q->∀j∈adj x,j∈s.2∨j∈p∨(Reach adj j x/\t.1 j=true)
theorem Walk.nil(adj:Nat->List Nat)(fr:Nat->Prop)(s:St):Walk adj fr s s [] :=
 ⟨by simp,by simp,by simp,by simp,by simp,fun p x q h=>by simp at h⟩
theorem dO{α:Type}{a b p q:List α}{x:α}(h:a ++ b=p ++ x :: q):(∃q',a=p ++ x :: q')∨∃p',p=a ++ p'/\b=p' ++ x :: q:=by
 rcases List.append_eq_append_iff.1 h with⟨r,h1,h2⟩ | ⟨r,h1,h2⟩
 ·exact .inr ⟨r,h1,h2⟩
 ·cases r with
  | nil=>exact .inr ⟨[],by simpa using h1.symm,by simpa using h2.symm⟩
  | cons y r =>
    simp at h2
    obtain⟨rfl,rfl⟩:=h2
    exact .inl ⟨_,h1⟩
theorem Walk.comp{adj:Nat->List Nat}{fr:Nat->Prop}{s t u:St}{a b:List Nat}(h:Walk adj fr s t a)(g:Walk adj fr t u b):Walk adj fr s u (a ++ b):=by
 refine⟨by rw[g.out,h.out,List.append_assoc],fun x=>by rw[g.been,h.been,List.mem_append,or_assoc],?_,?_,?_,?_⟩
 ·intro x hx
  rcases List.mem_append.1 hx with h1 | h1
  ·exact h.fresh x h1
  ·have:=g.fresh x h1
   cases hs:s.1 x
   ·rfl
   ·rw[(h.been x).2 (.inl hs)] at this;cases this
 ·rw[List.nodup_append]
  refine⟨h.once,g.once,fun x hx y hy e=>?_⟩
  subst e
  have:=g.fresh x hy
  rw[(h.been x).2 (.inr hx)] at this;cases this
 ·intro x hx
  rcases List.mem_append.1 hx with h1 | h1
  ·exact h.from_ x h1
  ·exact g.from_ x h1
 ·intro p x q e j hj
  rcases dO e with⟨q',h1⟩ | ⟨p',rfl,h2⟩
  ·rcases h.ways p x q' h1 j hj with k | k | ⟨k,m⟩
   ·exact .inl k
   ·exact .inr (.inl k)
   ·exact .inr (.inr ⟨k,(g.been j).2 (.inl m)⟩)
  ·rcases g.ways p' x q h2 j hj with k | k | ⟨k,m⟩
   ·rw[h.out] at k
    rcases List.mem_append.1 k with k | k
    ·exact .inl k
    ·exact .inr (.inl (List.mem_append_left _ k))
   ·exact .inr (.inl (List.mem_append_right _ k))
   ·exact .inr (.inr ⟨k,m⟩)
theorem Walk.weak{adj:Nat->List Nat}{fr fr':Nat->Prop}{s t:St}{a:List Nat}(h:Walk adj fr s t a)(hf:∀i,fr i->∃k,fr' k/\Reach adj k i):Walk adj fr' s t a :=
 ⟨h.out,h.been,h.fresh,h.once,fun x hx=>by
  obtain⟨i,hi,hr⟩:=h.from_ x hx
  obtain⟨k,hk,hr'⟩:=hf i hi
  exact⟨k,hk,hr'.trans hr⟩,h.ways⟩
def Gray(adj:Nat->List Nat)(s:St)(i:Nat):Prop:=∀x,s.1 x=true->x ∉ s.2->Reach adj x i
theorem Walk.gray{adj:Nat->List Nat}{fr:Nat->Prop}{s t:St}{a:List Nat}(h:Walk adj fr s t a){x:Nat}(h1:t.1 x=true)(h2:x ∉ t.2):s.1 x=true/\x ∉ s.2:=by
 rw[h.out,List.mem_append] at h2
 rcases (h.been x).1 h1 with h3 | h3
 ·exact⟨h3,fun h4=>h2 (.inl h4)⟩
 ·exact absurd (.inr h3) h2
theorem lZ{adj:Nat->List Nat}{n f:Nat}(ih:∀(i:Nat) (s:St),i<n->unv n s.1<f->Gray adj s i->∃new,Walk adj (· = i) s (dfs adj f i s) new/\(dfs adj f i s).1 i=true)
 (fr:Nat->Prop) (l:List Nat):∀(s:St),(∀j∈l,j<n/\∃k,fr k/\Reach adj k j)->unv n s.1<f->(∀j∈l,Gray adj s j) ->
  ∃new,Walk adj fr s (l.foldl (fun s j=>dfs adj f j s) s) new/\∀j∈l,(l.foldl (fun s j=>dfs adj f j s) s).1 j=true:=by
 induction l with
 | nil=>intro s _ _ _;exact⟨[],Walk.nil _ _ _,by simp⟩
 | cons j l ihl =>
   intro s hl hu hg
   obtain⟨new,hw,hj⟩:=ih j s (hl j (by simp)).1 hu (hg j (by simp))
   have hmono:∀x,s.1 x=true->(dfs adj f j s).1 x=true:=fun x h=>(hw.been x).2 (.inl h)
   obtain⟨new',hw',hj'⟩:=ihl (dfs adj f j s) (fun k hk=>hl k (by simp [hk])) (Nat.lt_of_le_of_lt (gl n hmono) hu) (fun k hk x h1 h2=>by
    obtain⟨h3,h4⟩:=hw.gray h1 h2
    exact hg k (by simp [hk]) x h3 h4)
   refine⟨new ++ new',(hw.weak (fun i e=>by subst e;exact(hl i (by simp)).2)).comp hw',fun k hk=>?_⟩
   rcases List.mem_cons.1 hk with rfl | hk
   ·exact(hw'.been k).2 (.inl hj)
   ·exact hj' k hk
theorem dfs_walk{adj:Nat->List Nat}{n:Nat}(ha:∀x,∀j∈adj x,j<n)(f:Nat):∀(i:Nat) (s:St),i<n->unv n s.1<f->Gray adj s i ->
 ∃new,Walk adj (· = i) s (dfs adj f i s) new/\(dfs adj f i s).1 i=true:=by
 induction f with
 | zero=>intro i s _ h;omega
 | succ f ih =>
   intro i s hi hu hg
   unfold dfs
   by_cases hB:s.1 i=true
   ·rw[if_pos hB];exact⟨[],Walk.nil _ _ _,hB⟩
   ·have hB':s.1 i=false:=by simpa using hB
    rw[if_neg hB]
    have hu':=eM n hi hB'
    obtain⟨new,hw,hj⟩:=lZ ih (· = i) (adj i) (setB s.1 i,s.2) (fun j hj=>⟨ha i j hj,i,rfl,Reach.one hj⟩) (by show unv n (setB s.1 i)<f;omega) (fun j hj x h1 h2=>by
     rcases (dN _ _ _).1 h1 with rfl | h3
     ·exact Reach.one hj
     ·exact(hg x h3 h2).trans (Reach.one hj))
    generalize (adj i).foldl (fun s j=>dfs adj f j s) (setB s.1 i,s.2)=t at hw hj
    have hfi:i ∉ new:=fun h=>by
     have:=hw.fresh i h
     rw[show ((setB s.1 i,s.2):St).1 i=true from jC _ _] at this;cases this
    have hti:t.1 i=true:=(hw.been i).2 (.inl (jC _ _))
    refine⟨new ++ [i],⟨by show t.2 ++ [i]=_;rw[hw.out,List.append_assoc],fun x=>?_,?_,?_,?_,?_⟩,hti⟩
    ·show t.1 x=true↔_
     rw[hw.been,List.mem_append,List.mem_singleton]
     show setB s.1 i x=true∨_↔_
     rw[dN]
     constructor
     ·rintro ((h | h) | h)
      ·exact .inr (.inr h)
      ·exact .inl h
      ·exact .inr (.inl h)
     ·rintro (h | h | h)
      ·exact .inl (.inr h)
      ·exact .inr h
      ·exact .inl (.inl h)
    ·intro x hx
     rcases List.mem_append.1 hx with h | h
     ·have:=hw.fresh x h
      cases hs:s.1 x
      ·rfl
      ·rw[show ((setB s.1 i,s.2):St).1 x=true from(dN _ _ _).2 (.inr hs)] at this;cases this
     ·rw[List.mem_singleton] at h;subst h;exact hB'
    ·rw[List.nodup_append]
     refine⟨hw.once,by simp,fun x hx y hy e=>?_⟩
     rw[List.mem_singleton] at hy
     subst hy e
     exact hfi hx
    ·intro x hx
     rcases List.mem_append.1 hx with h | h
     ·exact hw.from_ x h
     ·rw[List.mem_singleton] at h;subst h;exact⟨x,rfl,.refl _⟩
    ·intro p x q e j hj'
     rcases dO e with⟨q',h1⟩ | ⟨p',rfl,h2⟩
     ·rcases hw.ways p x q' h1 j hj' with k | k | ⟨k,m⟩
      ·exact .inl k
      ·exact .inr (.inl k)
      ·exact .inr (.inr ⟨k,m⟩)
     ·cases p' with
      | cons y p'=>simp at h2
      | nil =>
        simp at h2
        obtain⟨rfl,rfl⟩:=h2
        have htj:=hj j hj'
        by_cases ho:j∈t.2
        ·rw[hw.out] at ho
         rcases List.mem_append.1 ho with k | k
         ·exact .inl k
         ·exact .inr (.inl (by simpa using k))
        ·obtain⟨h3,h4⟩:=hw.gray htj ho
         rcases (dN _ _ _).1 h3 with rfl | h5
         ·exact .inr (.inr ⟨.refl _,htj⟩)
         ·exact .inr (.inr ⟨hg j h5 h4,htj⟩)
def runF(f:Nat)(adj:Nat->List Nat)(l:List Nat):St:=l.foldl (fun s j=>dfs adj f j s) ((fun _=>false),[])
theorem walks{adj:Nat->List Nat}{n:Nat}(ha:∀x,∀j∈adj x,j<n)(l:List Nat)(hl:∀j∈l,j<n){f:Nat}(hf:n<f) :
 ∃new,Walk adj (·∈l) ((fun _=>false),[]) (runF f adj l) new/\∀j∈l,(runF f adj l).1 j=true :=
 lZ (dfs_walk ha f) (·∈l) l _ (fun j hj=>⟨hl j hj,j,hj,.refl _⟩) (by have:=iB n (fun _=>false);show unv n (fun _=>false)<f;omega) (fun _ _ x h=>by cases h)
theorem kz{adj:Nat->List Nat}{n:Nat}(ha:∀x,∀j∈adj x,j<n)(l:List Nat)(hl:∀j∈l,j<n){f:Nat}(hf:n<f)(x:Nat) :
 (runF f adj l).1 x=true↔∃i∈l,Reach adj i x:=by
 obtain⟨new,hw,hj⟩:=walks ha l hl hf
 constructor
 ·intro h
  rcases (hw.been x).1 h with h | h
  ·cases h
  ·exact hw.from_ x h
 ·rintro ⟨i,hi,hr⟩
  refine hr.closed (P:=fun x=>(runF f adj l).1 x=true) ?_ (hj i hi)
  intro y hy j hyj
  rcases (hw.been y).1 hy with h | h
  ·cases h
  ·obtain⟨p,q,e⟩:=List.append_of_mem h
   rcases hw.ways p y q e j hyj with k | k | ⟨_,m⟩
   ·cases k
   ·exact(hw.been j).2 (.inr (by rw[e];exact List.mem_append_left _ k))
   ·exact m
theorem oD{adj:Nat->List Nat}{f i:Nat}{s:St}(h:s.1 i=false):∃t:St,dfs adj (f+1) i s=(t.1,t.2 ++ [i]):=by
 unfold dfs
 rw[if_neg (by rw[h];simp)]
 exact⟨_,rfl⟩
def an(to:List (List Int))(i:Nat):List Nat:=(to[i]?.getD []).map Int.toNat
def adjN(to:List (List Int))(no:Int)(i:Nat):List Nat:=(an to i).filter fun j=>decide ((j:Int)≠no)
def inB(n:Nat)(j:Int):Bool:=decide (0<=j/\j<n)
def bY(n:Nat)(row:List Int):Bool:=row.all (inB n) && decide row.Nodup
def am(to:List (List Int)):Bool:=decide (1<=to.length/\to.length<=256) && to.all (bY to.length)
theorem dF{n:Nat}{row:List Int}(h:bY n row=true):∀j∈row,0<=j/\j<n:=by
 intro j hj
 unfold bY inB at h
 rw[Bool.and_eq_true,List.all_eq_true] at h
 exact of_decide_eq_true (h.1 j hj)
theorem fj{n:Nat}{row:List Int}(h:bY n row=true):row.Nodup:=by
 unfold bY at h
 rw[Bool.and_eq_true] at h
 exact of_decide_eq_true h.2
theorem nd{n:Nat}{row:List Int}(h:∀j∈row,0<=j/\j<n)(g:row.Nodup):bY n row=true:=by
 unfold bY inB
 rw[Bool.and_eq_true,List.all_eq_true]
 exact⟨fun j hj=>decide_eq_true (h j hj),decide_eq_true g⟩
theorem aB{to:List (List Int)}(h:am to=true):1<=to.length/\to.length<=256:=by
 unfold am at h;rw[Bool.and_eq_true] at h;exact of_decide_eq_true h.1
theorem right_row{to:List (List Int)}(h:am to=true):∀row∈to,bY to.length row=true:=by
 unfold am at h;rw[Bool.and_eq_true,List.all_eq_true] at h;exact h.2
theorem bB{α:Type}{l:List α}{i:Nat}{d:α}(h:i<l.length):l[i]?.getD d∈l:=by
 rw[List.getElem?_eq_getElem h];exact List.getElem_mem h
theorem bF{to:List (List Int)}(h:am to=true){i:Nat}(hi:i<to.length):bY to.length (to[i]?.getD [])=true:=right_row h _ (bB hi)
theorem oE{to:List (List Int)}(h1:1<=to.length)(h2:to.length<=256)(h:∀i,i<to.length->bY to.length (to[i]?.getD [])=true):am to=true:=by
 unfold am
 rw[Bool.and_eq_true,List.all_eq_true]
 refine⟨decide_eq_true ⟨h1,h2⟩,fun row hr=>?_⟩
 obtain⟨i,hi,rfl⟩:=List.getElem_of_mem hr
 have:=h i hi
 rwa [List.getElem?_eq_getElem hi] at this
theorem ng{to:List (List Int)}(h:¬(1<=to.length/\to.length<=256)):am to=false:=by
 unfold am;rw[decide_eq_false h];rfl
theorem right_no{to:List (List Int)}{i:Nat}(hi:i<to.length)(h:bY to.length (to[i]?.getD [])=false):am to=false:=by
 cases hr:am to
 ·rfl
 ·rw[bF hr hi] at h;cases h
theorem rowOk_no{n:Nat}{row:List Int}{k:Nat}(hk:k<row.length)(h:inB n (row[k]?.getD 0)=false):bY n row=false:=by
 cases hr:bY n row
 ·rfl
 ·have:=dF hr _ (bB (d:=0) hk)
  unfold inB at h
  exact absurd this (of_decide_eq_false h)
theorem oF{n:Nat}{row:List Int}{j k:Nat}(hj:j<k)(hk:k<row.length)(h:row[j]?.getD 0=row[k]?.getD 0):bY n row=false:=by
 cases hr:bY n row
 ·rfl
 ·have:=fj hr
  rw[List.getElem?_eq_getElem hk,List.getElem?_eq_getElem (show j<row.length by omega)] at h
  have:=(List.getElem_inj (h₀:=show j<row.length by omega) (h₁:=hk) this).1 h
  omega
theorem pigeon(n:Nat):∀(l:List Nat),(∀x∈l,x<n)->l.Nodup->l.length<=n:=by
 induction n with
 | zero=>intro l h _;cases l with
   | nil=>simp
   | cons x l=>exact absurd (h x (by simp)) (by omega)
 | succ n ih =>
   intro l h hn
   have h1:=ih (l.erase n) (fun x hx=>by
    have h2:=h x (List.mem_of_mem_erase hx)
    have h3:x≠n:=fun e=>by subst e;exact(hn.mem_erase_iff.1 hx).1 rfl
    omega) (hn.erase n)
   rw[List.length_erase] at h1
   split at h1 <;> omega
theorem jQ{l:List Int}(h:∀j∈l,0<=j)(hn:l.Nodup):(l.map Int.toNat).Nodup:=by
 rw[List.nodup_iff_pairwise_ne] at *
 rw[List.pairwise_map]
 exact hn.imp_of_mem (fun ha hb hab e=>hab (by have:=h _ ha;have:=h _ hb;omega))
theorem fF{n:Nat}{row:List Int}(h:bY n row=true):row.length<=n:=by
 have:=pigeon n (row.map Int.toNat) (fun x hx=>by
  obtain⟨j,hj,rfl⟩:=List.mem_map.1 hx
  have:=dF h j hj
  omega) (jQ (fun j hj=>(dF h j hj).1) (fj h))
 simpa using this
theorem eZ{to:List (List Int)}(h:am to=true):∀x,∀j∈an to x,j<to.length:=by
 intro x j hj
 unfold an at hj
 obtain⟨y,hy,rfl⟩:=List.mem_map.1 hj
 by_cases hx:x<to.length
 ·have:=dF (bF h hx) y hy
  omega
 ·rw[List.getElem?_eq_none (by omega)] at hy
  cases hy
theorem nh{to:List (List Int)}{no:Int}(h:am to=true):∀x,∀j∈adjN to no x,j<to.length:=fun x j hj=>eZ h x j (List.mem_filter.1 hj).1
theorem iU{to:List (List Int)}(h:am to=true){i:Nat}(hi:i<to.length)(j:Nat):j∈an to i↔(j:Int)∈to[i]?.getD []:=by
 unfold an
 rw[List.mem_map]
 constructor
 ·rintro ⟨y,hy,rfl⟩
  have:=dF (bF h hi) y hy
  rwa [Int.toNat_of_nonneg this.1]
 ·intro hj
  exact⟨_,hj,by simp⟩
theorem dS(to:List (List Int))(no:Int)(h:no<0):adjN to no=an to:=by
 funext i
 unfold adjN
 rw[List.filter_eq_self]
 intro j _
 exact decide_eq_true (by omega)
def leadsB(to:List (List Int))(k:Nat)(i:Int):Bool:=decide (i∈to[k]?.getD [])
def bZ(to:List (List Int))(i m:Nat):List Int:=((List.range m).filter fun k=>leadsB to k (i:Int)).map Int.ofNat
def bz(to:List (List Int)):List (List Int):=(List.range to.length).map fun i=>bZ to i to.length
theorem bG(to:List (List Int)):(bz to).length=to.length:=by simp [bz]
theorem iV{to:List (List Int)}{i:Nat}(hi:i<to.length):(bz to)[i]?.getD []=bZ to i to.length:=by
 simp [bz,List.getElem?_map,List.getElem?_range hi]
theorem qv(to:List (List Int))(i m:Nat):bZ to i (m+1)=bZ to i m ++ (if leadsB to m (i:Int) then [(m:Int)] else []):=by
 unfold bZ
 rw[List.range_succ,List.filter_append,List.map_append]
 cases h:leadsB to m (i:Int) <;> simp [h]
theorem di{to:List (List Int)}{i m:Nat}{x:Int}:x∈bZ to i m↔∃k:Nat,x=k/\k<m/\(i:Int)∈to[k]?.getD []:=by
 unfold bZ leadsB
 constructor
 ·intro h
  obtain⟨k,hk,rfl⟩:=List.mem_map.1 h
  rw[List.mem_filter,List.mem_range] at hk
  exact⟨k,rfl,hk.1,of_decide_eq_true hk.2⟩
 ·rintro ⟨k,rfl,h1,h2⟩
  exact List.mem_map.2 ⟨k,List.mem_filter.2 ⟨List.mem_range.2 h1,decide_eq_true h2⟩,rfl⟩
theorem jR(to:List (List Int))(i m:Nat):(bZ to i m).Nodup:=by
 unfold bZ
 rw[List.nodup_iff_pairwise_ne,List.pairwise_map]
 have:=(List.nodup_range (n:=m)).filter (fun k=>leadsB to k (i:Int))
 exact this.imp (fun h e=>h (Int.ofNat.inj e))
theorem nj(to:List (List Int))(i m:Nat):(bZ to i m).Pairwise (· < ·):=by
 unfold bZ
 rw[List.pairwise_map]
 have:=(List.pairwise_lt_range (n:=m)).filter (fun k=>leadsB to k (i:Int))
 exact this.imp (fun h=>by simpa using h)
theorem fG{to:List (List Int)}(h:am to=true):am (bz to)=true:=by
 have hl:=aB h
 refine oE (by rw[bG];omega) (by rw[bG];omega) fun i hi=>?_
 rw[bG] at hi
 rw[iV hi,bG]
 refine nd (fun j hj=>?_) (jR _ _ _)
 obtain⟨k,rfl,hk,_⟩:=di.1 hj
 omega
theorem oG{to:List (List Int)}(h:am to=true){i j:Nat}(hi:i<to.length)(hj:j<to.length):j∈an (bz to) i↔i∈an to j:=by
 rw[iU (fG h) (by rw[bG];exact hi),iV hi,di,iU h hj]
 constructor
 ·rintro ⟨k,e,_,hm⟩
  have:j=k:=by omega
  subst this;exact hm
 ·intro hm;exact⟨j,rfl,hj,hm⟩
theorem jD{to:List (List Int)}{i j:Nat}(h:j∈an to i):i<to.length:=by
 apply Classical.byContradiction;intro hn
 unfold an at h
 rw[List.getElem?_eq_none (by omega)] at h
 cases h
theorem back_ways{to:List (List Int)}(h:am to=true)(i j:Nat)(hj:j∈an to i):i∈an (bz to) j :=
 (oG h (eZ h i j hj) (jD hj)).2 hj
theorem ways_back{to:List (List Int)}(h:am to=true)(i j:Nat)(hj:j∈an (bz to) i):i∈an to j:=by
 have h1:=jD hj
 rw[bG] at h1
 have h2:=eZ (fG h) i j hj
 rw[bG] at h2
 exact(oG h h1 h2).1 hj
def runG(adj:Nat->List Nat)(l:List Nat):St:=runF 257 adj l
def reachB(to:List (List Int))(no:Int)(i x:Nat):Bool:=(runG (adjN to no) [i]).1 x
theorem bW{to:List (List Int)}{no:Int}(h:am to=true){i:Nat}(hi:i<to.length)(x:Nat):reachB to no i x=true↔Reach (adjN to no) i x:=by
 have hl:=aB h
 unfold reachB runG
 rw[kz (nh h) [i] (by simpa using hi) (show to.length<257 by omega)]
 simp
def kA(to:List (List Int))(k:Nat):Bool:=(to[k]?.getD []).isEmpty
def bf(to:List (List Int))(m:Nat):List Nat:=(List.range m).filter (kA to)
def endsB(to:List (List Int))(i:Nat):Bool:=(List.range to.length).any fun k=>reachB to (-1) i k && kA to k
theorem ends_back{to:List (List Int)}(h:am to=true){i:Nat}(hi:i<to.length):(runG (an (bz to)) (bf to to.length)).1 i=endsB to i:=by
 have hl:=aB h
 rw[Bool.eq_iff_iff]
 unfold runG
 rw[kz (eZ (fG h)) (bf to to.length) (fun j hj=>by
  unfold bf at hj;rw[List.mem_filter,List.mem_range] at hj;rw[bG];exact hj.1) (show (bz to).length<257 by rw[bG];omega)]
 unfold endsB
 rw[List.any_eq_true]
 constructor
 ·rintro ⟨k,hk,hr⟩
  unfold bf at hk
  rw[List.mem_filter] at hk
  refine⟨k,hk.1,?_⟩
  rw[Bool.and_eq_true,bW h hi,dS _ _ (by decide)]
  exact⟨hr.back (ways_back h),hk.2⟩
 ·rintro ⟨k,hk,hr⟩
  rw[Bool.and_eq_true,bW h hi,dS _ _ (by decide)] at hr
  exact⟨k,List.mem_filter.2 ⟨hk,hr.2⟩,hr.1.back (back_ways h)⟩
def cz(n:Nat)(p:Nat->Bool):Int:=match (List.range n).find? p with | some k=>(k:Int) | none=>-1
theorem ed{n:Nat}{p:Nat->Bool}{k:Nat}(hk:k<n)(hp:p k=true)(hno:∀j,j<k->p j=false):cz n p=(k:Int):=by
 have e:(List.range n).find? p=some k:=by
  rw[List.find?_eq_some_iff_append]
  refine⟨hp,List.range k,(List.range' (k+1) (n-k-1)),?_,fun j hj=>by rw[hno j (List.mem_range.1 hj)];rfl⟩
  rw[List.range_eq_range',List.range_eq_range',show n=k+(n-k-1+1) by omega,<-List.range'_append_1,List.range'_succ]
  simp
 unfold cz;rw[e]
theorem eN{n:Nat}{p:Nat->Bool}(hno:∀j,j<n->p j=false):cz n p = -1:=by
 have e:(List.range n).find? p=none:=by
  rw[List.find?_eq_none]
  intro j hj h
  rw[hno j (List.mem_range.1 hj)] at h
  cases h
 unfold cz;rw[e]
theorem iW{n:Nat}{p q:Nat->Bool}(h:∀j,j<n->p j=q j):cz n p=cz n q:=by
 by_cases hx:∃k,k<n/\p k=true/\∀j,j<k->p j=false
 ·obtain⟨k,h1,h2,h3⟩:=hx
  rw[ed h1 h2 h3,ed h1 (by rw[<-h k h1];exact h2) (fun j hj=>by rw[<-h j (by omega)];exact h3 j hj)]
 ·have h4:∀m,m<=n->∀j,j<m->p j=false:=by
   intro m
   induction m with
   | zero=>intro _ j hj;omega
   | succ m ih =>
     intro hm j hj
     by_cases e:j=m
     ·subst e
      cases hp:p j
      ·rfl
      ·exact absurd ⟨j,by omega,hp,ih (by omega)⟩ hx
     ·exact ih (by omega) j (by omega)
  rw[eN (h4 n (Nat.le_refl _)),eN (fun j hj=>by rw[<-h j hj];exact h4 n (Nat.le_refl _) j hj)]
def br(to:List (List Int)):List Int:=(runG (an to) [0]).2.reverse.map Int.ofNat
theorem sub_len{α:Type}[DecidableEq α]:∀(l m:List α),l.Nodup->(∀x∈l,x∈m)->l.length<=m.length:=by
 intro l
 induction l with
 | nil=>intro m _ _;simp
 | cons x l ih =>
   intro m hn hs
   have hx:=hs x (by simp)
   have h1:=List.length_erase_of_mem hx
   have h2:=List.length_pos_of_mem hx
   have:=ih (m.erase x) (List.nodup_cons.1 hn).2 (fun y hy=>(List.mem_erase_of_ne (fun e=>by subst e;exact(List.nodup_cons.1 hn).1 hy)).2 (hs y (by simp [hy])))
   simp only[List.length_cons]
   omega
theorem same_len{α:Type}[DecidableEq α]{l m:List α}(h1:l.Nodup)(h2:m.Nodup)(h:∀x,x∈l↔x∈m):l.length=m.length :=
 Nat.le_antisymm (sub_len l m h1 fun x hx=>(h x).1 hx) (sub_len m l h2 fun x hx=>(h x).2 hx)
theorem kB{to:List (List Int)}(h:am to=true):∃new t,runG (an to) [0]=(t,new)/\Walk (an to) (· = 0) ((fun _=>false),[]) (t,new) new:=by
 have hl:=aB h
 obtain⟨new,hw,_⟩:=walks (eZ h) [0] (by simpa using (show 0<to.length by omega)) (show to.length<257 by omega)
 have hw1:Walk (an to) (·∈[0]) ((fun _=>false),[]) (runG (an to) [0]) new:=hw
 have hf:∀i,(·∈[0]) i->∃k,(· = 0) k/\Reach (an to) k i:=fun i hi=>by
  have e:i=0:=List.mem_singleton.1 hi
  rw[e];exact⟨0,Eq.refl 0,Reach.refl 0⟩
 generalize runG (an to) [0]=r at hw1
 have hw2:=hw1.weak hf
 have e:r.2=new:=by have:=hw2.out;rwa [List.nil_append] at this
 subst e
 exact⟨r.2,r.1,rfl,hw2⟩
theorem oH{to:List (List Int)}{t:Nat->Bool}{new:List Nat}(h:runG (an to) [0]=(t,new)):br to=new.reverse.map Int.ofNat:=by unfold br;rw[h]
theorem qw{to:List (List Int)}:∃l:List Int,br to=0 :: l:=by
 unfold br runG runF
 obtain⟨t,e⟩:=oD (adj:=an to) (f:=256) (i:=0) (s:=((fun _=>false),[])) rfl
 simp only[List.foldl_cons,List.foldl_nil]
 rw[e]
 simp
theorem eO{to:List (List Int)}(h:am to=true):(br to).Nodup:=by
 obtain⟨new,t,e,hw⟩:=kB h
 rw[oH e,List.nodup_iff_pairwise_ne,List.pairwise_map]
 rw[List.pairwise_reverse]
 exact hw.once.imp (fun h e=>h (Int.ofNat.inj e).symm)
theorem gR{to:List (List Int)}(h:am to=true)(x:Int):x∈br to↔0<=x/\x<to.length/\reachB to (-1) 0 x.toNat=true:=by
 have hl:=aB h
 obtain⟨new,t,e,hw⟩:=kB h
 have hb:∀y:Nat,reachB to (-1) 0 y=true↔y∈new:=by
  intro y
  unfold reachB
  rw[dS _ _ (by decide),e]
  show t y=true↔_
  have:=hw.been y
  simpa using this
 rw[oH e,List.mem_map]
 constructor
 ·rintro ⟨y,hy,rfl⟩
  rw[List.mem_reverse] at hy
  have hr:=(hb y).2 hy
  refine⟨Int.natCast_nonneg _,?_,hr⟩
  rw[bW h (show 0<to.length by omega)] at hr
  have:=hr.lt (nh h) (show 0<to.length by omega)
  show (y:Int)<_
  omega
 ·rintro ⟨h1,h2,h3⟩
  refine⟨x.toNat,by rw[List.mem_reverse];exact(hb _).1 h3,by show ((x.toNat:Nat):Int)=x;omega⟩
def atI(l:List Int)(m:Nat)(x:Nat):Int:=if (x:Int)∈l.take m then (l.idxOf (x:Int):Int) else -1
theorem atI_zero(l:List Int)(x:Nat):atI l 0 x = -1:=by simp [atI]
theorem atI_succ{l:List Int}(hn:l.Nodup){m:Nat}(hm:m<l.length)(hp:0<=l[m]?.getD 0)(x:Nat):atI l (m+1) x=if x=(l[m]?.getD 0).toNat then (m:Int) else atI l m x:=by
 have em:l[m]?=some l[m]:=List.getElem?_eq_getElem hm
 rw[em] at hp ⊢
 simp only[Option.getD_some] at hp ⊢
 unfold atI
 rw[List.take_succ_eq_append_getElem hm]
 by_cases e:x=(l[m]).toNat
 ·subst e
  rw[if_pos rfl,Int.toNat_of_nonneg hp,if_pos (List.mem_append.2 (.inr (List.mem_singleton.2 rfl))),hn.idxOf_getElem]
 ·rw[if_neg e]
  have:(x:Int)≠l[m]:=fun h=>e (by omega)
  simp only[List.mem_append,List.mem_singleton,this,or_false]
end
end Go.Proofs.YtjngffgkllakaaaGreatDoor.GG
namespace Go.Proofs.YtjngffgkllakaaaGreatDoor
open List renaming getElem_toArray → zA, getElem_cons_succ → zB, getElem_cons_zero → zC, setIfInBounds_toArray → zD, set_cons_zero → zE, set_cons_succ → zF
open Lib renaming hid → zH
section
open Go.RowKit
def bM(n₀:Nat)(W:World)(v:Value)(vs:List Value):Prop :=
 ((∃a cap,v=.slice a 0 cap/\(a=none->cap=0))/\vs=[])∨∃b off cap,v=.slice (some ⟨b,off,none⟩) vs.length cap/\b<n₀/\vs.length<=cap/\∀j u,vs[j]?=some u->W.cell? ⟨b,off+j,none⟩=some u
theorem bM.below{n₀:Nat}{A B:World}(h:Below n₀ A B){v:Value}{vs:List Value}:bM n₀ A v vs->bM n₀ B v vs
 | .inl e=>.inl e
 | .inr ⟨b,off,cap,e,hb,hl,hc⟩=>.inr ⟨b,off,cap,e,hb,hl,fun j u hj=>(h.cell (p:=⟨b,off+j,none⟩) hb).trans (hc j u hj)⟩
theorem bM.mono{n n':Nat}(h:n<=n'){A:World}{v:Value}{vs:List Value}:bM n A v vs->bM n' A v vs
 | .inl e=>.inl e
 | .inr ⟨b,off,cap,e,hb,hl,hc⟩=>.inr ⟨b,off,cap,e,by omega,hl,hc⟩
theorem bM.form{n₀:Nat}{A:World}{v:Value}{vs:List Value}(h:bM n₀ A v vs):∃a cap,v=.slice a vs.length cap:=by
 rcases h with⟨⟨_,_,rfl,_⟩,rfl⟩ | ⟨b,off,cap,rfl,_⟩
 ·exact⟨_,_,rfl⟩
 ·exact⟨_,_,rfl⟩
theorem bM.drewN{n₀:Nat}{W:World}{v:Value}{vs:List Value}(h:bM n₀ W v vs)(d:Nat):bM n₀ (W.drewN d) v vs :=
 h.below ⟨rfl,rfl,rfl,Nat.le_refl _,fun _ _=>rfl⟩
theorem bM.at{n₀:Nat}{W:World}{v:Value}{vs:List Value}(h:bM n₀ W v vs)(h0:0<vs.length) :
 ∃b off cap,v=.slice (some ⟨b,off,none⟩) vs.length cap/\b<n₀/\∀j u,vs[j]?=some u->W.cell? ⟨b,off+j,none⟩=some u:=by
 rcases h with⟨_,rfl⟩ | ⟨b,off,cap,e,hb,_,hc⟩
 ·exact absurd h0 (by simp)
 ·exact⟨b,off,cap,e,hb,hc⟩
theorem aT(n₀:Nat)(W:World)(a:Option Addr)(cap:Nat)(h:a=none->cap=0):bM n₀ W (.slice a 0 cap) []:=.inl ⟨⟨a,cap,rfl,h⟩,rfl⟩
theorem bM.src{n₀:Nat}{W:World}{v:Value}{vs:List Value}(h:bM n₀ W v vs) :
 v=.slice none 0 0/\vs.length=0∨∃ad c,v=.slice (some ad) vs.length c/\∀j u,vs[j]?=some u->W.cell? (ad.add j)=some u:=by
 rcases h with⟨⟨a,cap,rfl,hn⟩,rfl⟩ | ⟨b,off,cap,rfl,_,_,hc⟩
 ·cases a with
  | none=>rw[hn rfl];exact .inl ⟨rfl,rfl⟩
  | some x=>exact .inr ⟨x,cap,rfl,fun j u hj=>by simp at hj⟩
 ·exact .inr ⟨_,cap,rfl,fun j u hj=>by rw[Addr.add_lit];exact hc j u hj⟩
theorem aM{W:World}{base:Nat}{e:TypeId}{v:Value}{n:Nat}{vs:List Value}(h:W.ownsRow base e 1 v n vs):bM W.heap.size W v vs:=by
 have hlt:=h.lt
 obtain⟨hl,⟨rfl,h0⟩ | ⟨g,cap,cur,rfl,hb,hg,hn,hm,hs,hx⟩⟩:=h
 ·have:vs=[]:=List.length_eq_zero_iff.1 (by omega)
  subst this
  exact .inl ⟨⟨_,_,rfl,fun _=>rfl⟩,rfl⟩
 ·have hn':vs.length=n:=by omega
  subst hn'
  refine .inr ⟨g,0,cap,rfl,(hlt g rfl).2,hn,fun j u hj=>?_⟩
  have hjl:j<vs.length:=(List.getElem?_eq_some_iff.1 hj).1
  have:(cur.toList.take (vs.length*1))[j]?=vs[j]?:=by rw[hx]
  rw[List.getElem?_take_of_lt (by omega),hj] at this
  simp only[World.cell?,hg,Nat.zero_add]
  simpa using this
def ao(xs:List Int):List Value:=xs.map (Value.int .i64)
def bJ(xs:List Bool):List Value:=xs.map Value.bool
theorem aC(xs:List Int):(ao xs).length=xs.length:=by simp [ao]
theorem eh(xs:List Bool):(bJ xs).length=xs.length:=by simp [bJ]
theorem fk{xs:List Int}{j:Nat}(h:j<xs.length):(ao xs)[j]?=some (.int .i64 (xs[j]?.getD 0)):=by simp [ao,List.getElem?_eq_getElem h]
theorem boolsV_at{xs:List Bool}{j:Nat}(h:j<xs.length):(bJ xs)[j]?=some (.bool (xs[j]?.getD false)):=by simp [bJ,List.getElem?_eq_getElem h]
def Row(n₀:Nat)(W:World)(v:Value)(xs:List Int):Prop:=bM n₀ W v (ao xs)
def BRow(n₀:Nat)(W:World)(v:Value)(xs:List Bool):Prop:=bM n₀ W v (bJ xs)
theorem Row.form{n₀:Nat}{A:World}{v:Value}{xs:List Int}(h:Row n₀ A v xs):∃a cap,v=.slice a xs.length cap:=by
 obtain⟨a,cap,rfl⟩:=bM.form h
 exact⟨a,cap,by rw[aC]⟩
theorem BRow.form{n₀:Nat}{A:World}{v:Value}{xs:List Bool}(h:BRow n₀ A v xs):∃a cap,v=.slice a xs.length cap:=by
 obtain⟨a,cap,rfl⟩:=bM.form h
 exact⟨a,cap,by rw[eh]⟩
theorem Row.at{n₀:Nat}{W:World}{v:Value}{xs:List Int}(h:Row n₀ W v xs)(h0:0<xs.length) :
 ∃b off cap,v=.slice (some ⟨b,off,none⟩) xs.length cap/\b<n₀/\∀j,j<xs.length->W.cell? ⟨b,off+j,none⟩=some (.int .i64 (xs[j]?.getD 0)):=by
 obtain⟨b,off,cap,rfl,hb,hc⟩:=bM.at h (by rw[aC];exact h0)
 exact⟨b,off,cap,by rw[aC],hb,fun j hj=>hc j _ (fk hj)⟩
theorem BRow.at{n₀:Nat}{W:World}{v:Value}{xs:List Bool}(h:BRow n₀ W v xs)(h0:0<xs.length) :
 ∃b off cap,v=.slice (some ⟨b,off,none⟩) xs.length cap/\b<n₀/\∀j,j<xs.length->W.cell? ⟨b,off+j,none⟩=some (.bool (xs[j]?.getD false)):=by
 obtain⟨b,off,cap,rfl,hb,hc⟩:=bM.at h (by rw[eh];exact h0)
 exact⟨b,off,cap,by rw[eh],hb,fun j hj=>hc j _ (boolsV_at hj)⟩
theorem Row.below{n₀:Nat}{A B:World}(h:Below n₀ A B){v:Value}{xs:List Int}(g:Row n₀ A v xs):Row n₀ B v xs:=bM.below h g
theorem Row.mono{n n':Nat}(h:n<=n'){A:World}{v:Value}{xs:List Int}(g:Row n A v xs):Row n' A v xs:=bM.mono h g
theorem Row.drewN{n₀:Nat}{W:World}{v:Value}{xs:List Int}(h:Row n₀ W v xs)(d:Nat):Row n₀ (W.drewN d) v xs:=bM.drewN h d
theorem BRow.below{n₀:Nat}{A B:World}(h:Below n₀ A B){v:Value}{xs:List Bool}(g:BRow n₀ A v xs):BRow n₀ B v xs:=bM.below h g
def az(n₀:Nat)(W:World)(v:Value)(to:List (List Int)):Prop :=
 ∃vs,bM n₀ W v vs/\vs.length=to.length/\∀j,j<to.length->∃r,vs[j]?=some r/\Row n₀ W r (to[j]?.getD [])
theorem az.below{n₀:Nat}{A B:World}(h:Below n₀ A B){v:Value}{to:List (List Int)}:az n₀ A v to->az n₀ B v to
 | ⟨vs,h1,h2,h3⟩=>⟨vs,h1.below h,h2,fun j hj=>by obtain⟨r,e,g⟩:=h3 j hj;exact⟨r,e,g.below h⟩⟩
theorem az.mono{n n':Nat}(h:n<=n'){A:World}{v:Value}{to:List (List Int)}:az n A v to->az n' A v to
 | ⟨vs,h1,h2,h3⟩=>⟨vs,h1.mono h,h2,fun j hj=>by obtain⟨r,e,g⟩:=h3 j hj;exact⟨r,e,g.mono h⟩⟩
theorem az.form{n₀:Nat}{A:World}{v:Value}{to:List (List Int)}(h:az n₀ A v to):∃a cap,v=.slice a to.length cap:=by
 obtain⟨vs,h1,h2,_⟩:=h
 obtain⟨a,cap,rfl⟩:=h1.form
 exact⟨a,cap,by rw[h2]⟩
theorem az.row{n₀:Nat}{W:World}{v:Value}{to:List (List Int)}(h:az n₀ W v to){j:Nat}(hj:j<to.length) :
 ∃b off cap r,v=.slice (some ⟨b,off,none⟩) to.length cap/\W.cell? ⟨b,off+j,none⟩=some r/\Row n₀ W r (to[j]?.getD []):=by
 obtain⟨vs,h1,h2,h3⟩:=h
 obtain⟨b,off,cap,rfl,hb,hc⟩:=h1.at (by omega)
 obtain⟨r,e,g⟩:=h3 j hj
 exact⟨b,off,cap,r,by rw[h2],hc j r e,g⟩
theorem az.at{n₀:Nat}{W:World}{b off n cap:Nat}{to:List (List Int)}(h:az n₀ W (.slice (some ⟨b,off,none⟩) n cap) to){j:Nat}(hj:j<to.length) :
 ∃a' cap',W.cell? ⟨b,off+j,none⟩=some (.slice a' (to[j]?.getD []).length cap')/\Row n₀ W (.slice a' (to[j]?.getD []).length cap') (to[j]?.getD []):=by
 obtain⟨b',off',cap',r,e,hc,hr⟩:=h.row hj
 cases e
 obtain⟨a',c',rfl⟩:=hr.form
 exact⟨a',c',hc,hr⟩
theorem az.addr{n₀:Nat}{W:World}{v:Value}{to:List (List Int)}(h:az n₀ W v to)(h0:0<to.length):∃b off cap,v=.slice (some ⟨b,off,none⟩) to.length cap:=by
 obtain⟨b,off,cap,r,e,_⟩:=h.row h0
 exact⟨b,off,cap,e⟩
theorem Row.cellAt{n₀:Nat}{W:World}{a:Option Addr}{n cap:Nat}{xs:List Int}(h:Row n₀ W (.slice a n cap) xs){k:Nat}(hk:k<xs.length):∃b off,a=some ⟨b,off,none⟩/\W.cell? ⟨b,off+k,none⟩=some (.int .i64 (xs[k]?.getD 0)):=by
 obtain⟨b,off,cap',e,_,hc⟩:=h.at (by omega)
 cases e
 exact⟨b,off,rfl,hc k hk⟩
def cd(to:List (List Int)):Prop:=to.length<=17592186044416/\∀row∈to,row.length<=17592186044416
theorem cd.row{to:List (List Int)}(h:cd to)(j:Nat):(to[j]?.getD []).length<=17592186044416:=by
 cases e:to[j]? with
 | none=>simp
 | some x=>exact h.2 x (List.mem_of_getElem? e)
end
section
open Go.RowKit
theorem gm(v:Value)(n:Nat)(i:Int)(w:World)(hv:∃a cap,v=.slice a n cap)(hn:n<=17592186044416) :
 Calls Tryz.prog 61 #[v,.int .i64 i] w fun e w'=>e=.returned (.bool (GG.inB n i))/\w=w':=by
 obtain⟨a,cap,rfl⟩:=hv
 by_cases h:0<=i/\i<n
 ·have HS:=zH (show GG.inB n i=true from decide_eq_true h)
  obtain⟨h1,h2⟩:=h
  go_enter Tryz.func61,Tryz.ntmps61
  go_wp2_with fail
  go_ret
  exact⟨af HS.out.symm,rfl⟩
 ·have HS:=zH (show GG.inB n i=false from decide_eq_false h)
  by_cases h1:0<=i
  ·have h2:¬i<n:=fun h2=>h ⟨h1,h2⟩
   clear h
   go_enter Tryz.func61,Tryz.ntmps61
   go_wp2_with fail
   go_ret
   exact⟨af HS.out.symm,rfl⟩
  ·clear h
   go_enter Tryz.func61,Tryz.ntmps61
   go_wp2_with fail
   go_ret
   exact⟨af HS.out.symm,rfl⟩
end
end Go.Proofs.YtjngffgkllakaaaGreatDoor
namespace Go.Proofs.YtjngffgkllakaaaGreatDoor.GG
open List renaming getElem_toArray → zA, getElem_cons_succ → zB, getElem_cons_zero → zC, setIfInBounds_toArray → zD, set_cons_zero → zE, set_cons_succ → zF
open Lib renaming hid → zH
section
theorem take_same{α:Type}{d:α}{xs ys:List α}{j:Nat}(h1:j<xs.length)(h2:j<ys.length)(h:xs.take j=ys.take j)(e:xs[j]?.getD d=ys[j]?.getD d):xs.take (j+1)=ys.take (j+1):=by
 rw[List.getElem?_eq_getElem h1,List.getElem?_eq_getElem h2] at e
 simp only[Option.getD_some] at e
 rw[List.take_succ_eq_append_getElem h1,List.take_succ_eq_append_getElem h2,h,e]
theorem take_whole{α:Type}{xs ys:List α}{j:Nat}(h1:xs.length<=j)(h2:ys.length<=j)(h:xs.take j=ys.take j):xs=ys:=by
 rwa [List.take_of_length_le h1,List.take_of_length_le h2] at h
end
end Go.Proofs.YtjngffgkllakaaaGreatDoor.GG
namespace Go.Proofs.YtjngffgkllakaaaGreatDoor
open List renaming getElem_toArray → zA, getElem_cons_succ → zB, getElem_cons_zero → zC, setIfInBounds_toArray → zD, set_cons_zero → zE, set_cons_succ → zF
open Lib renaming hid → zH
section
open Go.RowKit
theorem BRow.cellAt{n₀:Nat}{W:World}{a:Option Addr}{n cap:Nat}{xs:List Bool}(h:BRow n₀ W (.slice a n cap) xs){k:Nat}(hk:k<xs.length):∃b off,a=some ⟨b,off,none⟩/\W.cell? ⟨b,off+k,none⟩=some (.bool (xs[k]?.getD false)):=by
 obtain⟨b,off,cap',e,_,hc⟩:=h.at (by omega)
 cases e
 exact⟨b,off,rfl,hc k hk⟩
set_option maxHeartbeats 1600000 in
theorem ints_any(a b:Value)(xs ys:List Int)(n:Nat)(w:World)(ha:Row n w a xs)(hb:Row n w b ys)(hx:xs.length<=17592186044416)(hy:ys.length<=17592186044416) :
 Calls Tryz.prog 21 #[a,b] w fun e w'=>e=.returned (.bool (decide (xs=ys)))/\∃d,w'=w.drewN d:=by
 obtain⟨aa,ca,rfl⟩:=ha.form
 obtain⟨ab,cb,rfl⟩:=hb.form
 by_cases hl:xs.length=ys.length
 ·have hne:((xs.length:Int) != (ys.length:Int))=false:=by rw[bne_eq_false_iff_eq];omega
  have hl1:xs.length<=ys.length:=by omega
  have hl2:ys.length<=xs.length:=by omega
  have HL:=zH hl
  have HA:=zH ha
  have HB:=zH hb
  clear hl ha hb
  go_enter Tryz.func21,Tryz.ntmps21
  go_wp2_with fail
  go_loopw [5] (fun k wr=>∃j d:Nat,j<=xs.length/\k=.int .i64 (j:Int)/\wr=w.drewN d/\RowKit.Hid (xs.take j=ys.take j)) (fun k _=>xs.length-(intOf k).toNat)
  case atStart=>exact⟨0,0,by omega,rfl,rfl,zH rfl⟩
  case round =>
   obtain⟨j,d,hj,rfl,rfl,HT⟩:=hrel
   by_cases hlt:j<xs.length
   ·obtain⟨xb,xo,rfl,hx1⟩:=HA.out.cellAt hlt
    obtain⟨yb,yo,rfl,hy1⟩:=HB.out.cellAt (show j<ys.length by omega)
    have i1:(0:Int)<=j/\(j:Int)<xs.length:=by omega
    have i2:(0:Int)<=j/\(j:Int)<ys.length:=by omega
    obtain⟨x,ex⟩:∃x,x=xs[j]?.getD 0:=⟨_,rfl⟩
    obtain⟨y,ey⟩:∃y,y=ys[j]?.getD 0:=⟨_,rfl⟩
    rw[<-ex] at hx1
    rw[<-ey] at hy1
    have EX:=zH ex
    have EY:=zH ey
    clear ex ey
    by_cases hxy:x=y
    ·subst hxy
     have HT':=zH (GG.take_same hlt (show j<ys.length by omega) HT.out (EX.out.symm.trans EY.out))
     have hn2:(x != x)=false:=bne_self_eq_false x
     clear HT EX EY
     go_wp2_with fail
     go_quiet (fail)
     go_wp2_with fail
     go_roundw
     case rel=>exact⟨j+1,_,by omega,by go_num,(by first | rfl | exact World.drewN_drewN _ _ _),HT'⟩
     case measure=>simp [intOf];omega
    ·have HS:=zH (show decide (xs=ys)=false from decide_eq_false (fun e=>hxy (by rw[EX.out,EY.out,e])))
     have hn2:(x != y)=true:=bne_iff_ne.2 hxy
     clear HT EX EY hxy
     go_wp2_with fail
     go_quiet (fail)
     go_wp2_with fail
     go_ret
     exact⟨af HS.out.symm,_,(by first | rfl | exact World.drewN_drewN _ _ _)⟩
   ·have HS:=zH (show decide (xs=ys)=true from decide_eq_true (GG.take_whole (by omega) (by omega) HT.out))
    clear HT
    go_wp2_with fail
    go_ret
    exact⟨af HS.out.symm,_,rfl⟩
 ·have hne:((xs.length:Int) != (ys.length:Int))=true:=by rw[bne_iff_ne];omega
  have HS:=zH (show decide (xs=ys)=false from decide_eq_false (fun e=>hl (by rw[e])))
  clear hl ha hb
  go_enter Tryz.func21,Tryz.ntmps21
  go_wp2_with fail
  go_ret
  exact⟨af HS.out.symm,0,rfl⟩
set_option maxRecDepth 100000 in
set_option maxHeartbeats 3200000 in
theorem same_any(a b:Value)(xs ys:List (List Int))(n:Nat)(w:World)(ha:az n w a xs)(hb:az n w b ys)(hx:cd xs)(hy:cd ys) :
 Calls Tryz.prog 13 #[a,b] w fun e w'=>e=.returned (.bool (decide (xs=ys)))/\∃d,w'=w.drewN d:=by
 obtain⟨aa,ca,rfl⟩:=ha.form
 obtain⟨ab,cb,rfl⟩:=hb.form
 have hx0:=hx.1
 have hy0:=hy.1
 by_cases hl:xs.length=ys.length
 ·have hne:((xs.length:Int) != (ys.length:Int))=false:=by rw[bne_eq_false_iff_eq];omega
  have hl1:xs.length<=ys.length:=by omega
  have hl2:ys.length<=xs.length:=by omega
  have HL:=zH hl
  have HA:=zH ha
  have HB:=zH hb
  have HX:=zH hx
  have HY:=zH hy
  clear hl ha hb hx hy
  go_enter Tryz.func13,Tryz.ntmps13
  go_wp2_with fail
  go_loopw [5] (fun k wr=>∃j d:Nat,j<=xs.length/\k=.int .i64 (j:Int)/\wr=w.drewN d/\RowKit.Hid (xs.take j=ys.take j)) (fun k _=>xs.length-(intOf k).toNat)
  case atStart=>exact⟨0,0,by omega,rfl,rfl,zH rfl⟩
  case round =>
   obtain⟨j,d,hj,rfl,rfl,HT⟩:=hrel
   by_cases hlt:j<xs.length
   ·obtain⟨xb,xo,xc,e1⟩:=HA.out.addr (by omega)
    cases e1
    obtain⟨yb,yo,yc,e2⟩:=HB.out.addr (by omega)
    cases e2
    obtain⟨ra,rac,hx1,hrx⟩:=HA.out.at hlt
    obtain⟨rb,rbc,hy1,hry⟩:=HB.out.at (show j<ys.length by omega)
    have i1:(0:Int)<=j/\(j:Int)<xs.length:=by omega
    have i2:(0:Int)<=j/\(j:Int)<ys.length:=by omega
    have b1:=HX.out.row j
    have b2:=HY.out.row j
    obtain⟨r,er⟩:∃r,r=xs[j]?.getD []:=⟨_,rfl⟩
    obtain⟨s,es⟩:∃s,s=ys[j]?.getD []:=⟨_,rfl⟩
    rw[<-er] at hx1 hrx b1
    rw[<-es] at hy1 hry b2
    have EX:=zH er
    have EY:=zH es
    have HRX:=zH hrx
    have HRY:=zH hry
    clear er es hrx hry
    by_cases hrl:r.length=s.length
    ·have hn2:((r.length:Int) != (s.length:Int))=false:=by rw[bne_eq_false_iff_eq];omega
     have hr1:r.length<=s.length:=by omega
     have hr2:s.length<=r.length:=by omega
     clear hrl
     go_wp2_with fail
     go_quiet (fail)
     go_wp2_with fail
     go_loopw [6] (fun k wr=>∃q d:Nat,q<=r.length/\k=.int .i64 (q:Int)/\wr=w.drewN d/\RowKit.Hid (r.take q=s.take q)) (fun k _=>r.length-(intOf k).toNat)
     case atStart=>exact⟨0,_,by omega,rfl,(by first | rfl | exact World.drewN_drewN _ _ _),zH rfl⟩
     case round =>
      obtain⟨q,d',hq,rfl,rfl,HQ⟩:=hrel
      by_cases hqt:q<r.length
      ·obtain⟨xb2,xo2,rfl,hx2⟩:=HRX.out.cellAt hqt
       obtain⟨yb2,yo2,rfl,hy2⟩:=HRY.out.cellAt (show q<s.length by omega)
       have i3:(0:Int)<=q/\(q:Int)<r.length:=by omega
       have i4:(0:Int)<=q/\(q:Int)<s.length:=by omega
       obtain⟨x,ex⟩:∃x,x=r[q]?.getD 0:=⟨_,rfl⟩
       obtain⟨y,ey⟩:∃y,y=s[q]?.getD 0:=⟨_,rfl⟩
       rw[<-ex] at hx2
       rw[<-ey] at hy2
       have EX2:=zH ex
       have EY2:=zH ey
       clear ex ey hn2
       by_cases hxy:x=y
       ·subst hxy
        have HQ':=zH (GG.take_same hqt (show q<s.length by omega) HQ.out (EX2.out.symm.trans EY2.out))
        have hn3:(x != x)=false:=bne_self_eq_false x
        clear HQ EX2 EY2
        go_wp2_with fail
        go_quiet (fail)
        go_wp2_with fail
        go_roundw
        case rel=>exact⟨q+1,_,by omega,by go_num,(by first | rfl | exact World.drewN_drewN _ _ _),HQ'⟩
        case measure=>simp [intOf];omega
       ·have HS:=zH (show decide (xs=ys)=false from decide_eq_false (fun e=>hxy (by rw[EX2.out,EY2.out,EX.out,EY.out,e])))
        have hn3:(x != y)=true:=bne_iff_ne.2 hxy
        clear HQ EX2 EY2 hxy
        go_wp2_with fail
        go_quiet (fail)
        go_wp2_with fail
        go_ret
        exact⟨af HS.out.symm,_,(by first | rfl | exact World.drewN_drewN _ _ _)⟩
      ·have HQ':=zH (GG.take_same hlt (show j<ys.length by omega) HT.out (EX.out.symm.trans ((GG.take_whole (by omega) (by omega) HQ.out).trans EY.out)))
       clear HQ HT hn2
       go_wp2_with fail
       go_roundw
       case rel=>exact⟨j+1,_,by omega,by go_num,rfl,HQ'⟩
       case measure=>simp [intOf];omega
    ·have hn2:((r.length:Int) != (s.length:Int))=true:=by rw[bne_iff_ne];omega
     have HS:=zH (show decide (xs=ys)=false from decide_eq_false (fun e=>hrl (by rw[EX.out,EY.out,e])))
     clear HT hrl
     go_wp2_with fail
     go_quiet (fail)
     go_wp2_with fail
     go_ret
     exact⟨af HS.out.symm,_,(by first | rfl | exact World.drewN_drewN _ _ _)⟩
   ·have HS:=zH (show decide (xs=ys)=true from decide_eq_true (GG.take_whole (by omega) (by omega) HT.out))
    clear HT
    go_wp2_with fail
    go_ret
    exact⟨af HS.out.symm,_,rfl⟩
 ·have hne:((xs.length:Int) != (ys.length:Int))=true:=by rw[bne_iff_ne];omega
  have HS:=zH (show decide (xs=ys)=false from decide_eq_false (fun e=>hl (by rw[e])))
  clear hl ha hb hx hy
  go_enter Tryz.func13,Tryz.ntmps13
  go_wp2_with fail
  go_ret
  exact⟨af HS.out.symm,0,rfl⟩
end
end Go.Proofs.YtjngffgkllakaaaGreatDoor
namespace Go.Proofs.YtjngffgkllakaaaGreatDoor.GG
open List renaming getElem_toArray → zA, getElem_cons_succ → zB, getElem_cons_zero → zC, setIfInBounds_toArray → zD, set_cons_zero → zE, set_cons_succ → zF
open Lib renaming hid → zH
section
theorem rowOk_nil(n:Nat)(row:List Int):bY n (row.take 0)=true:=by
 rw[List.take_zero];exact nd (by simp) (by simp)
theorem qx{n:Nat}{row:List Int}{k:Nat}(hk:k<row.length)(h:bY n (row.take k)=true)(h1:0<=row[k]?.getD 0)(h2:row[k]?.getD 0<n)(h3:∀j,j<k->row[j]?.getD 0≠row[k]?.getD 0):bY n (row.take (k+1))=true:=by
 rw[List.getElem?_eq_getElem hk] at h1 h2 h3
 simp only[Option.getD_some] at h1 h2 h3
 rw[List.take_succ_eq_append_getElem hk]
 refine nd (fun j hj=>?_) ?_
 ·rcases List.mem_append.1 hj with h' | h'
  ·exact dF h j h'
  ·rw[List.mem_singleton.1 h'];exact⟨h1,h2⟩
 ·rw[List.nodup_append]
  refine⟨fj h,by simp,fun a ha b hb e=>?_⟩
  rw[List.mem_singleton.1 hb] at e
  obtain⟨i,hi,e2⟩:=List.mem_take_iff_getElem.1 ha
  exact h3 i (by omega) (by rw[List.getElem?_eq_getElem (show i<row.length by omega),Option.getD_some,e2,e])
theorem rowOk_all{n:Nat}{row:List Int}{k:Nat}(hk:row.length<=k)(h:bY n (row.take k)=true):bY n row=true:=by
 rwa [List.take_of_length_le hk] at h
theorem rows_step{to:List (List Int)}{i:Nat}(h:∀j,j<i->bY to.length (to[j]?.getD [])=true)(hi:bY to.length (to[i]?.getD [])=true):∀j,j<i+1->bY to.length (to[j]?.getD [])=true:=by
 intro j hj
 by_cases e:j=i
 ·subst e;exact hi
 ·exact h j (by omega)
end
end Go.Proofs.YtjngffgkllakaaaGreatDoor.GG
namespace Go.Proofs.YtjngffgkllakaaaGreatDoor
open List renaming getElem_toArray → zA, getElem_cons_succ → zB, getElem_cons_zero → zC, setIfInBounds_toArray → zD, set_cons_zero → zE, set_cons_succ → zF
open Lib renaming hid → zH
section
open Go.RowKit
end
section
open Go.RowKit
def falses:Array Value:=Array.replicate 256 (.bool false)
theorem info46:(Tryz.prog.info? 130).map (fun i=>(i.zero,i.size))=some (some (.agg falses),256):=by kernel_rfl
theorem dj(w:World):(zeroValue 130).run Tryz.prog w=.ok (.agg falses) w:=by
 have h:=info46
 cases hi:Tryz.prog.info? 130 with
 | none=>rw[hi] at h;cases h
 | some i =>
   rw[hi] at h
   simp only[Option.map_some,Option.some.injEq,Prod.mk.injEq] at h
   simp [zeroValue,typeInfo,hi,h.1]
def dB(W:World)(g:Nat)(B:Nat->Bool):Prop:=W.rowIs g 130 256 (fun i=>.bool (B i))
theorem dB.cell{W:World}{g:Nat}{B:Nat->Bool}(h:dB W g B){i:Nat}(hi:i<256):W.cell? ⟨g,i,none⟩=some (.bool (B i)):=World.rowIs.cell h hi
theorem dB.frozen{W:World}{g:Nat}{B:Nat->Bool}(h:dB W g B)(i:Nat):W.frozen? ⟨g,i,none⟩=false:=World.rowIs.frozen h i
theorem dB.of_block{W W':World}{g:Nat}{B:Nat->Bool}(h:dB W g B)(e:W'.heap[g]?=W.heap[g]?):dB W' g B:=World.rowIs.of_block h e
theorem dB.congr{W:World}{g:Nat}{B C:Nat->Bool}(h:dB W g B)(e:∀i,i<256->B i=C i):dB W g C:=World.rowIs.congr h (fun i hi=>by rw[e i hi])
theorem dB.set{W:World}{g:Nat}{B:Nat->Bool}(h:dB W g B)(i:Nat):dB (W.setCell ⟨g,i,none⟩ (.bool true)) g (GG.setB B i):=by
 refine World.rowIs.congr (World.rowIs.set h i (.bool true)) (fun j _=>?_)
 unfold GG.setB
 by_cases e:j=i <;> simp [e]
theorem ma(W:World):dB (W.alloc (.cells falses 130)) W.heap.size (fun _=>false):=by
 have h:=World.rowIs_alloc W falses 130 (fun _=>.bool false) (fun i hi=>by unfold falses at hi ⊢;rw[Array.size_replicate] at hi;simp [hi])
 have e:falses.size=256:=by simp [falses]
 rw[e] at h
 exact h
def gp(row:List Int)(q:Nat)(x:Nat):Bool:=decide ((x:Int)∈row.take q)
theorem gone_zero(row:List Int)(x:Nat):false=gp row 0 x:=by simp [gp]
theorem gone_succ{row:List Int}{q:Nat}(hq:q<row.length)(h0:0<=row[q]?.getD 0)(x:Nat):GG.setB (gp row q) (row[q]?.getD 0).toNat x=gp row (q+1) x:=by
 rw[List.getElem?_eq_getElem hq] at h0 ⊢
 simp only[Option.getD_some] at h0 ⊢
 unfold gp GG.setB
 rw[List.take_succ_eq_append_getElem hq]
 by_cases e:x=(row[q]).toNat
 ·subst e
  rw[if_pos rfl,Int.toNat_of_nonneg h0]
  exact(decide_eq_true (List.mem_append.2 (.inr (List.mem_singleton.2 rfl)))).symm
 ·rw[if_neg e]
  have:(x:Int)≠row[q]:=fun h=>e (by omega)
  simp only[List.mem_append,List.mem_singleton,this,or_false]
theorem gone_at{row:List Int}{q:Nat}(h0:0<=row[q]?.getD 0)(h:gp row q (row[q]?.getD 0).toNat=true):∃j,j<q/\row[j]?.getD 0=row[q]?.getD 0:=by
 unfold gp at h
 have h:=of_decide_eq_true h
 rw[Int.toNat_of_nonneg h0] at h
 obtain⟨i,hi,e⟩:=List.mem_take_iff_getElem.1 h
 exact⟨i,by omega,by rw[List.getElem?_eq_getElem (show i<row.length by omega),Option.getD_some,e]⟩
theorem gone_no{row:List Int}{q:Nat}(h0:0<=row[q]?.getD 0)(h:gp row q (row[q]?.getD 0).toNat=false)(j:Nat)(hj:j<q)(hq:q<row.length):row[j]?.getD 0≠row[q]?.getD 0:=by
 intro e
 unfold gp at h
 refine(of_decide_eq_false h) ?_
 rw[Int.toNat_of_nonneg h0,<-e,List.getElem?_eq_getElem (show j<row.length by omega),Option.getD_some]
 exact List.mem_take_iff_getElem.2 ⟨j,by omega,rfl⟩
theorem bcell0{W:World}{A B:World}(h:Below W.heap.size W A)(g:Below W.heap.size W B)(b o:Nat)(hb:b<W.heap.size):B.cell? ⟨b,o,none⟩=A.cell? ⟨b,o,none⟩:=(g.cell (p:=⟨b,o,none⟩) hb).trans (h.cell (p:=⟨b,o,none⟩) hb).symm
theorem Row.of_both{W A B:World}(h:Below W.heap.size W A)(g:Below W.heap.size W B){v:Value}{xs:List Int}:Row W.heap.size A v xs->Row W.heap.size B v xs
 | .inl e=>.inl e
 | .inr ⟨b,off,cap,e,hb,hl,hc⟩=>.inr ⟨b,off,cap,e,hb,hl,fun j u hj=>(bcell0 h g b (off+j) hb).trans (hc j u hj)⟩
set_option maxRecDepth 100000 in
set_option maxHeartbeats 3200000 in
theorem aG(a:Value)(to:List (List Int))(w:World)(ha:az w.heap.size w a to)(hx:cd to) :
 Calls Tryz.prog 35 #[a] w fun e w'=>e=.returned (.bool (GG.am to))/\Below w.heap.size w w':=by
 obtain⟨aa,ca,rfl⟩:=ha.form
 have hx0:=hx.1
 by_cases hl:1<=to.length/\to.length<=256
 ·obtain⟨hl1,hl2⟩:=hl
  obtain⟨xb,xo,xc,e1⟩:=ha.addr (by omega)
  cases e1
  have HA:=zH ha
  have HX:=zH hx
  have hal:=fun(w:World)=>dj w
  clear ha hx
  go_enter Tryz.func35,Tryz.ntmps35
  go_wp2
  go_step3
  go_wp2
  go_step3
  go_wp2
  go_loopw [3,19] (fun r k wr=>∃i:Nat,i<=to.length/\r=.bool true/\k=.int .i64 (i:Int)/\Below w.heap.size w wr/\RowKit.Hid (∀j,j<i->GG.bY to.length (to[j]?.getD [])=true)) (fun _ k _=>to.length-(intOf k).toNat)
  case atStart=>exact⟨0,by omega,rfl,rfl,Below.refl _ _,zH (fun j hj=>absurd hj (Nat.not_lt_zero _))⟩
  case round =>
   obtain⟨i,hi,rfl,rfl,hB,HT⟩:=hrel
   by_cases hlt:i<to.length
   ·obtain⟨ra,rac,hx1,hrx⟩:=(HA.out.below hB).at hlt
    have i1:(0:Int)<=i/\(i:Int)<to.length:=by omega
    have b1:=HX.out.row i
    have HNO:=zH (GG.right_no hlt)
    have HYES:=zH (GG.rows_step HT.out)
    obtain⟨r,er⟩:∃r,r=to[i]?.getD []:=⟨_,rfl⟩
    rw[<-er] at hx1 hrx b1 HNO HYES
    have HB:=zH hB
    have HRX:=zH (hrx.below ((Below.refl w.heap.size wr).alloc hB.size (.cells falses 130)))
    have HG:=zH (ma wr)
    clear er hrx HT hB
    go_wp2_with fail
    obtain⟨wo,ewo⟩:∃wo:World,wo=wr:=⟨_,rfl⟩
    rw[<-ewo]
    rw[<-ewo] at HB HRX HG hx1
    clear ewo
    go_loopw [3,25] (fun rt k wr=>∃q:Nat,q<=r.length/\rt=.bool true/\k=.int .i64 (q:Int)/\dB wr wo.heap.size (gp r q)/\Below w.heap.size w wr/\RowKit.Hid (GG.bY to.length (r.take q)=true)) (fun _ k _=>r.length-(intOf k).toNat)
    case atStart=>exact⟨0,by omega,rfl,rfl,HG.out.congr (fun x _=>gone_zero r x),HB.out.alloc HB.out.size _,zH (GG.rowOk_nil _ _)⟩
    case round =>
     obtain⟨q,hq,rfl,rfl,hF,hB2,HQ⟩:=hrel
     have HF:=zH hF
     have HB2:=zH hB2
     clear hF hB2
     by_cases hqt:q<r.length
     ·obtain⟨xb2,xo2,rfl,hx2⟩:=(HRX.out.of_both (HB.out.alloc HB.out.size _) HB2.out).cellAt hqt
      have i3:(0:Int)<=q/\(q:Int)<r.length:=by omega
      have HSTEP:=zH (GG.qx hqt HQ.out)
      have HBAD:=zH (GG.rowOk_no (n:=to.length) hqt)
      have HTW:=zH (fun(j:Nat) (hj:j<q)=>GG.oF (n:=to.length) hj hqt)
      have HGA:=zH (gone_at (row:=r) (q:=q))
      have HGN:=zH (fun h0 hn j hj=>gone_no (row:=r) (q:=q) h0 hn j hj hqt)
      have HGS:=zH (gone_succ hqt)
      obtain⟨x,ex⟩:∃x,x=r[q]?.getD 0:=⟨_,rfl⟩
      rw[<-ex] at hx2 HSTEP HBAD HTW HGA HGN HGS
      clear ex HQ
      by_cases hin:0<=x/\x<to.length
      ·have HIN:=zH (show GG.inB to.length x=true from decide_eq_true hin)
       obtain⟨hin1,hin2⟩:=hin
       have hc3:=HF.out.cell (show x.toNat<256 by omega)
       have hf3:=HF.out.frozen x.toNat
       cases hg:gp r q x.toNat
       ·have HOK:=zH (HSTEP.out hin1 hin2 (HGN.out hin1 hg))
        rw[hg] at hc3
        clear hg
        go_wp2_with (go_at_call 61;refine(gm _ to.length _ _ ⟨_,_,rfl⟩ hx0).mono ?_;rintro e w' ⟨rfl,rfl⟩;rw[HIN.out])
        go_roundw
        case rel=>exact⟨q+1,by omega,rfl,by go_num,(HF.out.set x.toNat).congr (fun y _=>HGS.out hin1 y),HB2.out.setCell (by have:=HB.out.size;simp;omega) _,HOK⟩
        case measure=>simp [intOf];omega
       ·obtain⟨j,hj,hje⟩:=HGA.out hin1 hg
        have HS:=zH (HNO.out (HTW.out j hj hje))
        rw[hg] at hc3
        clear hg hje
        go_wp2_with (go_at_call 61;refine(gm _ to.length _ _ ⟨_,_,rfl⟩ hx0).mono ?_;rintro e w' ⟨rfl,rfl⟩;rw[HIN.out])
        try rw[Exit.noGoto_ret]
        go_ret
        exact⟨af HS.out.symm,HB2.out⟩
      ·have HIN:=zH (show GG.inB to.length x=false from decide_eq_false hin)
       have HS:=zH (HNO.out (HBAD.out HIN.out))
       clear hin
       go_wp2_with (go_at_call 61;refine(gm _ to.length _ _ ⟨_,_,rfl⟩ hx0).mono ?_;rintro e w' ⟨rfl,rfl⟩;rw[HIN.out])
       try rw[Exit.noGoto_ret]
       go_ret
       exact⟨af HS.out.symm,HB2.out⟩
     ·have HS:=zH (HYES.out (GG.rowOk_all (by omega) HQ.out))
      go_wp2_with fail
      go_roundw
      case rel=>exact⟨i+1,by omega,rfl,by go_num,HB2.out,HS⟩
      case measure=>simp [intOf];omega
   ·have HS:=zH (show GG.am to=true from GG.oE hl1 hl2 (fun j hj=>HT.out j (by omega)))
    have HB:=zH hB
    clear hB
    go_wp2_with fail
    rw[Exit.noGoto_ret]
    go_ret
    exact⟨af HS.out.symm,HB.out⟩
 ·have HS:=zH (GG.ng hl)
  by_cases h1:1<=to.length
  ·have h2:¬to.length<=256:=fun h2=>hl ⟨h1,h2⟩
   clear hl ha hx
   go_enter Tryz.func35,Tryz.ntmps35
   go_wp2
   go_step3
   go_wp2
   try rw[Exit.noGoto_ret]
   go_ret
   exact⟨af HS.out.symm,Below.refl _ _⟩
  ·clear hl ha hx
   go_enter Tryz.func35,Tryz.ntmps35
   go_wp2
   go_step3
   go_wp2
   try rw[Exit.noGoto_ret]
   go_ret
   exact⟨af HS.out.symm,Below.refl _ _⟩
end
end Go.Proofs.YtjngffgkllakaaaGreatDoor
namespace Go.Proofs.YtjngffgkllakaaaGreatDoor.GG
open List renaming getElem_toArray → zA, getElem_cons_succ → zB, getElem_cons_zero → zC, setIfInBounds_toArray → zD, set_cons_zero → zE, set_cons_succ → zF
open Lib renaming hid → zH
section
open Go.RowKit
theorem own_block{w:World}{B e size n k:Nat}{v:Value}{xs:List Value}(h:w.ownsRow B e size v n xs)(hk:v.ownBlock=some k):B<=k/\k<w.heap.size/\∃c,w.heap[k]?=some (.cells c e (0,0)):=by
 have hl:=h.lt k hk
 rcases h.2 with⟨rfl,_⟩ | ⟨g,cap,cur,rfl,_,hg,_⟩
 ·simp [Value.ownBlock] at hk
 ·simp [Value.ownBlock] at hk
  subst hk
  exact⟨hl.1,hl.2,cur,hg⟩
theorem own_types{w:World}{B e n size B' e' n' size':Nat}{v v':Value}{xs xs':List Value}(h:w.ownsRow B e size v n xs)(h':w.ownsRow B' e' size' v' n' xs')(hne:e≠e'):v.ownBlock=none∨v.ownBlock≠v'.ownBlock:=by
 cases hk:v.ownBlock with
 | none=>exact .inl rfl
 | some k =>
   refine .inr fun hk'=>?_
   obtain⟨_,_,c,hc⟩:=own_block h hk
   obtain⟨_,_,c',hc'⟩:=own_block h' hk'.symm
   rw[hc] at hc'
   simp only[Option.some.injEq,Obj.cells.injEq] at hc'
   exact hne hc'.2.1
section
variable {P:Program} {w:World}
theorem wpList_append_any{ops:Array Oper}{rest:List Oper}{o:Oper}{a:Act}{Q:Exit->Act->World->Prop}(hgd:o.guard=none)(s x:Operand)(t:TypeId)
 (ho:o.op=.call { callee:=.builtin .append,args:=#[s,x],argTypes:=#[t,t] })
 (base:Nat) (e:TypeId) (i:TypeInfo) (z:Value) (size bytes:Nat) (ht:P.underlying t=some (.slice e)) (hi:P.info? e=some i) (hz:i.zero=some z)
 (hsize:i.size=size) (hby:i.bytes=bytes) (hzs:z.cells.size=size) (hsz:0<size)
 (v:Value) (n:Nat) (xs:List Value) (hs:a.eval s=v) (hown:w.ownsRow base e size v n xs)
 (xv:Value) (m:Nat) (news:List Value) (hx:a.eval x=xv) (hl:news.length=m*size)
 (hsrc:xv=.slice none 0 0/\m=0∨∃ad c,xv=.slice (some ad) m c/\∀j u,news[j]?=some u->w.cell? (ad.add j)=some u) (h1:∀u∈news,u.oneCell'=true)
 (h63:n+m<=maxLen) (hbytes:(n+m)*bytes<=140737488355328) (hbase:base<=w.heap.size)
 (h:∀v' w',w'.ownsRow base e size v' (n+m) (xs ++ news)->w.grownBy w' v.ownBlock->wpList P ops Q rest (a.put o.dst v') w') :
 wpList P ops Q (o :: rest) a w:=by
 rcases hsrc with⟨rfl,rfl⟩ | ⟨ad,c,rfl,hn⟩
 ·have hn:news=[]:=List.eq_nil_of_length_eq_zero (by simpa using hl)
  subst hn
  have hr:=run_append_owned_none (P:=P) (w:=w) base t o.type e i size ht hi v n xs hown
  refine wpList_plain hgd fun K hK=>?_
  unfold Oper.wp execOp
  simp only[ho,resolve,invoke,builtin,Sem.run_bind,Sem.run_pure,Result.andThen_ok,List.map_toArray,List.map_cons,List.map_nil,hs,hx,hr]
  exact hK _ _ (h v w (by simpa using hown) ⟨rfl,rfl,rfl,Nat.le_refl _,fun _ _ _=>rfl⟩)
 ·exact wpList_append_own w hgd s x t ho base e i z size bytes ht hi hz hsize hby hzs hsz v n xs hs hown ad m c news hx hl hn h1 h63 hbytes hbase (fun v' w' p1 p2 _=>h v' w' p1 p2)
end
def Rows(B:Nat)(w:World)(vs:List Value)(to:List (List Int)):Prop :=
 vs.length=to.length/\∀j,j<to.length->∃r,vs[j]?=some r/\w.ownsRow B 3 1 r (to[j]?.getD []).length (ao (to[j]?.getD []))
theorem Rows.nil(B:Nat)(w:World):Rows B w [] []:=⟨rfl,fun j hj=>absurd hj (Nat.not_lt_zero _)⟩
theorem Rows.alloc{B:Nat}{w:World}{vs:List Value}{to:List (List Int)}(h:Rows B w vs to)(o:Obj):Rows B (w.alloc o) vs to :=
 ⟨h.1,fun j hj=>by obtain⟨r,e,g⟩:=h.2 j hj;exact⟨r,e,g.alloc o⟩⟩
theorem Rows.kept{B e n size B':Nat}{w w':World}{vs:List Value}{to:List (List Int)}{v:Value}{xs:List Value}(h:Rows B w vs to)(ho:w.ownsRow B' e size v n xs)(hne:3≠e)(hg:w.grownBy w' v.ownBlock):Rows B w' vs to :=
 ⟨h.1,fun j hj=>by obtain⟨r,e,g⟩:=h.2 j hj;exact⟨r,e,g.kept hg (own_types g ho hne)⟩⟩
theorem Rows.grown{B:Nat}{w w':World}{vs:List Value}{to:List (List Int)}{b:Option Nat}(h:Rows B w vs to)(hg:w.grownBy w' b)(hb:∀k,b=some k->w.heap.size<=k):Rows B w' vs to :=
 ⟨h.1,fun j hj=>by
  obtain⟨r,e,g⟩:=h.2 j hj
  refine⟨r,e,g.kept hg ?_⟩
  cases hk:r.ownBlock with
  | none=>exact .inl rfl
  | some k =>
    refine .inr fun e=>?_
    have:=hb k e.symm
    have:=(g.lt k hk).2
    omega⟩
theorem Rows.snoc{B:Nat}{w:World}{vs:List Value}{to:List (List Int)}{r:Value}{row:List Int}(h:Rows B w vs to)(g:w.ownsRow B 3 1 r row.length (ao row)):Rows B w (vs ++ [r]) (to ++ [row]):=by
 refine⟨by simp [h.1],fun j hj=>?_⟩
 by_cases e:j<to.length
 ·obtain⟨r',e1,g'⟩:=h.2 j e
  exact⟨r',by rw[List.getElem?_append_left (by rw[h.1];exact e)];exact e1,by rw[List.getElem?_append_left e];exact g'⟩
 ·have e2:j=to.length:=by simp at hj;omega
  subst e2
  exact⟨r,by rw[<-h.1];simp,by simpa using g⟩
theorem Rows.graph{B e:Nat}{w:World}{v:Value}{vs:List Value}{to:List (List Int)}(h:Rows B w vs to)(ho:w.ownsRow B e 1 v to.length vs):az w.heap.size w v to :=
 ⟨vs,aM ho,h.1,fun j hj=>by obtain⟨r,e,g⟩:=h.2 j hj;exact⟨r,e,aM g⟩⟩
theorem ap{w:World}{B e n size:Nat}{v:Value}{xs:List Value}(h:w.ownsRow B e size v n xs):∃a cap,v=.slice a n cap:=by
 rcases h.2 with⟨rfl,rfl⟩ | ⟨g,cap,cur,rfl,_⟩
 ·exact⟨_,_,rfl⟩
 ·exact⟨_,_,rfl⟩
theorem aW(W:World)(x:Value)(t:TypeId):∀j u,([x]:List Value)[j]?=some u->(W.alloc (.cells #[x] t)).cell? ((⟨W.heap.size,0,none⟩:Addr).add j)=some u:=by
 intro j u hj
 match j,hj with
 | 0,hj=>simp at hj;subst hj;simp [Addr.add]
end
end Go.Proofs.YtjngffgkllakaaaGreatDoor.GG
namespace Go.Proofs.YtjngffgkllakaaaGreatDoor
open List renaming getElem_toArray → zA, getElem_cons_succ → zB, getElem_cons_zero → zC, setIfInBounds_toArray → zD, set_cons_zero → zE, set_cons_succ → zF
open Lib renaming hid → zH
section
open Go.RowKit
theorem Tryz.infoGInt:(Tryz.prog.info? 3).map (fun i=>(i.zero,i.size,i.bytes))=some (some (.int .i64 0),1,8):=by kernel_rfl
theorem Tryz.infoGRow:(Tryz.prog.info? 54).map (fun i=>(i.zero,i.size,i.bytes))=some (some (.slice none 0 0),1,24):=by kernel_rfl
end
end Go.Proofs.YtjngffgkllakaaaGreatDoor
namespace Go.Proofs.YtjngffgkllakaaaGreatDoor.GG
open List renaming getElem_toArray → zA, getElem_cons_succ → zB, getElem_cons_zero → zC, setIfInBounds_toArray → zD, set_cons_zero → zE, set_cons_succ → zF
open Lib renaming hid → zH
section
open Go.RowKit
theorem dfs_mono(adj:Nat->List Nat)(f:Nat):∀(i:Nat) (s:St) (x:Nat),s.1 x=true->(dfs adj f i s).1 x=true:=by
 induction f with
 | zero=>intro i s x h;exact h
 | succ f ih =>
   intro i s x h
   unfold dfs
   split
   ·exact h
   ·have key:∀(l:List Nat) (s:St),s.1 x=true->(l.foldl (fun s j=>dfs adj f j s) s).1 x=true:=by
     intro l
     induction l with
     | nil=>intro s h;exact h
     | cons j l ihl=>intro s h;exact ihl _ (ih j s x h)
    exact key _ _ ((dN _ _ _).2 (.inr h))
theorem fold_mono(adj:Nat->List Nat)(f:Nat)(l:List Nat)(s:St)(x:Nat)(h:s.1 x=true):(l.foldl (fun s j=>dfs adj f j s) s).1 x=true:=by
 induction l generalizing s with
 | nil=>exact h
 | cons j l ihl=>exact ihl _ (dfs_mono adj f j s x h)
theorem dfs_len{adj:Nat->List Nat}{n:Nat}(ha:∀x,∀j∈adj x,j<n)(f:Nat):∀(i:Nat) (s:St) (c:Nat),i<n->s.2.length+unv n s.1+c<=n->(dfs adj f i s).2.length+unv n (dfs adj f i s).1+c<=n:=by
 induction f with
 | zero=>intro i s c _ h;exact h
 | succ f ih =>
   intro i s c hi h
   unfold dfs
   by_cases hB:s.1 i=true
   ·rw[if_pos hB];exact h
   ·rw[if_neg hB]
    have hB':s.1 i=false:=by simpa using hB
    have key:∀(l:List Nat) (s:St),(∀j∈l,j<n)->s.2.length+unv n s.1+(c+1)<=n->(l.foldl (fun s j=>dfs adj f j s) s).2.length+unv n (l.foldl (fun s j=>dfs adj f j s) s).1+(c+1)<=n:=by
     intro l
     induction l with
     | nil=>intro s _ h;exact h
     | cons j l ihl=>intro s hl h;exact ihl _ (fun k hk=>hl k (by simp [hk])) (ih j s (c+1) (hl j (by simp)) h)
    have:=eM n hi hB'
    have:=key (adj i) (setB s.1 i,s.2) (ha i) (by show s.2.length+unv n (setB s.1 i)+(c+1)<=n;omega)
    generalize (adj i).foldl (fun s j=>dfs adj f j s) (setB s.1 i,s.2)=t at this
    show (t.2 ++ [i]).length+unv n t.1+c<=n
    simp only[List.length_append,List.length_cons,List.length_nil]
    omega
theorem oI{adj:Nat->List Nat}{n:Nat}(ha:∀x,∀j∈adj x,j<n)(f:Nat)(l:List Nat)(s:St)(c:Nat)(hl:∀j∈l,j<n)(h:s.2.length+unv n s.1+c<=n):(l.foldl (fun s j=>dfs adj f j s) s).2.length+unv n (l.foldl (fun s j=>dfs adj f j s) s).1+c<=n:=by
 induction l generalizing s with
 | nil=>exact h
 | cons j l ihl=>exact ihl _ (fun k hk=>hl k (by simp [hk])) (dfs_len ha f j s c (hl j (by simp)) h)
def part(adj:Nat->List Nat)(f i k:Nat)(s:St):St:=((adj i).take k).foldl (fun s j=>dfs adj f j s) (setB s.1 i,s.2)
theorem part_zero(adj:Nat->List Nat)(f i:Nat)(s:St):part adj f i 0 s=(setB s.1 i,s.2):=by simp [part]
theorem part_succ(adj:Nat->List Nat)(f i k:Nat)(s:St){j:Nat}(h:(adj i)[k]?=some j):part adj f i (k+1) s=dfs adj f j (part adj f i k s):=by
 obtain⟨hk,e⟩:=List.getElem?_eq_some_iff.1 h
 unfold part
 rw[List.take_succ_eq_append_getElem hk,List.foldl_append,e]
 rfl
theorem part_all(adj:Nat->List Nat)(f i k:Nat)(s:St)(hs:s.1 i=false)(hk:(adj i).length<=k):dfs adj (f+1) i s=((part adj f i k s).1,(part adj f i k s).2 ++ [i]):=by
 unfold dfs part
 rw[if_neg (by rw[hs];simp),List.take_of_length_le hk]
theorem part_unv{adj:Nat->List Nat}{n:Nat}(f i k:Nat)(s:St)(hi:i<n)(hs:s.1 i=false)(hu:unv n s.1<f+1):unv n (part adj f i k s).1<f:=by
 have h1:=eM n hi hs
 have h2:=gl n (B:=setB s.1 i) (C:=(part adj f i k s).1) (fun x h=>fold_mono adj f _ _ x h)
 omega
theorem part_len{adj:Nat->List Nat}{n:Nat}(ha:∀x,∀j∈adj x,j<n)(f i k:Nat)(s:St)(hi:i<n)(hs:s.1 i=false)(h:s.2.length+unv n s.1<=n):(part adj f i k s).2.length+unv n (part adj f i k s).1+1<=n:=by
 have h1:=eM n hi hs
 exact oI ha f _ _ 1 (fun j hj=>ha i j (List.mem_of_mem_take hj)) (by show s.2.length+unv n (setB s.1 i)+1<=n;omega)
theorem adj_get{to:List (List Int)}{i k:Nat}(hk:k<(to[i]?.getD []).length):(an to i)[k]?=some ((to[i]?.getD [])[k]?.getD 0).toNat:=by
 unfold an
 rw[List.getElem?_map,List.getElem?_eq_getElem hk]
 rfl
theorem adj_len(to:List (List Int))(i:Nat):(an to i).length=(to[i]?.getD []).length:=by simp [an]
end
end Go.Proofs.YtjngffgkllakaaaGreatDoor.GG
namespace Go.Proofs.YtjngffgkllakaaaGreatDoor
open List renaming getElem_toArray → zA, getElem_cons_succ → zB, getElem_cons_zero → zC, setIfInBounds_toArray → zD, set_cons_zero → zE, set_cons_succ → zF
open Lib renaming hid → zH
section
open Go.RowKit
structure VSt (N:Nat) (W0:World) (v:Value) (s:GG.St) (W:World):Prop where
 toC:W.heap[N]?=some (.cells #[v] 32 (0,0))
 been:dB W (N+1) s.1
 beh:∃bv,W.heap[N+2]?=some (.cells #[bv] 54 (0,0))/\W.ownsRow (N+4) 3 1 bv s.2.length (ao (s.2.map Int.ofNat))
 vis:W.heap[N+3]?=some (.cells #[.func (.func 166) #[] #[.pointer (some ⟨N+1,0,none⟩),.pointer (some ⟨N,0,none⟩),.pointer (some ⟨N+3,0,none⟩),.pointer (some ⟨N+2,0,none⟩)]] 262 (0,0))
 below:Below W0.heap.size W0 W
 size:N+4<=W.heap.size
theorem bA(W:World)(a:Addr)(k:Nat)(v:Value)(h:k≠a.block):(W.setCell a v).heap[k]?=W.heap[k]?:=heap_setCell_other W a k v h
theorem VSt.mark{N:Nat}{W0 W:World}{v:Value}{s:GG.St}(h:VSt N W0 v s W)(hN:W0.heap.size<=N)(i:Nat):VSt N W0 v (GG.setB s.1 i,s.2) (W.setCell ⟨N+1,i,none⟩ (.bool true)):=by
 obtain⟨bv,hb,ho⟩:=h.beh
 refine⟨?_,h.been.set i,⟨bv,?_,?_⟩,?_,h.below.setCell (by simp;omega) _,by simpa using h.size⟩
 ·rw[bA _ _ _ _ (by simp)];exact h.toC
 ·rw[bA _ _ _ _ (by simp)];exact hb
 ·refine⟨ho.1,?_⟩
  rcases ho.2 with hn | ⟨g,cap,cur,rfl,hb',hgg,rest⟩
  ·exact .inl hn
  ·exact .inr ⟨g,cap,cur,rfl,hb',by rw[bA _ _ _ _ (by simp;omega)];exact hgg,rest⟩
 ·rw[bA _ _ _ _ (by simp)];exact h.vis
theorem VSt.told{N:Nat}{W0 W w1:World}{v bv v':Value}{s:GG.St}{i:Nat}{o:Obj}(h:VSt N W0 v s W)(hN:W0.heap.size<=N)(hb:W.heap[N+2]?=some (.cells #[bv] 54 (0,0)))(hr:W.ownsRow (N+4) 3 1 bv s.2.length (ao (s.2.map Int.ofNat)))
 (ho:w1.ownsRow (N+4) 3 1 v' (s.2.length+1) (ao (s.2.map Int.ofNat) ++ [.int .i64 (i:Int)])) (hg:(W.alloc o).grownBy w1 bv.ownBlock) :
 w1.heap[N+2]?=some (.cells #[bv] 54 (0,0))/\VSt N W0 v (s.1,s.2 ++ [i]) (w1.setCell ⟨N+2,0,none⟩ v'):=by
 have hs:=h.size
 have key:∀k,k<N+4->w1.heap[k]?=W.heap[k]?:=by
  intro k hk
  rw[hg.block k (by simp;omega) (fun e=>by have:=(hr.lt k e.symm).1;omega)]
  exact heap_alloc_old W o (by omega)
 have hb1:=(key (N+2) (by omega)).trans hb
 refine⟨hb1,?_,?_,⟨v',one_setCell hb1,?_⟩,?_,?_,?_⟩
 ·rw[bA _ _ _ _ (by simp),key N (by omega)];exact h.toC
 ·exact h.been.of_block (by rw[bA _ _ _ _ (by simp),key (N+1) (by omega)])
 ·have e:(s.2 ++ [i]).length=s.2.length+1:=by simp
  have e2:ao ((s.2 ++ [i]).map Int.ofNat)=ao (s.2.map Int.ofNat) ++ [.int .i64 (i:Int)]:=by simp [ao]
  show (w1.setCell ⟨N+2,0,none⟩ v').ownsRow (N+4) _ 1 v' (s.2 ++ [i]).length (ao ((s.2 ++ [i]).map Int.ofNat))
  rw[e,e2]
  refine⟨ho.1,?_⟩
  rcases ho.2 with hn | ⟨g,cap,cur,rfl,hb',hgg,rest⟩
  ·exact .inl hn
  ·exact .inr ⟨g,cap,cur,rfl,hb',by rw[bA _ _ _ _ (by simp;omega)];exact hgg,rest⟩
 ·rw[bA _ _ _ _ (by simp),key (N+3) (by omega)];exact h.vis
 ·exact((h.below.alloc (by omega) o).grown hg (by simp;omega) (fun k e=>by have:=(hr.lt k e).1;omega)).setCell (by simp;omega) _
 ·have:=hg.size;simp at this ⊢;omega
set_option maxRecDepth 100000 in
set_option maxHeartbeats 1600000 in
theorem visit_any{N:Nat}{W0:World}{v:Value}{to:List (List Int)}(hN:N=W0.heap.size)(hr:GG.am to=true)(hv:az N W0 v to)(f:Nat):∀(i:Nat) (s:GG.St) (W:World),i<to.length->GG.unv to.length s.1<f->s.2.length+GG.unv to.length s.1<=to.length->VSt N W0 v s W ->
 Calls Tryz.prog 166 #[.int .i64 i,.pointer (some ⟨N+1,0,none⟩),.pointer (some ⟨N,0,none⟩),.pointer (some ⟨N+3,0,none⟩),.pointer (some ⟨N+2,0,none⟩)] W
  fun e W'=>e=.returned (.tuple #[])/\VSt N W0 v (GG.dfs (GG.an to) f i s) W':=by
 subst hN
 induction f with
 | zero=>intro i s W _ hu;exact absurd hu (Nat.not_lt_zero _)
 | succ f ih =>
   intro i s W hi hu hl hS
   have hlen:=GG.aB hr
   have hc0:=hS.been.cell (show i<256 by omega)
   have i1:(0:Int)<=i/\(i:Int)<256:=by omega
   cases hB:s.1 i
   ·have HM:=zH (hS.mark (Nat.le_refl _) i)
    have hf0:=hS.been.frozen i
    rw[hB] at hc0
    have hct:=cell_of_one HM.out.toC
    obtain⟨vb,vo,vc,e1⟩:=hv.addr (by omega)
    subst e1
    obtain⟨ra,rac,hx1,hrx⟩:=(hv.below HM.out.below).at hi
    have i2:(0:Int)<=i/\(i:Int)<to.length:=by omega
    have b1:(to[i]?.getD []).length<=17592186044416:=by have:=GG.fF (GG.bF hr hi);omega
    have HR:=zH (GG.bF hr hi)
    have HG:=zH (fun(k:Nat) (hk:k<(to[i]?.getD []).length)=>GG.adj_get hk)
    have HAL:=zH (GG.adj_len to i)
    obtain⟨r,er⟩:∃r,r=to[i]?.getD []:=⟨_,rfl⟩
    rw[<-er] at hx1 hrx b1 HR HG HAL
    have HRX:=zH hrx
    have HS:=zH hS
    have HU:=zH (fun k=>GG.part_unv (adj:=GG.an to) f i k s hi hB hu)
    have HLN:=zH (fun k=>GG.part_len (GG.eZ hr) f i k s hi hB hl)
    have HALL:=zH (fun k=>GG.part_all (GG.an to) f i k s hB)
    have HV:=zH hv
    have HIH:=zH ih
    have HZ:=zH (GG.part_zero (GG.an to) f i s)
    clear hS hv hB ih hu hl er hrx
    go_enter Tryz.func166,Tryz.ntmps166
    go_wp2_with fail
    go_loopw [18] (fun k wr=>∃q:Nat,q<=r.length/\k=.int .i64 (q:Int)/\VSt W0.heap.size W0 (.slice (some ⟨vb,vo,none⟩) to.length vc) (GG.part (GG.an to) f i q s) wr) (fun k _=>r.length-(intOf k).toNat)
    case atStart=>exact⟨0,Nat.zero_le _,rfl,by rw[HZ.out];exact HM.out⟩
    case round =>
     obtain⟨q,hq,rfl,hP⟩:=hrel
     have HP:=zH hP
     clear hP
     by_cases hqt:q<r.length
     ·have hcv:=cell_of_one HP.out.vis
      obtain⟨xb2,xo2,rfl,hx2⟩:=(HRX.out.of_both HM.out.below HP.out.below).cellAt hqt
      have i3:(0:Int)<=q/\(q:Int)<r.length:=by omega
      have HX:=zH (GG.dF HR.out _ (GG.bB (d:=0) hqt))
      have HST:=zH (GG.part_succ (GG.an to) f i q s (HG.out q hqt))
      obtain⟨x,ex⟩:∃x,x=r[q]?.getD 0:=⟨_,rfl⟩
      rw[<-ex] at hx2 HX HST
      clear ex
      obtain⟨y,rfl⟩:∃y:Nat,x=(y:Int):=⟨x.toNat,by have:=HX.out;omega⟩
      have HY:=zH (show y<to.length by have:=HX.out;omega)
      go_wp2_with (go_at_call 166;refine(HIH.out y _ _ HY.out (HU.out q) (by have:=HLN.out q;omega) HP.out).mono ?_;rintro e w' ⟨rfl,hP'⟩;have HP':=zH hP';clear hP')
      go_roundw
      case rel=>exact⟨q+1,by omega,by go_num,by rw[HST.out,Int.toNat_natCast];exact HP'.out⟩
      case measure=>simp [intOf];omega
     ·obtain⟨bv,hbb,hbr⟩:=HP.out.beh
      obtain⟨i0,hi0,hz0,hz1,hz2⟩:=info_parts Tryz.infoGInt
      have hcb:=cell_of_one hbb
      have HBB:=zH hbb
      have HBR:=zH hbr
      have HL1:=HLN.out q
      have HE:=zH (HALL.out q (by have:=HAL.out;omega))
      clear hbb hbr
      go_wp2_with (first
      | (at_builtin
         refine GG.wpList_append_any rfl _ _ 54 rfl (W0.heap.size+4) 3 i0 (.int .i64 0) 1 8 Tryz.underlying54 hi0 hz0 hz1 hz2 rfl (by decide) bv _ _ rfl (HBR.out.alloc _) (.slice (some ⟨wr.heap.size,0,none⟩) 1 1) 1 [.int .i64 (i:Int)] rfl rfl (.inr ⟨_,_,rfl,GG.aW _ _ _⟩) (by intro u hu;rw[List.mem_singleton.1 hu];rfl) (by unfold maxLen;omega) (by omega) (by have:=HP.out.size;simp;omega) ?_
         intro v1 w1 ho hg
         obtain⟨va1,vc1,rfl⟩:=GG.ap ho
         have HT:=zH (HP.out.told (Nat.le_refl _) HBB.out HBR.out ho hg)
         clear ho hg
         have hcb1:=cell_of_one HT.out.1
         have hfb1:=free_of_one HT.out.1))
      go_end0
      exact⟨rfl,by rw[HE.out];exact HT.out.2⟩
   ·rw[hB] at hc0
    have HS:=zH hS
    have HD:=zH (show GG.dfs (GG.an to) (f+1) i s=s by unfold GG.dfs;rw[if_pos hB])
    clear hS hv hB ih hu hl
    go_enter Tryz.func166,Tryz.ntmps166
    go_wp2_with fail
    exact bodyPost_ret (v:=.tuple #[]) (results_none rfl _ _ _) rfl ⟨rfl,by rw[HD.out];exact HS.out⟩
end
section
open Go.RowKit
def runT(adj:Nat->List Nat)(l:List Int)(q:Nat):GG.St:=GG.runF 257 adj ((l.take q).map Int.toNat)
theorem runT_zero(adj:Nat->List Nat)(l:List Int):runT adj l 0=((fun _=>false),[]):=by simp [runT,GG.runF]
theorem runT_succ(adj:Nat->List Nat){l:List Int}{q:Nat}(hq:q<l.length):runT adj l (q+1)=GG.dfs adj 257 (l[q]?.getD 0).toNat (runT adj l q):=by
 unfold runT GG.runF
 rw[List.take_succ_eq_append_getElem hq,List.getElem?_eq_getElem hq,List.map_append,List.foldl_append]
 rfl
theorem oJ(adj:Nat->List Nat){l:List Int}{q:Nat}(hq:l.length<=q):runT adj l q=GG.runG adj (l.map Int.toNat):=by
 unfold runT GG.runG
 rw[List.take_of_length_le hq]
theorem oK{to:List (List Int)}(hr:GG.am to=true){l:List Int}(hl:∀x∈l,0<=x/\x<to.length)(q:Nat):(runT (GG.an to) l q).2.length+GG.unv to.length (runT (GG.an to) l q).1<=to.length:=by
 have:=GG.oI (GG.eZ hr) 257 ((l.take q).map Int.toNat) ((fun _=>false),[]) 0 (fun j hj=>by
  obtain⟨x,hx,rfl⟩:=List.mem_map.1 hj
  have:=hl x (List.mem_of_mem_take hx)
  omega) (by have:=GG.iB to.length (fun _=>false);show 0+GG.unv to.length (fun _=>false)+0<=to.length;omega)
 exact this
theorem vst_new(W:World)(v:Value):VSt W.heap.size W v ((fun _=>false),[]) ((((W.alloc (.cells #[v] 32)).alloc (.cells falses 130)).alloc (.cells #[.slice none 0 0] 54)).alloc (.cells #[.func (.func 166) #[] #[.pointer (some ⟨W.heap.size+1,0,none⟩),.pointer (some ⟨W.heap.size,0,none⟩),.pointer (some ⟨W.heap.size+1+1+1,0,none⟩),.pointer (some ⟨W.heap.size+1+1,0,none⟩)]] 262)):=by
 refine⟨?_,?_,⟨.slice none 0 0,?_,World.ownsRow_nil _ _ _ _⟩,?_,?_,?_⟩
 ·rw[heap_alloc_old _ _ (by simp;omega),heap_alloc_old _ _ (by simp;omega),heap_alloc_old _ _ (by simp),heap_alloc_new]
 ·have h:=ma (W.alloc (.cells #[v] 32))
  rw[show (W.alloc (.cells #[v] 32)).heap.size=W.heap.size+1 by simp] at h
  refine h.of_block ?_
  rw[heap_alloc_old _ _ (by simp),heap_alloc_old _ _ (by simp)]
 ·rw[heap_alloc_old _ _ (by simp)]
  have:=heap_alloc_new ((W.alloc (.cells #[v] 32)).alloc (.cells falses 130)) (.cells #[.slice none 0 0] 54)
  simpa using this
 ·have:=heap_alloc_new (((W.alloc (.cells #[v] 32)).alloc (.cells falses 130)).alloc (.cells #[.slice none 0 0] 54)) (.cells #[.func (.func 166) #[] #[.pointer (some ⟨W.heap.size+1,0,none⟩),.pointer (some ⟨W.heap.size,0,none⟩),.pointer (some ⟨W.heap.size+1+1+1,0,none⟩),.pointer (some ⟨W.heap.size+1+1,0,none⟩)]] 262)
  simpa using this
 ·exact((((Below.refl _ _).alloc (Nat.le_refl _) _).alloc (by simp) _).alloc (by simp;omega) _).alloc (by simp;omega) _
 ·simp
theorem kC{w':World}(w:World)(h:w' = { w with heap:=w'.heap })(e:w'.heap=w.heap):w'=w:=by
 rw[e] at h;exact h
theorem jS{w:World}{g:Nat}{cs:Array Value}{t:TypeId}{fr:Nat × Nat}(hg:w.heap[g]?=some (.cells cs t fr)):w.setRow g cs=w:=by
 have e:(w.setRow g cs).heap=w.heap:=by
  apply Array.ext_getElem?
  intro k
  by_cases h:k=g
  ·subst h
   rw[setRow_heap w k cs cs t fr hg,hg]
  ·simp only[World.setRow,Array.getElem?_modify]
   rw[if_neg (fun e=>h e.symm)]
 exact kC (w':=w.setRow g cs) w rfl e
theorem nk{o:Oper}{a:Act}{w:World}(x:Operand)(ho:o.op=.load 130 x)
 (g:Nat) (hx:a.eval x=.pointer (some ⟨g,0,none⟩)) (t:TypeId) (cs:Array Value) (fr:Nat × Nat) (hg:w.heap[g]?=some (.cells cs t fr)) (hn:cs.size=256) :
 (execOp a.eval o).run Tryz.prog w=.ok (.value (.agg cs)) w:=by
 unfold execOp
 simp only[ho,hx,Instr.loadAt,Instr.sureAddr,Sem.run_bind,Sem.run_pure,Result.andThen_ok,run_loadVar_row w g t 130 cs fr _ hg Tryz.underlying130 rfl (by rw[hn];kernel_rfl)]
theorem nm{o:Oper}{a:Act}{w:World}(x:Operand)(ho:o.op=.load 54 x)
 (g:Nat) (hx:a.eval x=.pointer (some ⟨g,0,none⟩)) (v:Value) (hg:w.heap[g]?=some (.cells #[v] 54 (0,0))) :
 (execOp a.eval o).run Tryz.prog w=.ok (.value v) w:=by
 have hc:=cell_of_one hg
 unfold execOp
 simp only[ho,hx]
 go_simp
theorem np{w:World}{g:Nat}{v:Value}(hg:w.heap[g]?=some (.cells #[v] 54 (0,0))):(loadVar 54 ⟨g,0,none⟩).run Tryz.prog w=.ok v w:=by
 have hc:=cell_of_one hg
 go_simp
theorem iX{W:World}{B B' e size n:Nat}{v:Value}{xs:List Value}(h:B'<=B)(g:W.ownsRow B e size v n xs):W.ownsRow B' e size v n xs :=
 ⟨g.1,g.2.imp id fun⟨b,cap,cur,e,hb,r⟩=>⟨b,cap,cur,e,Nat.le_trans h hb,r⟩⟩
theorem lQ{o:Oper}{a:Act}{w:World}{K:Act->World->Prop}{Q:Exit->Act->World->Prop}(x y:Operand)(ho:o.op=.store 54 x y)
 (g:Nat) (v:Value) (hx:a.eval x=.pointer (some ⟨g,0,none⟩)) (hy:a.eval y=v) (hg:w.heap[g]?=some (.cells #[v] 54 (0,0))) (h1:v.oneCell'=true)
 (h:K (a.put o.dst undef) w):o.wp Tryz.prog a w K Q:=by
 unfold Oper.wp execOp
 simp only[ho,hx,hy,Instr.storeAt,Instr.sureAddr,Sem.run_bind,Sem.run_pure,Result.andThen_ok,run_storeVar_one (P:=Tryz.prog) w g 54 54 v v hg (by kernel_rfl) h1]
 rw[jS hg]
 exact h
def WalkP(B:Nat)(s:GG.St)(e:Ending)(W W':World):Prop :=
 ∃(cs:Array Value) (bv:Value),e=.returned (.tuple #[.agg cs,bv])/\cs.size=256/\(∀i,i<256->cs[i]?=some (.bool (s.1 i)))/\W'.ownsRow B 3 1 bv s.2.length (ao (s.2.map Int.ofNat))/\B<=W'.heap.size/\Below B W W'
set_option maxRecDepth 100000 in
set_option maxHeartbeats 1600000 in
theorem iY{v:Value}{to:List (List Int)}(u:Value)(l:List Int)(W:World)(hr:GG.am to=true)(hv:az W.heap.size W v to)(hu:Row W.heap.size W u l)(hll:l.length<=17592186044416)(hl:∀x∈l,0<=x/\x<to.length) :
 Calls Tryz.prog 117 #[v,u] W fun e W'=>WalkP W.heap.size (GG.runG (GG.an to) (l.map Int.toNat)) e W W':=by
 obtain⟨ua,uc,rfl⟩:=hu.form
 obtain⟨vb,vo,vc,rfl⟩:=hv.addr (by have:=GG.aB hr;omega)
 have hz:=fun(w:World)=>dj w
 have hmf:∀(fn:Fn) (first cap:Array Value) (w:World),(Instr.makeFunc fn first cap).run Tryz.prog w=.ok (.func fn first cap) w:=fun _ _ _ _=>rfl
 have HU:=zH hu
 have HV:=zH hv
 have HL:=zH hl
 have HLN:=zH (fun q=>oK hr hl q)
 have HALL:=zH (fun q (hq:l.length<=q)=>oJ (GG.an to) hq)
 have HNW:=zH (vst_new W (.slice (some ⟨vb,vo,none⟩) to.length vc))
 have HR:=zH hr
 clear hu hv hl hr
 go_enter Tryz.func117,Tryz.ntmps117
 go_wp2_with fail
 go_loopw [12] (fun k wr=>∃q:Nat,q<=l.length/\k=.int .i64 (q:Int)/\VSt W.heap.size W (.slice (some ⟨vb,vo,none⟩) to.length vc) (runT (GG.an to) l q) wr) (fun k _=>l.length-(intOf k).toNat)
 case atStart=>exact⟨0,Nat.zero_le _,rfl,by rw[runT_zero];exact HNW.out⟩
 case round =>
  obtain⟨q,hq,rfl,hS⟩:=hrel
  have HS:=zH hS
  clear hS
  by_cases hqt:q<l.length
  ·have hcv:wr.cell? ⟨W.heap.size+1+1+1,0,none⟩=_:=cell_of_one HS.out.vis
   obtain⟨xb,xo,rfl,hx⟩:=(HU.out.below HS.out.below).cellAt hqt
   have i1:(0:Int)<=q/\(q:Int)<l.length:=by omega
   have HX:=zH (HL.out _ (GG.bB (d:=0) hqt))
   have HST:=zH (runT_succ (GG.an to) hqt)
   obtain⟨x,ex⟩:∃x,x=l[q]?.getD 0:=⟨_,rfl⟩
   rw[<-ex] at hx HX HST
   clear ex
   obtain⟨y,rfl⟩:∃y:Nat,x=(y:Int):=⟨x.toNat,by have:=HX.out;omega⟩
   have HY:=zH (show y<to.length by have:=HX.out;omega)
   go_wp2_with (go_at_call 166;refine(visit_any rfl HR.out HV.out 257 y _ _ HY.out (by have:=GG.iB to.length (runT (GG.an to) l q).1;have:=GG.aB HR.out;omega) (HLN.out q) HS.out).mono ?_;rintro e w' ⟨rfl,hP'⟩;have HP':=zH hP';clear hP')
   go_roundw
   case rel=>exact⟨q+1,by omega,by go_num,by rw[HST.out,Int.toNat_natCast];exact HP'.out⟩
   case measure=>simp [intOf];omega
  ·have HE:=zH (HALL.out q (by omega))
   obtain⟨cs,hcs,hcn,hci⟩:=HS.out.been
   obtain⟨bv,hbb,hbr⟩:=HS.out.beh
   have HCS:=zH hcs
   have HCI:=zH hci
   have HBB:=zH hbb
   have HBR:=zH hbr
   have HONE:=zH (show cs.all (·.oneCell')=true by
    rw[Array.all_eq_true]
    intro i hi
    have:=HCI.out i (by omega)
    rw[Array.getElem?_eq_getElem hi] at this
    rw[Option.some.inj this];rfl)
   clear hcs hci hbb hbr
   have hcb:wr.cell? ⟨W.heap.size+1+1,0,none⟩=some bv:=cell_of_one HBB.out
   have hfb:wr.frozen? ⟨W.heap.size+1+1,0,none⟩=false:=free_of_one HBB.out
   have HCN:=zH hcn
   clear hcn hz hmf
   obtain⟨ba,bc,rfl⟩:=GG.ap HBR.out
   go_wp2_with fail
   refine wp_region_held_drew (S:=fun V=>V.Alike wr) (by kernel_rfl) ⟨rfl,rfl,rfl⟩ (fun hHeld=>?_)
   refine wpAnyH_take (i:=0) (v:=.agg cs) rfl (by kernel_rfl) (by kernel_rfl) (by kernel_rfl) (fun _ _ _ h=>h) (Or.inl ⟨by rfl,fun V hV=>?_⟩) hHeld ?_
   ·exact nk (.tmp 4) rfl (W.heap.size+1) rfl 130 cs (0,0) ((congrArg (·[W.heap.size+1]?) hV.1).trans HCS.out) HCN.out
   try simp only[zA,zB,zC,Act.put,zD,zE,zF]
   refine wpAnyH_take (i:=1) (v:=.slice ba (runT (GG.an to) l q).2.length bc) rfl (by kernel_rfl) (by kernel_rfl) (by kernel_rfl) (fun _ _ _ h=>h) (Or.inl ⟨by rfl,fun V hV=>?_⟩) hHeld ?_
   ·exact nm (.tmp 5) rfl (W.heap.size+1+1) rfl _ ((congrArg (·[W.heap.size+1+1]?) hV.1).trans HBB.out)
   try simp only[zA,zB,zC,Act.put,zD,zE,zF]
   refine wpAnyH_ready (rs:=[2]) (by kernel_rfl) (by simp) ?_
   refine AllReadyH.cons rfl (fun K hK=>?_) AllReadyH.nil
   try simp only[zA,zB,zC]
   rw[if_pos (by rfl)]
   refine wp_store_row 130 (.tmp 4) (.tmp 20) rfl (W.heap.size+1) cs rfl rfl 130 cs HCS.out (by rw[HCN.out];kernel_rfl) rfl HONE.out ?_
   rw[jS (w:=wr.drew) HCS.out]
   refine hK.out _ _ hHeld (fun hHeld=>?_)
   clear hK K
   try simp only[zA,zB,zC,Act.put,zD,zE,zF]
   refine wpAnyH_ready (rs:=[3]) (by kernel_rfl) (by simp) ?_
   refine AllReadyH.cons rfl (fun K hK=>?_) AllReadyH.nil
   try simp only[zA,zB,zC]
   rw[if_pos (by rfl)]
   refine lQ (.tmp 5) (.tmp 21) rfl (W.heap.size+1+1) _ rfl rfl HBB.out rfl ?_
   refine hK.out _ _ hHeld (fun hHeld=>?_)
   clear hK K
   try simp only[zA,zB,zC,Act.put,zD,zE,zF]
   refine wpAnyH_done (by kernel_rfl) ?_ _
   go_wp2_with fail
   have HCS':=zH (show wr.drew.heap[W.heap.size+1]?=_ from HCS.out)
   refine bodyPost_ret (v:=.tuple #[.agg cs,.slice ba (runT (GG.an to) l q).2.length bc]) ?_ rfl ?_
   ·have h1:=run_loadVar_row (P:=Tryz.prog) wr.drew (W.heap.size+1) 130 130 cs (0,0) _ HCS.out Tryz.underlying130 rfl (by rw[HCN.out];kernel_rfl)
    simp only[results,Tryz.results117]
    have h2:(loadVar 54 ⟨W.heap.size+1+1,0,none⟩).run Tryz.prog wr.drew=.ok (.slice ba (runT (GG.an to) l q).2.length bc) wr.drew:=np (w:=wr.drew) HBB.out
    simp [asAddr,h1,h2]
   ·exact⟨cs,_,rfl,HCN.out,by rw[<-HE.out];exact HCI.out,by rw[<-HE.out];exact iX (by omega) HBR.out,HS.out.below.size,HS.out.below.drew⟩
end
section
open Go.RowKit
theorem Tryz.infoGBool:(Tryz.prog.info? 4).map (fun i=>(i.zero,i.size,i.bytes))=some (some (.bool false),1,1):=by kernel_rfl
theorem cn(w:World)(old cs:Array Value)(t:TypeId):(w.alloc (.cells old t)).setRow w.heap.size cs=w.alloc (.cells cs t):=by
 have e:((w.alloc (.cells old t)).setRow w.heap.size cs).heap=(w.alloc (.cells cs t)).heap:=by
  apply Array.ext_getElem?
  intro k
  by_cases h:k=w.heap.size
  ·subst h
   rw[setRow_heap _ _ old cs t (0,0) (heap_alloc_new _ _),heap_alloc_new]
  ·simp only[World.setRow,Array.getElem?_modify]
   rw[if_neg (fun e=>h e.symm)]
   by_cases h2:k<w.heap.size
   ·rw[heap_alloc_old _ _ h2,heap_alloc_old _ _ h2]
   ·rw[Array.getElem?_eq_none (by simp;omega),Array.getElem?_eq_none (by simp;omega)]
 exact kC (w':=(w.alloc (.cells old t)).setRow w.heap.size cs) (w.alloc (.cells cs t)) rfl e
theorem oL(W:World)(cs:Array Value)(B:Nat->Bool)(hn:cs.size=256)(hc:∀i,i<256->cs[i]?=some (.bool (B i))):dB (W.alloc (.cells cs 130)) W.heap.size B :=
 ⟨cs,heap_alloc_new W _,hn,hc⟩
theorem nr{cs:Array Value}{B:Nat->Bool}(hn:cs.size=256)(hc:∀i,i<256->cs[i]?=some (.bool (B i))):cs.all (·.oneCell')=true:=by
 rw[Array.all_eq_true]
 intro i hi
 have:=hc i (by omega)
 rw[Array.getElem?_eq_getElem hi] at this
 rw[Option.some.inj this];rfl
theorem slice46(n:Nat)(hn:n<=256)(g:Nat)(w:World):(Instr.sliceAt 130 (.pointer (some ⟨g,0,none⟩)) none (some (.int .i64 n)) none).run Tryz.prog w=.ok (.slice (some ⟨g,0,none⟩) n 256) w:=by
 have el:Tryz.prog.arrayLen 130=256:=by kernel_rfl
 have ee:Tryz.prog.elem 130=4:=by kernel_rfl
 have hs:(sizeOf 4).run Tryz.prog w=.ok 1 w:=by kernel_rfl
 have h:=run_sliceAt_array_h (P:=Tryz.prog) w 130 ⟨g,0,none⟩ (by kernel_rfl) .i64 (n:Int) (by omega) (by rw[el];omega)
 rw[h,ee,hs,el]
 simp [slicedAt,Addr.add]
theorem az.on{n:Nat}{W W':World}{v:Value}{to:List (List Int)}(h:az n W v to)(hb:Below n W W')(hn:n<=W'.heap.size):az W'.heap.size W' v to:=(h.below hb).mono hn
theorem ns(W:World)(x:Int)(t:TypeId):Row (W.alloc (.cells #[.int .i64 x] t)).heap.size (W.alloc (.cells #[.int .i64 x] t)) (.slice (some ⟨W.heap.size,0,none⟩) 1 1) [x] :=
 .inr ⟨W.heap.size,0,1,rfl,by simp,by simp [ao],fun j u hj=>by
  have:=GG.aW W (.int .i64 x) t j u hj
  rwa [Addr.add_lit] at this⟩
def cR(n:Nat)(B:Nat->Bool):List Bool:=(List.range n).map B
theorem cD(n:Nat)(B:Nat->Bool):(cR n B).length=n:=by simp [cR]
theorem mb{n:Nat}{B:Nat->Bool}{i:Nat}(h:i<n):(cR n B)[i]?=some (B i):=by simp [cR,List.getElem?_map,List.getElem?_range h]
theorem nt{n:Nat}{B:Nat->Bool}{j:Nat}{u:Value}(h:(bJ (cR n B))[j]?=some u):j<n/\u=.bool (B j):=by
 have hj:j<n:=by
  have:=(List.getElem?_eq_some_iff.1 h).1
  rw[eh,cD] at this;exact this
 unfold bJ at h
 rw[List.getElem?_map,mb hj] at h
 exact⟨hj,(Option.some.inj h).symm⟩
theorem lR(xs:List Bool):∀u∈bJ xs,u.oneCell'=true:=by
 intro u hu
 obtain⟨q,_,rfl⟩:=List.mem_map.1 hu
 rfl
def cZ(to:List (List Int))(i:Int):List Bool:=if GG.am to=true/\GG.inB to.length i=true then cR to.length (GG.reachB to (-1) i.toNat) else []
def OwnBools(B:Nat)(l:List Bool)(e:Ending)(W W':World):Prop:=∃v,e=.returned v/\W'.ownsRow B 4 1 v l.length (bJ l)/\Below B W W'
set_option maxRecDepth 100000 in
set_option maxHeartbeats 3200000 in
theorem jT{v:Value}{to:List (List Int)}(i:Int)(W:World)(hv:az W.heap.size W v to)(hx:cd to) :
 Calls Tryz.prog 73 #[v,.int .i64 i] W fun e W'=>OwnBools W.heap.size (cZ to i) e W W':=by
 have hx0:=hx.1
 have HV:=zH hv
 have HX:=zH hx
 obtain⟨va,vc,rfl⟩:=hv.form
 clear hv hx
 cases hr:GG.am to
 ·have HR:=zH hr
  have HE:=zH (show cZ to i=[] by unfold cZ;rw[if_neg (by rw[hr];simp)])
  clear hr
  go_enter Tryz.func73,Tryz.ntmps73
  go_wp2_with (go_at_call 35;refine(aG _ to _ HV.out HX.out).mono ?_;rintro e w' ⟨rfl,hB⟩;have HB:=zH hB;clear hB;rw[HR.out])
  go_ret
  exact⟨_,rfl,by rw[HE.out];exact World.ownsRow_nil _ _ _ _,HB.out⟩
 ·cases hi:GG.inB to.length i
  ·have HR:=zH hr
   have HI:=zH hi
   have HE:=zH (show cZ to i=[] by unfold cZ;rw[if_neg (by rw[hi];simp)])
   clear hr hi
   go_enter Tryz.func73,Tryz.ntmps73
   go_wp2_with (first
    | (go_at_call 35;refine(aG _ to _ HV.out HX.out).mono ?_;rintro e w' ⟨rfl,hB⟩;have HB:=zH hB;clear hB;rw[HR.out])
    | (go_at_call 61;refine(gm _ to.length _ _ ⟨_,_,rfl⟩ hx0).mono ?_;rintro e w' ⟨rfl,rfl⟩;rw[HI.out]))
   go_ret
   exact⟨_,rfl,by rw[HE.out];exact World.ownsRow_nil _ _ _ _,HB.out⟩
  ·have hin:=of_decide_eq_true hi
   have HR:=zH hr
   have HI:=zH hi
   have hlen:=GG.aB hr
   obtain⟨k,rfl⟩:∃k:Nat,i=(k:Int):=⟨i.toNat,by omega⟩
   have HE:=zH (show cZ to k=cR to.length (GG.runG (GG.an to) [k]).1 by
    unfold cZ
    rw[if_pos ⟨hr,hi⟩,Int.toNat_natCast]
    have e:∀x,GG.reachB to (-1) k x=(GG.runG (GG.an to) [k]).1 x:=fun x=>by unfold GG.reachB;rw[GG.dS _ _ (by decide)]
    unfold cR
    exact List.map_congr_left fun x _=>e x)
   have hz:=fun(w:World)=>dj w
   have HIN:=zH hin
   have hs46:=slice46 to.length hlen.2
   obtain⟨b0,hb0,hy0,hy1,hy2⟩:=info_parts Tryz.infoGBool
   clear hr hi hin
   go_enter Tryz.func73,Tryz.ntmps73
   go_wp2_with (first
    | (go_at_call 35;refine(aG _ to _ HV.out HX.out).mono ?_;rintro e w' ⟨rfl,hB⟩;have HB:=zH hB;clear hB;rw[HR.out])
    | (go_at_call 61;refine(gm _ to.length _ _ ⟨_,_,rfl⟩ hx0).mono ?_;rintro e w' ⟨rfl,rfl⟩;rw[HI.out])
    | (go_at_call 117
       refine(iY (to:=to) _ [(k:Int)] _ HR.out (HV.out.on (HB.out.alloc HB.out.size _) (by have:=HB.out.size;simp;omega)) (ns _ _ _) (by simp) (by intro x hx;rw[List.mem_singleton.1 hx];exact HIN.out)).mono ?_
       rintro e w' ⟨cs,bv,rfl,hn,hc,ho,hs,hB2⟩
       have HCN:=zH hn
       have HCI:=zH hc
       have HB2:=zH (bstep (HB.out.alloc HB.out.size _) hB2)
       have HF:=zH (oL w' cs _ hn hc)
       have HONE:=zH (nr hn hc)
       clear hn hc ho hs hB2)
    | (refine wpList_store_row rfl 130 (.tmp 5) (.tmp 21) rfl _ cs rfl rfl 130 falses (heap_alloc_new _ _) (by rw[HCN.out];kernel_rfl) (by rw[HCN.out];simp [falses]) HONE.out ?_
       rw[cn])
    | (at_builtin
       refine GG.wpList_append_any rfl _ _ 38 rfl W.heap.size 4 b0 (.bool false) 1 1 Tryz.underlying38 hb0 hy0 hy1 hy2 rfl (by decide) (.slice none 0 0) 0 [] rfl (World.ownsRow_nil _ _ _ _) _ to.length (bJ (cR to.length (GG.runG (GG.an to) [k]).1)) rfl (by rw[eh,cD,Nat.mul_one]) (.inr ⟨_,_,rfl,fun j u hj=>by obtain⟨hj1,rfl⟩:=nt hj;rw[Addr.add_lit,Nat.zero_add];exact HF.out.cell (by omega)⟩) (lR _) (by unfold maxLen;omega) (by omega) (by have:=HB2.out.size;simp;omega) ?_
       intro v1 w1 ho hg
       rw[Nat.zero_add,List.nil_append] at ho
       have HO:=zH ho
       have HG:=zH ((HB2.out.alloc HB2.out.size _).grown hg (by have:=HB2.out.size;simp;omega) (fun j e=>by simp [Value.ownBlock] at e))
       clear ho hg))
   go_ret
   exact⟨_,rfl,by rw[HE.out,cD];exact HO.out,HG.out⟩
end
section
open Go.RowKit
def foundN(x:Int):Int:=if 0<=x then x else 0
def foundB(x:Int):Bool:=decide (0<=x)
def fH(x:Int):Ending:=.returned (.tuple #[.int .i64 (foundN x),.bool (foundB x)])
theorem fI(k:Nat):fH (k:Int)=.returned (.tuple #[.int .i64 (k:Int),.bool true]):=by
 unfold fH foundN foundB;rw[if_pos (by omega),decide_eq_true (by omega)]
theorem cE:fH (-1)=.returned (.tuple #[.int .i64 0,.bool false]):=by
 unfold fH foundN foundB;rw[if_neg (by omega),decide_eq_false (by omega)]
set_option maxRecDepth 100000 in
set_option maxHeartbeats 800000 in
theorem mc(cs:Array Value)(B:Nat->Bool)(n:Nat)(W:World)(hn:cs.size=256)(hc:∀i,i<256->cs[i]?=some (.bool (B i)))(h:n<=256) :
 Calls Tryz.prog 181 #[.agg cs,.int .i64 n] W fun e W'=>e=fH (GG.cz n (fun x=>!B x))/\Below W.heap.size W W':=by
 have HF:=zH (oL W cs B hn hc)
 clear hn hc
 go_enter Tryz.func181,Tryz.ntmps181
 go_wp2_with fail
 go_loop [8] (fun k=>∃i:Nat,i<=n/\k=.int .i64 (i:Int)/\RowKit.Hid (∀j,j<i->(fun x=>!B x) j=false)) (fun k=>n-(intOf k).toNat)
 case atStart=>exact⟨0,Nat.zero_le _,rfl,zH (fun j hj=>absurd hj (Nat.not_lt_zero _))⟩
 case round =>
  obtain⟨i,hi,rfl,HN⟩:=hrel
  by_cases hlt:i<n
  ·have hc:=HF.out.cell (show i<256 by omega)
   have i1:(0:Int)<=i/\(i:Int)<256:=by omega
   cases hb:B i
   ·rw[hb] at hc
    have HS:=zH (GG.ed (p:=fun x=>!B x) hlt (by show (!B i)=true;rw[hb];rfl) HN.out)
    clear hb
    go_wp2_with fail
    go_ret2
    exact⟨by rw[HS.out];exact(fI i).symm,(Below.refl _ _).alloc (Nat.le_refl _) _⟩
   ·rw[hb] at hc
    have HS:=zH (show ∀j,j<i+1->(fun x=>!B x) j=false from fun j hj=>(Nat.lt_succ_iff_lt_or_eq.1 hj).elim (HN.out j) (fun e=>by rw[e];show (!B i)=false;rw[hb];rfl))
    clear hb
    go_wp2_with fail
    go_round
    case rel=>exact⟨i+1,by omega,by go_num,HS⟩
    case measure=>simp [intOf];omega
  ·have HS:=zH (GG.eN (n:=n) (p:=fun x=>!B x) (fun j hj=>HN.out j (by omega)))
   go_wp2_with fail
   go_ret2
   exact⟨by rw[HS.out];exact cE.symm,(Below.refl _ _).alloc (Nat.le_refl _) _⟩
def gg(to:List (List Int)):Int:=if GG.am to=true then GG.cz to.length (fun x=>!GG.reachB to (-1) 0 x) else -1
def iC(to:List (List Int)):Int:=if GG.am to=true then GG.cz to.length (fun x=>!GG.endsB to x) else -1
set_option maxRecDepth 100000 in
set_option maxHeartbeats 3200000 in
theorem gq{v:Value}{to:List (List Int)}(W:World)(hv:az W.heap.size W v to)(hx:cd to) :
 Calls Tryz.prog 138 #[v] W fun e W'=>e=fH (gg to)/\Below W.heap.size W W':=by
 have hx0:=hx.1
 have HV:=zH hv
 have HX:=zH hx
 obtain⟨va,vc,rfl⟩:=hv.form
 clear hv hx
 cases hr:GG.am to
 ·have HR:=zH hr
  have HE:=zH (show gg to = -1 by unfold gg;rw[if_neg (by rw[hr];simp)])
  clear hr
  go_enter Tryz.func138,Tryz.ntmps138
  go_wp2_with (go_at_call 35;refine(aG _ to _ HV.out HX.out).mono ?_;rintro e w' ⟨rfl,hB⟩;have HB:=zH hB;clear hB;rw[HR.out])
  go_ret2
  exact⟨by rw[HE.out];exact cE.symm,HB.out⟩
 ·have HR:=zH hr
  have hlen:=GG.aB hr
  have HE:=zH (show gg to=GG.cz to.length (fun x=>!(GG.runG (GG.an to) [0]).1 x) by
   unfold gg
   rw[if_pos hr]
   exact GG.iW fun x _=>by unfold GG.reachB;rw[GG.dS _ _ (by decide)])
  have hz:=fun(w:World)=>dj w
  clear hr
  go_enter Tryz.func138,Tryz.ntmps138
  go_wp2_with (first
   | (go_at_call 35;refine(aG _ to _ HV.out HX.out).mono ?_;rintro e w' ⟨rfl,hB⟩;have HB:=zH hB;clear hB;rw[HR.out])
   | (go_at_call 117
      refine(iY (to:=to) _ [0] _ HR.out (HV.out.on (HB.out.alloc HB.out.size _) (by have:=HB.out.size;simp;omega)) (ns _ _ _) (by simp) (by intro x hx;rw[List.mem_singleton.1 hx];omega)).mono ?_
      rintro e w' ⟨cs,bv,rfl,hn,hc,ho,hs,hB2⟩
      have HCN:=zH hn
      have HCI:=zH hc
      have HB2:=zH (bstep (HB.out.alloc HB.out.size _) hB2)
      have HONE:=zH (nr hn hc)
      have hgn:=heap_alloc_new w' (.cells cs 130)
      clear hn hc ho hs hB2)
   | (refine wpList_store_row rfl 130 (.tmp 4) (.tmp 13) rfl _ cs rfl rfl 130 falses (heap_alloc_new _ _) (by rw[HCN.out];kernel_rfl) (by rw[HCN.out];simp [falses]) HONE.out ?_
      rw[cn])
   | (refine wpList_load_row rfl 130 (.tmp 4) rfl _ rfl 130 cs (0,0) _ (heap_alloc_new _ _) Tryz.underlying130 rfl (by rw[HCN.out];kernel_rfl) ?_)
   | (go_at_call 181
      refine(mc cs _ to.length _ HCN.out HCI.out hlen.2).mono ?_
      rintro e w3 ⟨rfl,hB3⟩
      have HB3:=zH (bstep (HB2.out.alloc HB2.out.size _) hB3)
      clear hB3
      unfold fH))
  go_ret2
  exact⟨by rw[HE.out];rfl,HB3.out⟩
end
end Go.Proofs.YtjngffgkllakaaaGreatDoor
namespace Go.Proofs.YtjngffgkllakaaaGreatDoor.GG
open List renaming getElem_toArray → zA, getElem_cons_succ → zB, getElem_cons_zero → zC, setIfInBounds_toArray → zD, set_cons_zero → zE, set_cons_succ → zF
open Lib renaming hid → zH
section
end
end Go.Proofs.YtjngffgkllakaaaGreatDoor.GG
namespace Go.Proofs.YtjngffgkllakaaaGreatDoor
open List renaming getElem_toArray → zA, getElem_cons_succ → zB, getElem_cons_zero → zC, setIfInBounds_toArray → zD, set_cons_zero → zE, set_cons_succ → zF
open Lib renaming hid → zH
section
open Go.RowKit
theorem az.blk{n₀:Nat}{W:World}{b off n cap:Nat}{to:List (List Int)}(h:az n₀ W (.slice (some ⟨b,off,none⟩) n cap) to)(h0:0<to.length):b<n₀:=by
 obtain⟨vs,h1,h2,_⟩:=h
 obtain⟨b',off',cap',e,hb,_⟩:=h1.at (by omega)
 cases e;exact hb
end
end Go.Proofs.YtjngffgkllakaaaGreatDoor
namespace Go.Proofs
open Go.Shelf
def Tryz.lays212_ren:Go.Shelf.Ren:=⟨fun | 212=>183 | 263=>220 | 264=>221 | n=>n,fun | 46=>129 | 51=>176 | 146=>294 | 53=>178 | 148=>296 | n=>n,fun | n=>n⟩
theorem Tryz.lays212:Go.Proofs.Lays.n212 Tryz.prog Tryz.lays212_ren:={
 mixed:=by kernel_rfl
 f212:=Tryz.func183.trans (congrArg some (by kernel_rfl))
 f263:=Tryz.func220.trans (congrArg some (by kernel_rfl))
 f264:=Tryz.func221.trans (congrArg some (by kernel_rfl))
 t46:=Tryz.underlying129
 a46:=Tryz.isAgg129
 z46:=Tryz.sizeOf129
 v46:=Tryz.zeroValue129
 t51:=Tryz.underlying176
 a51:=Tryz.isAgg176
 z51:=Tryz.sizeOf176
 v51:=Tryz.zeroValue176
 t53:=Tryz.underlying178
 a53:=Tryz.isAgg178
 z53:=Tryz.sizeOf178
 v53:=Tryz.zeroValue178
 t146:=Tryz.underlying294
 a146:=Tryz.isAgg294
 z146:=Tryz.sizeOf294
 v146:=Tryz.zeroValue294
 t148:=Tryz.underlying296
 a148:=Tryz.isAgg296
 z148:=Tryz.sizeOf296
 v148:=Tryz.zeroValue296 }
open Go.RowKit Go.Lib in
theorem Tryz.bits_Mul(x y:Nat)(hx:x<18446744073709551616)(hy:y<18446744073709551616)(w:World) :
 Calls Tryz.prog 183 #[.int .u64 x,.int .u64 y] w fun e w'=>e=.returned (.tuple #[.int .u64 ((x*y / 18446744073709551616:Nat):Int),.int .u64 ((x*y % 18446744073709551616:Nat):Int)])/\w'=w:=Any.bits_Mul Tryz.lays212 x y hx hy w
def Tryz.lays108_ren:Go.Shelf.Ren:=⟨fun | 108=>105 | n=>n,fun | 28=>54 | 3=>3 | 0=>0 | 4=>4 | n=>n,fun | n=>n⟩
theorem Tryz.lays108:Go.Proofs.Lays.n108 Tryz.prog Tryz.lays108_ren:={
 mixed:=by kernel_rfl
 f108:=Tryz.func105.trans (congrArg some (by kernel_rfl))
 t0:=Tryz.underlying0
 a0:=Tryz.isAgg0
 z0:=Tryz.sizeOf0
 v0:=Tryz.zeroValue0
 t3:=Tryz.underlying3
 a3:=Tryz.isAgg3
 z3:=Tryz.sizeOf3
 v3:=Tryz.zeroValue3
 t4:=Tryz.underlying4
 a4:=Tryz.isAgg4
 z4:=Tryz.sizeOf4
 v4:=Tryz.zeroValue4
 t28:=Tryz.underlying54
 a28:=Tryz.isAgg54
 z28:=Tryz.sizeOf54
 v28:=Tryz.zeroValue54 }
open Go.Lib in
theorem Tryz.slices_Index_int(b off n c:Nat)(zs:List Int)(x:Int)(w:World)(hz:n<=zs.length)(hbig:n<=9223372036854775807)(hc:∀j,j<zs.length->w.cell? ⟨b,off+j,none⟩=some (.int .i64 (zs.getD j 0))) :
 Calls Tryz.prog 105 #[.slice (some ⟨b,off,none⟩) n c,.int .i64 x] w fun e w'=>e=.returned (.int .i64 (Lib.idxOf (zs.take n) x))/\w'=w:=Any.slices_Index_int Tryz.lays108 b off n c zs x w hz hbig hc
def Tryz.lays107_ren:Go.Shelf.Ren:=⟨fun | 107=>62 | 108=>105 | n=>n,fun | 28=>54 | 3=>3 | 4=>4 | 0=>0 | n=>n,fun | n=>n⟩
theorem Tryz.lays107:Go.Proofs.Lays.n107 Tryz.prog Tryz.lays107_ren:={
 mixed:=by kernel_rfl
 f107:=Tryz.func62.trans (congrArg some (by kernel_rfl))
 f108:=Tryz.func105.trans (congrArg some (by kernel_rfl))
 t0:=Tryz.underlying0
 a0:=Tryz.isAgg0
 z0:=Tryz.sizeOf0
 v0:=Tryz.zeroValue0
 t3:=Tryz.underlying3
 a3:=Tryz.isAgg3
 z3:=Tryz.sizeOf3
 v3:=Tryz.zeroValue3
 t4:=Tryz.underlying4
 a4:=Tryz.isAgg4
 z4:=Tryz.sizeOf4
 v4:=Tryz.zeroValue4
 t28:=Tryz.underlying54
 a28:=Tryz.isAgg54
 z28:=Tryz.sizeOf54
 v28:=Tryz.zeroValue54 }
open Go.Lib in
theorem Tryz.slices_Contains_int(b off n c:Nat)(zs:List Int)(x:Int)(w:World)(hz:n<=zs.length)(hbig:n<=9223372036854775807)(hc:∀j,j<zs.length->w.cell? ⟨b,off+j,none⟩=some (.int .i64 (zs.getD j 0))) :
 Calls Tryz.prog 62 #[.slice (some ⟨b,off,none⟩) n c,.int .i64 x] w fun e w'=>e=.returned (.bool ((zs.take n).contains x))/\w'=w:=Any.slices_Contains_int Tryz.lays107 b off n c zs x w hz hbig hc
open Go.Lib in
theorem Tryz.slices_Contains_int_empty(a:Option Addr)(c:Nat)(x:Int)(w:World) :
 Calls Tryz.prog 62 #[.slice a 0 c,.int .i64 x] w fun e w'=>e=.returned (.bool false)/\w'=w:=Any.slices_Contains_int_empty Tryz.lays107 a c x w
def Tryz.lays112_ren:Go.Shelf.Ren:=⟨fun | 112=>188 | n=>n,fun | 28=>54 | 3=>3 | 4=>4 | 0=>0 | n=>n,fun | n=>n⟩
theorem Tryz.lays112:Go.Proofs.Lays.n112 Tryz.prog Tryz.lays112_ren:={
 mixed:=by kernel_rfl
 f112:=Tryz.func188.trans (congrArg some (by kernel_rfl))
 t0:=Tryz.underlying0
 a0:=Tryz.isAgg0
 z0:=Tryz.sizeOf0
 v0:=Tryz.zeroValue0
 t3:=Tryz.underlying3
 a3:=Tryz.isAgg3
 z3:=Tryz.sizeOf3
 v3:=Tryz.zeroValue3
 t4:=Tryz.underlying4
 a4:=Tryz.isAgg4
 z4:=Tryz.sizeOf4
 v4:=Tryz.zeroValue4
 t28:=Tryz.underlying54
 a28:=Tryz.isAgg54
 z28:=Tryz.sizeOf54
 v28:=Tryz.zeroValue54 }
open Go.RowKit Go.Lib Go.Sort in
theorem Tryz.slices_Reverse_int(blk off cap:Nat)(zs:List Int)(w:World)(hH:Holds (Value.int .i64) w blk off zs.toArray)(hsz:zs.length<=9223372036854775807) :
 Calls Tryz.prog 188 #[.slice (some ⟨blk,off,none⟩) zs.length cap] w fun e w'=>e=.returned (.tuple #[])/\∃n,w'=putRow (Value.int .i64) (Sort.ahead w n) blk off zs.reverse.toArray:=Any.slices_Reverse_int Tryz.lays112 blk off cap zs w hH hsz
def Tryz.lays111_ren:Go.Shelf.Ren:=⟨fun | 111=>149 | n=>n,fun | 28=>54 | 3=>3 | 4=>4 | 0=>0 | n=>n,fun | n=>n⟩
theorem Tryz.lays111:Go.Proofs.Lays.n111 Tryz.prog Tryz.lays111_ren:={
 mixed:=by kernel_rfl
 f111:=Tryz.func149.trans (congrArg some (by kernel_rfl))
 t0:=Tryz.underlying0
 a0:=Tryz.isAgg0
 z0:=Tryz.sizeOf0
 v0:=Tryz.zeroValue0
 t3:=Tryz.underlying3
 a3:=Tryz.isAgg3
 z3:=Tryz.sizeOf3
 v3:=Tryz.zeroValue3
 t4:=Tryz.underlying4
 a4:=Tryz.isAgg4
 z4:=Tryz.sizeOf4
 v4:=Tryz.zeroValue4
 t28:=Tryz.underlying54
 a28:=Tryz.isAgg54
 z28:=Tryz.sizeOf54
 v28:=Tryz.zeroValue54 }
open Go.RowKit Go.Lib in
theorem Tryz.slices_Equal_int(b1 o1 n c b2 o2 m d:Nat)(xs ys:List Int)(w:World)(hx:n<=xs.length)(hy:m<=ys.length)(hbig:n<=9223372036854775807)(hbig2:m<=9223372036854775807)(hc1:∀j,j<xs.length->w.cell? ⟨b1,o1+j,none⟩=some (.int .i64 (xs.getD j 0)))(hc2:∀j,j<ys.length->w.cell? ⟨b2,o2+j,none⟩=some (.int .i64 (ys.getD j 0))) :
 Calls Tryz.prog 149 #[.slice (some ⟨b1,o1,none⟩) n c,.slice (some ⟨b2,o2,none⟩) m d] w fun e w'=>e=.returned (.bool (xs.take n == ys.take m))/\∃q,w'=w.drewN q:=Any.slices_Equal_int Tryz.lays111 b1 o1 n c b2 o2 m d xs ys w hx hy hbig hbig2 hc1 hc2
open Go.RowKit Go.Lib in
theorem Tryz.slices_Equal_int_empty(a1 a2:Option Addr)(c m d:Nat)(w:World)(hbig2:m<=9223372036854775807) :
 Calls Tryz.prog 149 #[.slice a1 0 c,.slice a2 m d] w fun e w'=>e=.returned (.bool (decide (m=0)))/\w'=w:=Any.slices_Equal_int_empty Tryz.lays111 a1 a2 c m d w hbig2
def Tryz.laysNm215_ren:Go.Shelf.Ren:=⟨fun | 15=>147 | n=>n,fun | 22=>54 | 3=>3 | 4=>4 | n=>n,fun | n=>n⟩
theorem Tryz.laysNm215:Go.Proofs.Lays2.n15 Tryz.prog Tryz.laysNm215_ren:={
 mixed:=by kernel_rfl
 f15:=Tryz.func147.trans (congrArg some (by kernel_rfl))
 t3:=Tryz.underlying3
 a3:=Tryz.isAgg3
 z3:=Tryz.sizeOf3
 v3:=Tryz.zeroValue3
 t4:=Tryz.underlying4
 a4:=Tryz.isAgg4
 z4:=Tryz.sizeOf4
 v4:=Tryz.zeroValue4
 t22:=Tryz.underlying54
 a22:=Tryz.isAgg54
 z22:=Tryz.sizeOf54
 v22:=Tryz.zeroValue54
 i3:=by kernel_rfl }
open Go.RowKit Go.Lib in
theorem Tryz.slices_Clone_int(b off n c:Nat)(zs:List Int)(w:World)(hz:n<=zs.length)(hbig:n*8<=140737488355328)(hc:∀j,j<zs.length->w.cell? ⟨b,off+j,none⟩=some (.int .i64 (zs.getD j 0))) :
 Calls Tryz.prog 147 #[.slice (some ⟨b,off,none⟩) n c] w fun e w'=>∃v',e=.returned v'/\w'.ownsRow w.heap.size 3 1 v' n ((zs.take n).map (Value.int .i64))/\v'≠.slice none 0 0/\Below w.heap.size w w':=Any.slices_Clone_int Tryz.laysNm215 b off n c zs w hz hbig hc
def Tryz.laysNm220_ren:Go.Shelf.Ren:=⟨fun | 20=>34 | n=>n,fun | 22=>54 | 3=>3 | 4=>4 | 0=>0 | n=>n,fun | n=>n⟩
theorem Tryz.laysNm220:Go.Proofs.Lays2.n20 Tryz.prog Tryz.laysNm220_ren:={
 mixed:=by kernel_rfl
 f20:=Tryz.func34.trans (congrArg some (by kernel_rfl))
 t0:=Tryz.underlying0
 a0:=Tryz.isAgg0
 z0:=Tryz.sizeOf0
 v0:=Tryz.zeroValue0
 t3:=Tryz.underlying3
 a3:=Tryz.isAgg3
 z3:=Tryz.sizeOf3
 v3:=Tryz.zeroValue3
 t4:=Tryz.underlying4
 a4:=Tryz.isAgg4
 z4:=Tryz.sizeOf4
 v4:=Tryz.zeroValue4
 t22:=Tryz.underlying54
 a22:=Tryz.isAgg54
 z22:=Tryz.sizeOf54
 v22:=Tryz.zeroValue54
 i3:=by kernel_rfl }
open Go.RowKit Go.Lib Go.Sort in
theorem Tryz.slices_Compact_int(blk off cap:Nat)(zs:List Int)(w:World)(hH:Holds (Value.int .i64) w blk off zs.toArray)(hsz:zs.length<=9223372036854775807)(hcap:zs.length<=cap) :
 Calls Tryz.prog 34 #[.slice (some ⟨blk,off,none⟩) zs.length cap] w fun e w'=>e=.returned (.slice (some ⟨blk,off,none⟩) (Lib.compact zs).length cap)/\∃q,w'=putRow (Value.int .i64) (Sort.ahead w q) blk off (Lib.compact zs ++ List.replicate (zs.length-(Lib.compact zs).length) 0).toArray:=Any.slices_Compact_int Tryz.laysNm220 blk off cap zs w hH hsz hcap
open Go.RowKit Go.Lib Go.Sort in
theorem Tryz.slices_Compact_int_empty(a:Option Addr)(cap:Nat)(w:World) :
 Calls Tryz.prog 34 #[.slice a 0 cap] w fun e w'=>e=.returned (.slice a 0 cap)/\w'=w:=Any.slices_Compact_int_empty Tryz.laysNm220 a cap w
end Go.Proofs
namespace Go.Proofs.YtjngffgkllakaaaGreatDoor
open List renaming getElem_toArray → zA, getElem_cons_succ → zB, getElem_cons_zero → zC, setIfInBounds_toArray → zD, set_cons_zero → zE, set_cons_succ → zF
open Lib renaming hid → zH
section
open Go.RowKit
def nu(B:Nat)(l:List Int)(e:Ending)(W W':World):Prop:=∃v,e=.returned v/\Row W'.heap.size W' v l/\Below B W W'
def iD(to:List (List Int)):List Int:=if GG.am to=true then GG.br to else []
theorem run_ne(adj:Nat->List Nat):∃t:GG.St,GG.runG adj [0]=(t.1,t.2 ++ [0]):=by
 unfold GG.runG GG.runF
 obtain⟨t,e⟩:=GG.oD (adj:=adj) (f:=256) (i:=0) (s:=((fun _=>false),[])) rfl
 simp only[List.foldl_cons,List.foldl_nil]
 exact⟨t,e⟩
theorem turned{B n:Nat}{W w:World}{bv:Value}{zs:List Int}(hB:Below B W w)(ho:w.ownsRow B 3 1 bv n (ao zs))(hzn:zs.length=n)(h0:0<n)(hl:n<=17592186044416) :
 ∃g cap,bv=.slice (some ⟨g,0,none⟩) n cap/\Calls Tryz.prog 188 #[.slice (some ⟨g,0,none⟩) n cap] w fun e w'=>e=.returned (.tuple #[])/\Row w'.heap.size w' (.slice (some ⟨g,0,none⟩) n cap) zs.reverse/\Below B W w':=by
 subst hzn
 obtain⟨g,cap,rfl,hb,hg,hn,hm,hzl,hH⟩:=Lib.holds_of_ownsRow (enc:=Value.int .i64) ho (fun e=>by
  rcases ho.2 with⟨_,h1⟩ | ⟨g,cap,cur,e1,_⟩
  ·omega
  ·rw[e] at e1;cases e1)
 refine⟨g,cap,rfl,(Tryz.slices_Reverse_int g 0 cap zs w hH (by omega)).mono ?_⟩
 rintro e w' ⟨rfl,n,rfl⟩
 have h:=Lib.ownsRow_putRow (q:=n) (k:=zs.length) (ys:=zs.reverse) ho (by simp) (Nat.le_refl _)
 rw[List.take_of_length_le (by simp)] at h
 refine⟨rfl,?_,Lib.below_putRow hB hb⟩
 exact aM h
theorem walk_zero{v:Value}{to:List (List Int)}(u:Value)(W:World)(hr:GG.am to=true)(hv:az W.heap.size W v to)(hu:Row W.heap.size W u [0]) :
 Calls Tryz.prog 117 #[v,u] W fun e W'=>WalkP W.heap.size (GG.runG (GG.an to) [0]) e W W':=by
 have h:=iY u [0] W hr hv hu (by simp) (by intro x hx;rw[List.mem_singleton.1 hx];have:=GG.aB hr;omega)
 have hm:List.map Int.toNat [(0:Int)]=[0]:=rfl
 rw[hm] at h
 exact h
set_option maxRecDepth 100000 in
set_option maxHeartbeats 3200000 in
theorem qy{v:Value}{to:List (List Int)}(W:World)(hv:az W.heap.size W v to)(hx:cd to) :
 Calls Tryz.prog 144 #[v] W fun e W'=>nu W.heap.size (iD to) e W W':=by
 have hx0:=hx.1
 have HV:=zH hv
 have HX:=zH hx
 obtain⟨va,vc,rfl⟩:=hv.form
 clear hv hx
 cases hr:GG.am to
 ·have HR:=zH hr
  have HE:=zH (show iD to=[] by unfold iD;rw[if_neg (by rw[hr];simp)])
  clear hr
  go_enter Tryz.func144,Tryz.ntmps144
  go_wp2_with (go_at_call 35;refine(aG _ to _ HV.out HX.out).mono ?_;rintro e w' ⟨rfl,hB⟩;have HB:=zH hB;clear hB;rw[HR.out])
  go_ret
  exact⟨_,rfl,by rw[HE.out];exact aT _ _ _ _ (fun _=>rfl),HB.out⟩
 ·have HR:=zH hr
  have hlen:=GG.aB hr
  have HLN:=zH (show (GG.runG (GG.an to) [0]).2.length<=256 by
   have:=oK hr (l:=[0]) (by intro x hx;rw[List.mem_singleton.1 hx];omega) 1
   rw[oJ _ (by simp)] at this
   simp only[List.map_cons,List.map_nil,Int.toNat_zero] at this
   omega)
  have HNE:=zH (show 0<(GG.runG (GG.an to) [0]).2.length by
   obtain⟨t,e⟩:=run_ne (GG.an to)
   rw[e];simp)
  have HE:=zH (show iD to=((GG.runG (GG.an to) [0]).2.map Int.ofNat).reverse by
   unfold iD GG.br
   rw[if_pos hr,List.map_reverse])
  have hz:=fun(w:World)=>dj w
  have HWK:=zH (fun u W1 h1 h2=>walk_zero (v:=.slice va to.length vc) (to:=to) u W1 hr h1 h2)
  clear hr
  generalize GG.runG (GG.an to) [0]=s at HWK HLN HNE HE
  go_enter Tryz.func144,Tryz.ntmps144
  go_wp2_with (first
   | (go_at_call 35;refine(aG _ to _ HV.out HX.out).mono ?_;rintro e w' ⟨rfl,hB⟩;have HB:=zH hB;clear hB;rw[HR.out])
   | (go_at_call 117
      refine(HWK.out _ _ (HV.out.on (HB.out.alloc HB.out.size _) (by have:=HB.out.size;simp;omega)) (ns _ _ _)).mono ?_
      rintro e w' ⟨cs,bv,rfl,hn,hc,ho,hs,hB2⟩
      have HCN:=zH hn
      have HB2:=zH (bstep (HB.out.alloc HB.out.size _) hB2)
      have HONE:=zH (nr hn hc)
      have HTU:=zH (turned (n:=s.2.length) (zs:=s.2.map Int.ofNat) (HB2.out.alloc HB2.out.size (.cells cs 130)) ((iX (by have:=HB.out.size;simp;omega) ho).alloc _) (by rw[List.length_map]) HNE.out (by have:=HLN.out;omega))
      clear hn hc ho hs hB2
      obtain⟨g,cap,hbv,HRV⟩:=HTU.out
      subst hbv)
   | (refine wpList_store_row rfl 130 (.tmp 3) (.tmp 12) rfl _ cs rfl rfl 130 falses (heap_alloc_new _ _) (by rw[HCN.out];kernel_rfl) (by rw[HCN.out];simp [falses]) HONE.out ?_
      rw[cn])
   | (go_at_call 188;refine HRV.mono ?_;rintro e w3 ⟨rfl,hR3,hB3⟩;have HR3:=zH hR3;have HB3:=zH hB3;clear hR3 hB3))
  go_ret
  exact⟨_,rfl,by rw[HE.out];exact HR3.out,HB3.out⟩
end
section
open Go.RowKit
structure Tab (W0:World) (n:Nat) (rows:Nat->List Int) (vs:Nat->Value) (W:World):Prop where
 tab:W.rowIs W0.heap.size 54 n vs
 own:∀j,j<n->W.ownsRow (W0.heap.size+1) 3 1 (vs j) (rows j).length (ao (rows j))
 apart:∀j k,j<n->k<n->j≠k->(vs j).ownBlock=none∨(vs j).ownBlock≠(vs k).ownBlock
 below:Below W0.heap.size W0 W
 size:W0.heap.size+1<=W.heap.size
def OwnG(W0:World)(n:Nat)(rows:Nat->List Int)(W:World):Prop:=∃vs,Tab W0 n rows vs W
theorem OwnG.congr{W0 W:World}{n:Nat}{rows rows':Nat->List Int}(h:OwnG W0 n rows W)(e:∀j,j<n->rows j=rows' j):OwnG W0 n rows' W:=by
 obtain⟨vs,h1,h2,h3,h4,h5⟩:=h
 exact⟨vs,h1,fun j hj=>by rw[<-e j hj];exact h2 j hj,h3,h4,h5⟩
theorem ownG_new(W:World)(n:Nat):OwnG W n (fun _=>[]) (W.alloc (.cells (madeCells #[.slice none 0 0] n) 54)) :=
 ⟨fun _=>.slice none 0 0,World.rowIs_made W (.slice none 0 0) n 54,fun j _=>World.ownsRow_nil _ _ _ _,fun j k _ _ _=>.inl rfl,(Below.refl _ _).alloc (Nat.le_refl _) _,by simp⟩
theorem OwnG.graph{W0 W:World}{n:Nat}{rows:Nat->List Int}(h:OwnG W0 n rows W):az W.heap.size W (.slice (some ⟨W0.heap.size,0,none⟩) n n) ((List.range n).map rows):=by
 obtain⟨vs,h1,h2,h3,h4,h5⟩:=h
 refine⟨(List.range n).map vs,.inr ⟨W0.heap.size,0,n,by simp,World.rowIs.lt h1,by simp,fun j u hj=>?_⟩,by simp,fun j hj=>?_⟩
 ·have hjn:j<n:=by
   have:=(List.getElem?_eq_some_iff.1 hj).1
   simpa using this
  rw[List.getElem?_map,List.getElem?_range hjn] at hj
  have:=World.rowIs.cell h1 hjn
  rw[Nat.zero_add,this]
  exact hj
 ·have hjn:j<n:=by simpa using hj
  refine⟨vs j,by rw[List.getElem?_map,List.getElem?_range hjn];rfl,?_⟩
  rw[List.getElem?_map,List.getElem?_range hjn]
  exact aM (h2 j hjn)
theorem Tab.app{W0 W w1:World}{n:Nat}{rows:Nat->List Int}{vs:Nat->Value}(h:Tab W0 n rows vs W){j:Nat}(hj:j<n){x:Int}{g cap:Nat}{o:Obj}
 (ho:w1.ownsRow (W0.heap.size+1) 3 1 (.slice (some ⟨g,0,none⟩) ((rows j).length+1) cap) ((rows j).length+1) (ao (rows j) ++ [.int .i64 x])) (hg:(W.alloc o).grownBy w1 (vs j).ownBlock) (hat:(vs j).ownBlock=some g∨g=W.heap.size+1) :
 OwnG W0 n (fun k=>if k=j then rows j ++ [x] else rows k) (w1.setCell ⟨W0.heap.size,j,none⟩ (.slice (some ⟨g,0,none⟩) ((rows j).length+1) cap)) /\
  w1.cell? ⟨W0.heap.size,j,none⟩=some (vs j)/\w1.frozen? ⟨W0.heap.size,j,none⟩=false:=by
 obtain⟨h1,h2,h3,h4,h5⟩:=h
 have hb:∀k,(vs j).ownBlock=some k->W0.heap.size+1<=k/\k<W.heap.size:=fun k e=>(h2 j hj).lt k e
 have hgb:W0.heap.size+1<=g:=by
  rcases hat with e | e
  ·exact(hb g e).1
  ·omega
 have h1':w1.rowIs W0.heap.size 54 n vs:=by
  refine h1.of_block ?_
  rw[hg.block _ (by simp;omega) (fun e=>by have:=(hb _ e.symm).1;omega)]
  exact heap_alloc_old W o (by omega)
 refine⟨⟨fun k=>if k=j then .slice (some ⟨g,0,none⟩) ((rows j).length+1) cap else vs k,World.rowIs.set h1' j _,fun k hk=>?_,fun k l hk hl hkl=>?_,?_,?_⟩,World.rowIs.cell h1' hj,World.rowIs.frozen h1' j⟩
 ·have key:∀ {v:Value} {m:Nat} {xs:List Value},w1.ownsRow (W0.heap.size+1) 3 1 v m xs->(w1.setCell ⟨W0.heap.size,j,none⟩ (.slice (some ⟨g,0,none⟩) ((rows j).length+1) cap)).ownsRow (W0.heap.size+1) 3 1 v m xs:=by
   intro v m xs hv
   refine⟨hv.1,?_⟩
   rcases hv.2 with hn | ⟨g',cap',cur,rfl,hb',hgg,rest⟩
   ·exact .inl hn
   ·exact .inr ⟨g',cap',cur,rfl,hb',by rw[bA _ _ _ _ (by simp;omega)];exact hgg,rest⟩
  by_cases e:k=j
  ·subst e
   simp only[if_true]
   refine key ?_
   have e1:(rows k ++ [x]).length=(rows k).length+1:=by simp
   have e2:ao (rows k ++ [x])=ao (rows k) ++ [.int .i64 x]:=by simp [ao]
   rw[e1,e2];exact ho
  ·simp only[if_neg e]
   exact key (((h2 k hk).alloc o).kept hg (h3 k j hk hj e))
 ·by_cases e:k=j
  ·subst e
   simp only[if_true,if_neg (fun e=>hkl (Eq.symm e))]
   right
   intro e2
   have e2':some g=(vs l).ownBlock:=e2
   rcases hat with e1 | e1
   ·rcases h3 l k hl hk (fun e=>hkl e.symm) with h | h
    ·rw[h] at e2';cases e2'
    ·exact h (e2'.symm.trans e1.symm)
   ·have:=((h2 l hl).lt g e2'.symm).2
    omega
  ·simp only[if_neg e]
   by_cases e3:l=j
   ·subst e3
    simp only[if_true]
    rcases hat with e1 | e1
    ·rcases h3 k l hk hl hkl with h | h
     ·exact .inl h
     ·exact .inr (fun e2=>h (e2.trans e1.symm))
    ·right
     intro e2
     have e2':(vs k).ownBlock=some g:=e2
     have:=((h2 k hk).lt g e2').2
     omega
   ·simp only[if_neg e3]
    exact h3 k l hk hl hkl
 ·exact((h4.alloc (by omega) o).grown hg (by simp;omega) (fun k e=>by have:=(hb k e).1;omega)).setCell (by simp) _
 ·have:=hg.size;simp at this ⊢;omega
theorem qz(to:List (List Int))(j:Nat):GG.bZ to j 0=[]:=by simp [GG.bZ]
theorem jE(to:List (List Int))(j m:Nat):(GG.bZ to j m).length<=m:=by
 unfold GG.bZ
 rw[List.length_map]
 have:=List.length_filter_le (fun k=>GG.leadsB to k (j:Int)) (List.range m)
 simpa using this
def oM(B:Nat)(l:List (List Int))(e:Ending)(W W':World):Prop:=∃v,e=.returned v/\az W'.heap.size W' v l/\Below B W W'
end
end Go.Proofs.YtjngffgkllakaaaGreatDoor
