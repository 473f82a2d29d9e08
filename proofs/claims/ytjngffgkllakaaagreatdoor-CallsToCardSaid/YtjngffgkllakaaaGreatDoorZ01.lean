/- A part of a proof: laws that the last text uses. -/
import Derived.OrdersHeld
import Derived.Test.YtjngffgkllakaaaGreatDoorRows
import Derived.WalkKit
import Derived.WalkSpells
import Derived.WalkLawsBesides
import Derived.Lib.Hide
import Derived.Deep.QuietTactic
import Derived.BigQuiet
import Derived.Deep.OwnRows
import Derived.Deep.LoopGhost
import Derived.StillTailTactics
import Derived.Great.Walk
import Derived.Laws.EntriesVeiled
import Derived.Deep.RegionLaw
import Derived.Deep.RegionHeld3
import Derived.Great.BuildSlice
set_option linter.unusedSimpArgs false
set_option linter.unusedVariables false
namespace Go.Proofs.YtjngffgkllakaaaGreatDoor
open List renaming getElem_toArray → zA, getElem_cons_succ → zB, getElem_cons_zero → zC, setIfInBounds_toArray → zD, set_cons_zero → zE, set_cons_succ → zF
open Lib renaming hid → zH
theorem tkV{P:Program}{ops:Array Oper}{Q:Exit->Act->World->Prop}{md:Region.Mode}{S:World->Prop}(i:Nat){oi:Oper}(v:Value){fuel:Nat}{listed:Array Bool}{a:Act}{w:World}(hi:ops[i]?=some oi)(hy:∀w,S w->(execOp a.eval oi).run P w=.ok (.value v) w)(hS:S w)
 (h:wpAnyH P md ops Q S fuel (listed.setIfInBounds i true) (a.put oi.dst v) w) (hs:Region.noSelect ops=true:=by kernel_rfl) (hf:Region.free md ops listed i=true:=by kernel_rfl) (hr:(Region.ready md ops listed).contains i=true:=by kernel_rfl) (hQ:∀c a w,Q (.panic c) (a.put oi.dst v) w->Q (.panic c) a w:=by exact fun _ _ _ h=>h) (hw:Region.wanted oi (yielded ops a.tmps)=true:=by rfl):wpAnyH P md ops Q S (fuel+1) listed a w :=
 wpAnyH_take hi hs hf hr hQ (Or.inl ⟨hw,hy⟩) hS h
theorem tkU{P:Program}{ops:Array Oper}{Q:Exit->Act->World->Prop}{md:Region.Mode}{S:World->Prop}(i:Nat){oi:Oper}{fuel:Nat}{listed:Array Bool}{a:Act}{w:World}(hi:ops[i]?=some oi)(hS:S w)
 (h:wpAnyH P md ops Q S fuel (listed.setIfInBounds i true) (a.put oi.dst undef) w) (hs:Region.noSelect ops=true:=by kernel_rfl) (hf:Region.free md ops listed i=true:=by kernel_rfl) (hr:(Region.ready md ops listed).contains i=true:=by kernel_rfl) (hQ:∀c a w,Q (.panic c) (a.put oi.dst undef) w->Q (.panic c) a w:=by exact fun _ _ _ h=>h) (hw:Region.wanted oi (yielded ops a.tmps)=false:=by rfl):wpAnyH P md ops Q S (fuel+1) listed a w :=
 wpAnyH_take hi hs hf hr hQ (Or.inr ⟨hw,rfl⟩) hS h
section
open Go.RowKit
theorem bL{k:IntKind}{a b:Int}(h:a=b):Ending.returned (.int k a)=.returned (.int k b):=by rw[h]
theorem af{a b:Bool}(h:a=b):Ending.returned (.bool a)=.returned (.bool b):=by rw[h]
theorem bstep{a w w':World}(h:Below a.heap.size a w)(k:Below w.heap.size w w'):Below a.heap.size a w':=h.trans (k.mono h.size)
theorem wf_u64_bd{a:Int}(h:(Lit.int .u64 a).wf=true):0<=a/\a<=18446744073709551615:=by
 simp only[Lit.wf,Bool.and_eq_true,decide_eq_true_eq] at h;exact h
end
end Go.Proofs.YtjngffgkllakaaaGreatDoor
namespace Go.Proofs.YtjngffgkllakaaaGreatDoor.GG
inductive Reach (adj:Nat->List Nat):Nat->Nat->Prop
 | refl (i:Nat):Reach adj i i
 | step {i j k:Nat} (h:Reach adj i j) (hk:k∈adj j):Reach adj i k
theorem Reach.trans{adj:Nat->List Nat}{i j k:Nat}(h:Reach adj i j)(g:Reach adj j k):Reach adj i k:=by
 induction g with
 | refl=>exact h
 | step _ hk ih=>exact .step ih hk
theorem Reach.one{adj:Nat->List Nat}{i j:Nat}(h:j∈adj i):Reach adj i j:=.step (.refl i) h
theorem Reach.ahead{adj:Nat->List Nat}{i j k:Nat}(h:j∈adj i)(g:Reach adj j k):Reach adj i k:=(Reach.one h).trans g
theorem Reach.closed{adj:Nat->List Nat}{P:Nat->Prop}(hc:∀x,P x->∀j∈adj x,P j){i k:Nat}(h:Reach adj i k)(hi:P i):P k:=by
 induction h with
 | refl=>exact hi
 | step _ hk ih=>exact hc _ ih _ hk
theorem Reach.cases_head{adj:Nat->List Nat}{i k:Nat}(h:Reach adj i k):i=k∨∃j∈adj i,Reach adj j k:=by
 induction h with
 | refl=>exact .inl rfl
 | step _ hk ih =>
   rcases ih with rfl | ⟨j,hj,hr⟩
   ·exact .inr ⟨_,hk,.refl _⟩
   ·exact .inr ⟨j,hj,.step hr hk⟩
theorem Reach.back{adj bak:Nat->List Nat}(hb:∀i j,j∈adj i->i∈bak j){i k:Nat}(h:Reach adj i k):Reach bak k i:=by
 induction h with
 | refl=>exact .refl _
 | step _ hk ih=>exact Reach.ahead (hb _ _ hk) ih
theorem Reach.lt{adj:Nat->List Nat}{n:Nat}(ha:∀x,∀j∈adj x,j<n){i k:Nat}(h:Reach adj i k)(hi:i<n):k<n:=by
 cases h with
 | refl=>exact hi
 | step _ hk=>exact ha _ _ hk
def setB(B:Nat->Bool)(i:Nat):Nat->Bool:=fun x=>if x=i then true else B x
theorem iS(B:Nat->Bool)(i:Nat):setB B i i=true:=by simp [setB]
theorem db(B:Nat->Bool)(i x:Nat):setB B i x=true↔x=i∨B x=true:=by
 unfold setB;by_cases h:x=i <;> simp [h]
abbrev St:=(Nat->Bool) × List Nat
def dfs(adj:Nat->List Nat):Nat->Nat->St->St
 | 0,_,s=>s
 | f+1,i,s =>
   if s.1 i=true then s
   else
    let t:=(adj i).foldl (fun s j=>dfs adj f j s) (setB s.1 i,s.2)
    (t.1,t.2 ++ [i])
def unv(n:Nat)(B:Nat->Bool):Nat:=((List.range n).filter fun x=>!B x).length
theorem ir(n:Nat)(B:Nat->Bool):unv n B<=n:=by
 unfold unv;have:=List.length_filter_le (fun x=>!B x) (List.range n);simpa using this
theorem gF(n:Nat){B C:Nat->Bool}(h:∀x,B x=true->C x=true):unv n C<=unv n B:=by
 unfold unv
 induction n with
 | zero=>simp
 | succ n ih =>
   rw[List.range_succ,List.filter_append,List.filter_append,List.length_append,List.length_append]
   have:(List.filter (fun x=>!C x) [n]).length<=(List.filter (fun x=>!B x) [n]).length:=by
    cases hb:B n
    ·simp [List.filter_cons,hb];split <;> simp
    ·simp [List.filter_cons,hb,h n hb]
   omega
theorem eY(n:Nat){B:Nat->Bool}{i:Nat}(hi:i<n)(hB:B i=false):unv n (setB B i)<unv n B:=by
 unfold unv
 induction n with
 | zero=>omega
 | succ n ih =>
   rw[List.range_succ,List.filter_append,List.filter_append,List.length_append,List.length_append]
   by_cases e:i=n
   ·subst e
    have h1:(List.filter (fun x=>!setB B i x) [i]).length=0:=by simp [List.filter_cons,iS]
    have h2:(List.filter (fun x=>!B x) [i]).length=1:=by simp [List.filter_cons,hB]
    have h3:=gF i (B:=B) (C:=setB B i) (fun x h=>(db _ _ _).2 (.inr h))
    unfold unv at h3
    omega
   ·have:=ih (by omega)
    have h1:(List.filter (fun x=>!setB B i x) [n])=(List.filter (fun x=>!B x) [n]):=by
     have:setB B i n=B n:=by unfold setB;rw[if_neg (fun h=>e h.symm)]
     simp [List.filter_cons,this]
    rw[h1];omega
theorem oM{n:Nat}{B:Nat->Bool}{i:Nat}(hi:i<n)(hB:B i=false):0<unv n B:=Nat.lt_of_le_of_lt (Nat.zero_le _) (eY n hi hB)
structure Walk (adj:Nat->List Nat) (fr:Nat->Prop) (s t:St) (new:List Nat):Prop where
 out:t.2=s.2 ++ new
 been:∀x,t.1 x=true↔s.1 x=true∨x∈new
 fresh:∀x∈new,s.1 x=false
 once:new.Nodup
 from_:∀x∈new,∃i,fr i/\Reach adj i x
 ways:∀p x q,new=p ++ x :: q->∀j∈adj x,j∈s.2∨j∈p∨(Reach adj j x/\t.1 j=true)
theorem Walk.nil(adj:Nat->List Nat)(fr:Nat->Prop)(s:St):Walk adj fr s s [] :=
 ⟨by simp,by simp,by simp,by simp,by simp,fun p x q h=>by simp at h⟩
theorem fx{α:Type}{a b p q:List α}{x:α}(h:a ++ b=p ++ x :: q):(∃q',a=p ++ x :: q')∨∃p',p=a ++ p'/\b=p' ++ x :: q:=by
 rcases List.append_eq_append_iff.1 h with⟨r,h1,h2⟩ | ⟨r,h1,h2⟩
 ·exact .inr ⟨r,h1,h2⟩
 ·cases r with
  | nil=>exact .inr ⟨[],by simpa using h1.symm,by simpa using h2.symm⟩
  | cons y r =>
    simp at h2
    obtain⟨rfl,rfl⟩:=h2
    exact .inl ⟨_,h1⟩
theorem Walk.comp{adj:Nat->List Nat}{fr:Nat->Prop}{s t u:St}{a b:List Nat}(h:Walk adj fr s t a)(g:Walk adj fr t u b):Walk adj fr s u (a ++ b):=by
 refine⟨by rw[g.out,h.out,List.append_assoc],fun x=>by rw[g.been,h.been,List.mem_append,or_assoc],?_,?_,?_,?_⟩
 ·intro x hx
  rcases List.mem_append.1 hx with h1 | h1
  ·exact h.fresh x h1
  ·have:=g.fresh x h1
   cases hs:s.1 x
   ·rfl
   ·rw[(h.been x).2 (.inl hs)] at this;cases this
 ·rw[List.nodup_append]
  refine⟨h.once,g.once,fun x hx y hy e=>?_⟩
  subst e
  have:=g.fresh x hy
  rw[(h.been x).2 (.inr hx)] at this;cases this
 ·intro x hx
  rcases List.mem_append.1 hx with h1 | h1
  ·exact h.from_ x h1
  ·exact g.from_ x h1
 ·intro p x q e j hj
  rcases fx e with⟨q',h1⟩ | ⟨p',rfl,h2⟩
  ·rcases h.ways p x q' h1 j hj with k | k | ⟨k,m⟩
   ·exact .inl k
   ·exact .inr (.inl k)
   ·exact .inr (.inr ⟨k,(g.been j).2 (.inl m)⟩)
  ·rcases g.ways p' x q h2 j hj with k | k | ⟨k,m⟩
   ·rw[h.out] at k
    rcases List.mem_append.1 k with k | k
    ·exact .inl k
    ·exact .inr (.inl (List.mem_append_left _ k))
   ·exact .inr (.inl (List.mem_append_right _ k))
   ·exact .inr (.inr ⟨k,m⟩)
theorem Walk.weak{adj:Nat->List Nat}{fr fr':Nat->Prop}{s t:St}{a:List Nat}(h:Walk adj fr s t a)(hf:∀i,fr i->∃k,fr' k/\Reach adj k i):Walk adj fr' s t a :=
 ⟨h.out,h.been,h.fresh,h.once,fun x hx=>by
  obtain⟨i,hi,hr⟩:=h.from_ x hx
  obtain⟨k,hk,hr'⟩:=hf i hi
  exact⟨k,hk,hr'.trans hr⟩,h.ways⟩
def Gray(adj:Nat->List Nat)(s:St)(i:Nat):Prop:=∀x,s.1 x=true->x ∉ s.2->Reach adj x i
theorem Walk.gray{adj:Nat->List Nat}{fr:Nat->Prop}{s t:St}{a:List Nat}(h:Walk adj fr s t a){x:Nat}(h1:t.1 x=true)(h2:x ∉ t.2):s.1 x=true/\x ∉ s.2:=by
 rw[h.out,List.mem_append] at h2
 rcases (h.been x).1 h1 with h3 | h3
 ·exact⟨h3,fun h4=>h2 (.inl h4)⟩
 ·exact absurd (.inr h3) h2
theorem ni{adj:Nat->List Nat}{n f:Nat}(ih:∀(i:Nat) (s:St),i<n->unv n s.1<f->Gray adj s i->∃new,Walk adj (· = i) s (dfs adj f i s) new/\(dfs adj f i s).1 i=true)
 (fr:Nat->Prop) (l:List Nat):∀(s:St),(∀j∈l,j<n/\∃k,fr k/\Reach adj k j)->unv n s.1<f->(∀j∈l,Gray adj s j) ->
  ∃new,Walk adj fr s (l.foldl (fun s j=>dfs adj f j s) s) new/\∀j∈l,(l.foldl (fun s j=>dfs adj f j s) s).1 j=true:=by
 induction l with
 | nil=>intro s _ _ _;exact⟨[],Walk.nil _ _ _,by simp⟩
 | cons j l ihl =>
   intro s hl hu hg
   obtain⟨new,hw,hj⟩:=ih j s (hl j (by simp)).1 hu (hg j (by simp))
   have hmono:∀x,s.1 x=true->(dfs adj f j s).1 x=true:=fun x h=>(hw.been x).2 (.inl h)
   obtain⟨new',hw',hj'⟩:=ihl (dfs adj f j s) (fun k hk=>hl k (by simp [hk])) (Nat.lt_of_le_of_lt (gF n hmono) hu) (fun k hk x h1 h2=>by
    obtain⟨h3,h4⟩:=hw.gray h1 h2
    exact hg k (by simp [hk]) x h3 h4)
   refine⟨new ++ new',(hw.weak (fun i e=>by subst e;exact(hl i (by simp)).2)).comp hw',fun k hk=>?_⟩
   rcases List.mem_cons.1 hk with rfl | hk
   ·exact(hw'.been k).2 (.inl hj)
   ·exact hj' k hk
theorem dfs_walk{adj:Nat->List Nat}{n:Nat}(ha:∀x,∀j∈adj x,j<n)(f:Nat):∀(i:Nat) (s:St),i<n->unv n s.1<f->Gray adj s i ->
 ∃new,Walk adj (· = i) s (dfs adj f i s) new/\(dfs adj f i s).1 i=true:=by
 induction f with
 | zero=>intro i s _ h;omega
 | succ f ih =>
   intro i s hi hu hg
   unfold dfs
   by_cases hB:s.1 i=true
   ·rw[if_pos hB];exact⟨[],Walk.nil _ _ _,hB⟩
   ·have hB':s.1 i=false:=by simpa using hB
    rw[if_neg hB]
    have hu':=eY n hi hB'
    obtain⟨new,hw,hj⟩:=ni ih (· = i) (adj i) (setB s.1 i,s.2) (fun j hj=>⟨ha i j hj,i,rfl,Reach.one hj⟩) (by show unv n (setB s.1 i)<f;omega) (fun j hj x h1 h2=>by
     rcases (db _ _ _).1 h1 with rfl | h3
     ·exact Reach.one hj
     ·exact(hg x h3 h2).trans (Reach.one hj))
    generalize (adj i).foldl (fun s j=>dfs adj f j s) (setB s.1 i,s.2)=t at hw hj
    have hfi:i ∉ new:=fun h=>by
     have:=hw.fresh i h
     rw[show ((setB s.1 i,s.2):St).1 i=true from iS _ _] at this;cases this
    have hti:t.1 i=true:=(hw.been i).2 (.inl (iS _ _))
    refine⟨new ++ [i],⟨by show t.2 ++ [i]=_;rw[hw.out,List.append_assoc],fun x=>?_,?_,?_,?_,?_⟩,hti⟩
    ·show t.1 x=true↔_
     rw[hw.been,List.mem_append,List.mem_singleton]
     show setB s.1 i x=true∨_↔_
     rw[db]
     constructor
     ·rintro ((h | h) | h)
      ·exact .inr (.inr h)
      ·exact .inl h
      ·exact .inr (.inl h)
     ·rintro (h | h | h)
      ·exact .inl (.inr h)
      ·exact .inr h
      ·exact .inl (.inl h)
    ·intro x hx
     rcases List.mem_append.1 hx with h | h
     ·have:=hw.fresh x h
      cases hs:s.1 x
      ·rfl
      ·rw[show ((setB s.1 i,s.2):St).1 x=true from(db _ _ _).2 (.inr hs)] at this;cases this
     ·rw[List.mem_singleton] at h;subst h;exact hB'
    ·rw[List.nodup_append]
     refine⟨hw.once,by simp,fun x hx y hy e=>?_⟩
     rw[List.mem_singleton] at hy
     subst hy e
     exact hfi hx
    ·intro x hx
     rcases List.mem_append.1 hx with h | h
     ·exact hw.from_ x h
     ·rw[List.mem_singleton] at h;subst h;exact⟨x,rfl,.refl _⟩
    ·intro p x q e j hj'
     rcases fx e with⟨q',h1⟩ | ⟨p',rfl,h2⟩
     ·rcases hw.ways p x q' h1 j hj' with k | k | ⟨k,m⟩
      ·exact .inl k
      ·exact .inr (.inl k)
      ·exact .inr (.inr ⟨k,m⟩)
     ·cases p' with
      | cons y p'=>simp at h2
      | nil =>
        simp at h2
        obtain⟨rfl,rfl⟩:=h2
        have htj:=hj j hj'
        by_cases ho:j∈t.2
        ·rw[hw.out] at ho
         rcases List.mem_append.1 ho with k | k
         ·exact .inl k
         ·exact .inr (.inl (by simpa using k))
        ·obtain⟨h3,h4⟩:=hw.gray htj ho
         rcases (db _ _ _).1 h3 with rfl | h5
         ·exact .inr (.inr ⟨.refl _,htj⟩)
         ·exact .inr (.inr ⟨hg j h5 h4,htj⟩)
def runF(f:Nat)(adj:Nat->List Nat)(l:List Nat):St:=l.foldl (fun s j=>dfs adj f j s) ((fun _=>false),[])
theorem walks{adj:Nat->List Nat}{n:Nat}(ha:∀x,∀j∈adj x,j<n)(l:List Nat)(hl:∀j∈l,j<n){f:Nat}(hf:n<f) :
 ∃new,Walk adj (·∈l) ((fun _=>false),[]) (runF f adj l) new/\∀j∈l,(runF f adj l).1 j=true :=
 ni (dfs_walk ha f) (·∈l) l _ (fun j hj=>⟨hl j hj,j,hj,.refl _⟩) (by have:=ir n (fun _=>false);show unv n (fun _=>false)<f;omega) (fun _ _ x h=>by cases h)
theorem lG{adj:Nat->List Nat}{n:Nat}(ha:∀x,∀j∈adj x,j<n)(l:List Nat)(hl:∀j∈l,j<n){f:Nat}(hf:n<f)(x:Nat) :
 (runF f adj l).1 x=true↔∃i∈l,Reach adj i x:=by
 obtain⟨new,hw,hj⟩:=walks ha l hl hf
 constructor
 ·intro h
  rcases (hw.been x).1 h with h | h
  ·cases h
  ·exact hw.from_ x h
 ·rintro ⟨i,hi,hr⟩
  refine hr.closed (P:=fun x=>(runF f adj l).1 x=true) ?_ (hj i hi)
  intro y hy j hyj
  rcases (hw.been y).1 hy with h | h
  ·cases h
  ·obtain⟨p,q,e⟩:=List.append_of_mem h
   rcases hw.ways p y q e j hyj with k | k | ⟨_,m⟩
   ·cases k
   ·exact(hw.been j).2 (.inr (by rw[e];exact List.mem_append_left _ k))
   ·exact m
theorem pX{adj:Nat->List Nat}{f i:Nat}{s:St}(h:s.1 i=false):∃t:St,dfs adj (f+1) i s=(t.1,t.2 ++ [i]):=by
 unfold dfs
 rw[if_neg (by rw[h];simp)]
 exact⟨_,rfl⟩
def am(to:List (List Int))(i:Nat):List Nat:=(to[i]?.getD []).map Int.toNat
def adjN(to:List (List Int))(no:Int)(i:Nat):List Nat:=(am to i).filter fun j=>decide ((j:Int)≠no)
def inB(n:Nat)(j:Int):Bool:=decide (0<=j/\j<n)
def cp(n:Nat)(row:List Int):Bool:=row.all (inB n) && decide row.Nodup
def al(to:List (List Int)):Bool:=decide (1<=to.length/\to.length<=256) && to.all (cp to.length)
theorem df{n:Nat}{row:List Int}(h:cp n row=true):∀j∈row,0<=j/\j<n:=by
 intro j hj
 unfold cp inB at h
 rw[Bool.and_eq_true,List.all_eq_true] at h
 exact of_decide_eq_true (h.1 j hj)
theorem gG{n:Nat}{row:List Int}(h:cp n row=true):row.Nodup:=by
 unfold cp at h
 rw[Bool.and_eq_true] at h
 exact of_decide_eq_true h.2
theorem row_mk{n:Nat}{row:List Int}(h:∀j∈row,0<=j/\j<n)(g:row.Nodup):cp n row=true:=by
 unfold cp inB
 rw[Bool.and_eq_true,List.all_eq_true]
 exact⟨fun j hj=>decide_eq_true (h j hj),decide_eq_true g⟩
theorem aC{to:List (List Int)}(h:al to=true):1<=to.length/\to.length<=256:=by
 unfold al at h;rw[Bool.and_eq_true] at h;exact of_decide_eq_true h.1
theorem right_row{to:List (List Int)}(h:al to=true):∀row∈to,cp to.length row=true:=by
 unfold al at h;rw[Bool.and_eq_true,List.all_eq_true] at h;exact h.2
theorem bn{α:Type}{l:List α}{i:Nat}{d:α}(h:i<l.length):l[i]?.getD d∈l:=by
 rw[List.getElem?_eq_getElem h];exact List.getElem_mem h
theorem aZ{to:List (List Int)}(h:al to=true){i:Nat}(hi:i<to.length):cp to.length (to[i]?.getD [])=true:=right_row h _ (bn hi)
theorem lH{to:List (List Int)}(h1:1<=to.length)(h2:to.length<=256)(h:∀i,i<to.length->cp to.length (to[i]?.getD [])=true):al to=true:=by
 unfold al
 rw[Bool.and_eq_true,List.all_eq_true]
 refine⟨decide_eq_true ⟨h1,h2⟩,fun row hr=>?_⟩
 obtain⟨i,hi,rfl⟩:=List.getElem_of_mem hr
 have:=h i hi
 rwa [List.getElem?_eq_getElem hi] at this
theorem jH{to:List (List Int)}(h:¬(1<=to.length/\to.length<=256)):al to=false:=by
 unfold al;rw[decide_eq_false h];rfl
theorem pY{to:List (List Int)}{i:Nat}(hi:i<to.length)(h:cp to.length (to[i]?.getD [])=false):al to=false:=by
 cases hr:al to
 ·rfl
 ·rw[aZ hr hi] at h;cases h
theorem pZ{n:Nat}{row:List Int}{k:Nat}(hk:k<row.length)(h:inB n (row[k]?.getD 0)=false):cp n row=false:=by
 cases hr:cp n row
 ·rfl
 ·have:=df hr _ (bn (d:=0) hk)
  unfold inB at h
  exact absurd this (of_decide_eq_false h)
theorem kU{n:Nat}{row:List Int}{j k:Nat}(hj:j<k)(hk:k<row.length)(h:row[j]?.getD 0=row[k]?.getD 0):cp n row=false:=by
 cases hr:cp n row
 ·rfl
 ·have:=gG hr
  rw[List.getElem?_eq_getElem hk,List.getElem?_eq_getElem (show j<row.length by omega)] at h
  have:=(List.getElem_inj (h₀:=show j<row.length by omega) (h₁:=hk) this).1 h
  omega
theorem pigeon(n:Nat):∀(l:List Nat),(∀x∈l,x<n)->l.Nodup->l.length<=n:=by
 induction n with
 | zero=>intro l h _;cases l with
   | nil=>simp
   | cons x l=>exact absurd (h x (by simp)) (by omega)
 | succ n ih =>
   intro l h hn
   have h1:=ih (l.erase n) (fun x hx=>by
    have h2:=h x (List.mem_of_mem_erase hx)
    have h3:x≠n:=fun e=>by subst e;exact(hn.mem_erase_iff.1 hx).1 rfl
    omega) (hn.erase n)
   rw[List.length_erase] at h1
   split at h1 <;> omega
theorem kV{l:List Int}(h:∀j∈l,0<=j)(hn:l.Nodup):(l.map Int.toNat).Nodup:=by
 rw[List.nodup_iff_pairwise_ne] at *
 rw[List.pairwise_map]
 exact hn.imp_of_mem (fun ha hb hab e=>hab (by have:=h _ ha;have:=h _ hb;omega))
theorem dz{n:Nat}{row:List Int}(h:cp n row=true):row.length<=n:=by
 have:=pigeon n (row.map Int.toNat) (fun x hx=>by
  obtain⟨j,hj,rfl⟩:=List.mem_map.1 hx
  have:=df h j hj
  omega) (kV (fun j hj=>(df h j hj).1) (gG h))
 simpa using this
theorem rU{n:Nat}{row:List Int}(hn:n<row.length):cp n row=false:=by
 cases hr:cp n row
 ·rfl
 ·have:=dz hr;omega
theorem gA{to:List (List Int)}(h:al to=true):∀x,∀j∈am to x,j<to.length:=by
 intro x j hj
 unfold am at hj
 obtain⟨y,hy,rfl⟩:=List.mem_map.1 hj
 by_cases hx:x<to.length
 ·have:=df (aZ h hx) y hy
  omega
 ·rw[List.getElem?_eq_none (by omega)] at hy
  cases hy
theorem lA{to:List (List Int)}{no:Int}(h:al to=true):∀x,∀j∈adjN to no x,j<to.length:=fun x j hj=>gA h x j (List.mem_filter.1 hj).1
theorem jI{to:List (List Int)}(h:al to=true){i:Nat}(hi:i<to.length)(j:Nat):j∈am to i↔(j:Int)∈to[i]?.getD []:=by
 unfold am
 rw[List.mem_map]
 constructor
 ·rintro ⟨y,hy,rfl⟩
  have:=df (aZ h hi) y hy
  rwa [Int.toNat_of_nonneg this.1]
 ·intro hj
  exact⟨_,hj,by simp⟩
theorem fH(to:List (List Int))(no:Int)(h:no<0):adjN to no=am to:=by
 funext i
 unfold adjN
 rw[List.filter_eq_self]
 intro j _
 exact decide_eq_true (by omega)
def leadsB(to:List (List Int))(k:Nat)(i:Int):Bool:=decide (i∈to[k]?.getD [])
def cD(to:List (List Int))(i m:Nat):List Int:=((List.range m).filter fun k=>leadsB to k (i:Int)).map Int.ofNat
def bR(to:List (List Int)):List (List Int):=(List.range to.length).map fun i=>cD to i to.length
theorem cg(to:List (List Int)):(bR to).length=to.length:=by simp [bR]
theorem gU{to:List (List Int)}{i:Nat}(hi:i<to.length):(bR to)[i]?.getD []=cD to i to.length:=by
 simp [bR,List.getElem?_map,List.getElem?_range hi]
theorem rV(to:List (List Int))(i m:Nat):cD to i (m+1)=cD to i m ++ (if leadsB to m (i:Int) then [(m:Int)] else []):=by
 unfold cD
 rw[List.range_succ,List.filter_append,List.map_append]
 cases h:leadsB to m (i:Int) <;> simp [h]
theorem eo{to:List (List Int)}{i m:Nat}{x:Int}:x∈cD to i m↔∃k:Nat,x=k/\k<m/\(i:Int)∈to[k]?.getD []:=by
 unfold cD leadsB
 constructor
 ·intro h
  obtain⟨k,hk,rfl⟩:=List.mem_map.1 h
  rw[List.mem_filter,List.mem_range] at hk
  exact⟨k,rfl,hk.1,of_decide_eq_true hk.2⟩
 ·rintro ⟨k,rfl,h1,h2⟩
  exact List.mem_map.2 ⟨k,List.mem_filter.2 ⟨List.mem_range.2 h1,decide_eq_true h2⟩,rfl⟩
theorem kX(to:List (List Int))(i m:Nat):(cD to i m).Nodup:=by
 unfold cD
 rw[List.nodup_iff_pairwise_ne,List.pairwise_map]
 have:=(List.nodup_range (n:=m)).filter (fun k=>leadsB to k (i:Int))
 exact this.imp (fun h e=>h (Int.ofNat.inj e))
theorem oN(to:List (List Int))(i m:Nat):(cD to i m).Pairwise (· < ·):=by
 unfold cD
 rw[List.pairwise_map]
 have:=(List.pairwise_lt_range (n:=m)).filter (fun k=>leadsB to k (i:Int))
 exact this.imp (fun h=>by simpa using h)
theorem gV{to:List (List Int)}(h:al to=true):al (bR to)=true:=by
 have hl:=aC h
 refine lH (by rw[cg];omega) (by rw[cg];omega) fun i hi=>?_
 rw[cg] at hi
 rw[gU hi,cg]
 refine row_mk (fun j hj=>?_) (kX _ _ _)
 obtain⟨k,rfl,hk,_⟩:=eo.1 hj
 omega
theorem qa{to:List (List Int)}(h:al to=true){i j:Nat}(hi:i<to.length)(hj:j<to.length):j∈am (bR to) i↔i∈am to j:=by
 rw[jI (gV h) (by rw[cg];exact hi),gU hi,eo,jI h hj]
 constructor
 ·rintro ⟨k,e,_,hm⟩
  have:j=k:=by omega
  subst this;exact hm
 ·intro hm;exact⟨j,rfl,hj,hm⟩
theorem kx{to:List (List Int)}{i j:Nat}(h:j∈am to i):i<to.length:=by
 apply Classical.byContradiction;intro hn
 unfold am at h
 rw[List.getElem?_eq_none (by omega)] at h
 cases h
theorem back_ways{to:List (List Int)}(h:al to=true)(i j:Nat)(hj:j∈am to i):i∈am (bR to) j :=
 (qa h (gA h i j hj) (kx hj)).2 hj
theorem ways_back{to:List (List Int)}(h:al to=true)(i j:Nat)(hj:j∈am (bR to) i):i∈am to j:=by
 have h1:=kx hj
 rw[cg] at h1
 have h2:=gA (gV h) i j hj
 rw[cg] at h2
 exact(qa h h1 h2).1 hj
def runG(adj:Nat->List Nat)(l:List Nat):St:=runF 257 adj l
def reachB(to:List (List Int))(no:Int)(i x:Nat):Bool:=(runG (adjN to no) [i]).1 x
theorem cw{to:List (List Int)}{no:Int}(h:al to=true){i:Nat}(hi:i<to.length)(x:Nat):reachB to no i x=true↔Reach (adjN to no) i x:=by
 have hl:=aC h
 unfold reachB runG
 rw[lG (lA h) [i] (by simpa using hi) (show to.length<257 by omega)]
 simp
theorem reachB_of{to:List (List Int)}{no:Int}(h:al to=true){i:Nat}(hi:i<to.length){B:Nat->Bool}(h1:B i=true)(h2:∀x,B x=true->Reach (adjN to no) i x)
 (h3:∀x,B x=true->∀j∈adjN to no x,B j=true) (x:Nat):B x=reachB to no i x:=by
 rw[Bool.eq_iff_iff,cw h hi]
 exact⟨h2 x,fun hr=>hr.closed (P:=fun x=>B x=true) h3 h1⟩
def fT(to:List (List Int))(k:Nat):Bool:=(to[k]?.getD []).isEmpty
def bJ(to:List (List Int))(m:Nat):List Nat:=(List.range m).filter (fT to)
def endsB(to:List (List Int))(i:Nat):Bool:=(List.range to.length).any fun k=>reachB to (-1) i k && fT to k
theorem ends_back{to:List (List Int)}(h:al to=true){i:Nat}(hi:i<to.length):(runG (am (bR to)) (bJ to to.length)).1 i=endsB to i:=by
 have hl:=aC h
 rw[Bool.eq_iff_iff]
 unfold runG
 rw[lG (gA (gV h)) (bJ to to.length) (fun j hj=>by
  unfold bJ at hj;rw[List.mem_filter,List.mem_range] at hj;rw[cg];exact hj.1) (show (bR to).length<257 by rw[cg];omega)]
 unfold endsB
 rw[List.any_eq_true]
 constructor
 ·rintro ⟨k,hk,hr⟩
  unfold bJ at hk
  rw[List.mem_filter] at hk
  refine⟨k,hk.1,?_⟩
  rw[Bool.and_eq_true,cw h hi,fH _ _ (by decide)]
  exact⟨hr.back (ways_back h),hk.2⟩
 ·rintro ⟨k,hk,hr⟩
  rw[Bool.and_eq_true,cw h hi,fH _ _ (by decide)] at hr
  exact⟨k,List.mem_filter.2 ⟨hk,hr.2⟩,hr.1.back (back_ways h)⟩
def cE(n:Nat)(p:Nat->Bool):Int:=match (List.range n).find? p with | some k=>(k:Int) | none=>-1
theorem dC{n:Nat}{p:Nat->Bool}{k:Nat}(hk:k<n)(hp:p k=true)(hno:∀j,j<k->p j=false):cE n p=(k:Int):=by
 have e:(List.range n).find? p=some k:=by
  rw[List.find?_eq_some_iff_append]
  refine⟨hp,List.range k,(List.range' (k+1) (n-k-1)),?_,fun j hj=>by rw[hno j (List.mem_range.1 hj)];rfl⟩
  rw[List.range_eq_range',List.range_eq_range',show n=k+(n-k-1+1) by omega,<-List.range'_append_1,List.range'_succ]
  simp
 unfold cE;rw[e]
theorem dI{n:Nat}{p:Nat->Bool}(hno:∀j,j<n->p j=false):cE n p = -1:=by
 have e:(List.range n).find? p=none:=by
  rw[List.find?_eq_none]
  intro j hj h
  rw[hno j (List.mem_range.1 hj)] at h
  cases h
 unfold cE;rw[e]
theorem jJ{n:Nat}{p q:Nat->Bool}(h:∀j,j<n->p j=q j):cE n p=cE n q:=by
 by_cases hx:∃k,k<n/\p k=true/\∀j,j<k->p j=false
 ·obtain⟨k,h1,h2,h3⟩:=hx
  rw[dC h1 h2 h3,dC h1 (by rw[<-h k h1];exact h2) (fun j hj=>by rw[<-h j (by omega)];exact h3 j hj)]
 ·have h4:∀m,m<=n->∀j,j<m->p j=false:=by
   intro m
   induction m with
   | zero=>intro _ j hj;omega
   | succ m ih =>
     intro hm j hj
     by_cases e:j=m
     ·subst e
      cases hp:p j
      ·rfl
      ·exact absurd ⟨j,by omega,hp,ih (by omega)⟩ hx
     ·exact ih (by omega) j (by omega)
  rw[dI (h4 n (Nat.le_refl _)),dI (fun j hj=>by rw[<-h j hj];exact h4 n (Nat.le_refl _) j hj)]
def bT(to:List (List Int)):List Int:=(runG (am to) [0]).2.reverse.map Int.ofNat
theorem sub_len{α:Type}[DecidableEq α]:∀(l m:List α),l.Nodup->(∀x∈l,x∈m)->l.length<=m.length:=by
 intro l
 induction l with
 | nil=>intro m _ _;simp
 | cons x l ih =>
   intro m hn hs
   have hx:=hs x (by simp)
   have h1:=List.length_erase_of_mem hx
   have h2:=List.length_pos_of_mem hx
   have:=ih (m.erase x) (List.nodup_cons.1 hn).2 (fun y hy=>(List.mem_erase_of_ne (fun e=>by subst e;exact(List.nodup_cons.1 hn).1 hy)).2 (hs y (by simp [hy])))
   simp only[List.length_cons]
   omega
theorem same_len{α:Type}[DecidableEq α]{l m:List α}(h1:l.Nodup)(h2:m.Nodup)(h:∀x,x∈l↔x∈m):l.length=m.length :=
 Nat.le_antisymm (sub_len l m h1 fun x hx=>(h x).1 hx) (sub_len m l h2 fun x hx=>(h x).2 hx)
theorem lI{to:List (List Int)}(h:al to=true):∃new t,runG (am to) [0]=(t,new)/\Walk (am to) (· = 0) ((fun _=>false),[]) (t,new) new:=by
 have hl:=aC h
 obtain⟨new,hw,_⟩:=walks (gA h) [0] (by simpa using (show 0<to.length by omega)) (show to.length<257 by omega)
 have hw1:Walk (am to) (·∈[0]) ((fun _=>false),[]) (runG (am to) [0]) new:=hw
 have hf:∀i,(·∈[0]) i->∃k,(· = 0) k/\Reach (am to) k i:=fun i hi=>by
  have e:i=0:=List.mem_singleton.1 hi
  rw[e];exact⟨0,Eq.refl 0,Reach.refl 0⟩
 generalize runG (am to) [0]=r at hw1
 have hw2:=hw1.weak hf
 have e:r.2=new:=by have:=hw2.out;rwa [List.nil_append] at this
 subst e
 exact⟨r.2,r.1,rfl,hw2⟩
theorem qb{to:List (List Int)}{t:Nat->Bool}{new:List Nat}(h:runG (am to) [0]=(t,new)):bT to=new.reverse.map Int.ofNat:=by unfold bT;rw[h]
theorem rW{to:List (List Int)}:∃l:List Int,bT to=0 :: l:=by
 unfold bT runG runF
 obtain⟨t,e⟩:=pX (adj:=am to) (f:=256) (i:=0) (s:=((fun _=>false),[])) rfl
 simp only[List.foldl_cons,List.foldl_nil]
 rw[e]
 simp
theorem gl{to:List (List Int)}(h:al to=true):(bT to).Nodup:=by
 obtain⟨new,t,e,hw⟩:=lI h
 rw[qb e,List.nodup_iff_pairwise_ne,List.pairwise_map]
 rw[List.pairwise_reverse]
 exact hw.once.imp (fun h e=>h (Int.ofNat.inj e).symm)
theorem iT{to:List (List Int)}(h:al to=true)(x:Int):x∈bT to↔0<=x/\x<to.length/\reachB to (-1) 0 x.toNat=true:=by
 have hl:=aC h
 obtain⟨new,t,e,hw⟩:=lI h
 have hb:∀y:Nat,reachB to (-1) 0 y=true↔y∈new:=by
  intro y
  unfold reachB
  rw[fH _ _ (by decide),e]
  show t y=true↔_
  have:=hw.been y
  simpa using this
 rw[qb e,List.mem_map]
 constructor
 ·rintro ⟨y,hy,rfl⟩
  rw[List.mem_reverse] at hy
  have hr:=(hb y).2 hy
  refine⟨Int.natCast_nonneg _,?_,hr⟩
  rw[cw h (show 0<to.length by omega)] at hr
  have:=hr.lt (lA h) (show 0<to.length by omega)
  show (y:Int)<_
  omega
 ·rintro ⟨h1,h2,h3⟩
  refine⟨x.toNat,by rw[List.mem_reverse];exact(hb _).1 h3,by show ((x.toNat:Nat):Int)=x;omega⟩
def atI(l:List Int)(m:Nat)(x:Nat):Int:=if (x:Int)∈l.take m then (l.idxOf (x:Int):Int) else -1
theorem atI_zero(l:List Int)(x:Nat):atI l 0 x = -1:=by simp [atI]
theorem atI_succ{l:List Int}(hn:l.Nodup){m:Nat}(hm:m<l.length)(hp:0<=l[m]?.getD 0)(x:Nat):atI l (m+1) x=if x=(l[m]?.getD 0).toNat then (m:Int) else atI l m x:=by
 have em:l[m]?=some l[m]:=List.getElem?_eq_getElem hm
 rw[em] at hp ⊢
 simp only[Option.getD_some] at hp ⊢
 unfold atI
 rw[List.take_succ_eq_append_getElem hm]
 by_cases e:x=(l[m]).toNat
 ·subst e
  rw[if_pos rfl,Int.toNat_of_nonneg hp,if_pos (List.mem_append.2 (.inr (List.mem_singleton.2 rfl))),hn.idxOf_getElem]
 ·rw[if_neg e]
  have:(x:Int)≠l[m]:=fun h=>e (by omega)
  simp only[List.mem_append,List.mem_singleton,this,or_false]
end Go.Proofs.YtjngffgkllakaaaGreatDoor.GG
namespace Go.Proofs.YtjngffgkllakaaaGreatDoor
open List renaming getElem_toArray → zA, getElem_cons_succ → zB, getElem_cons_zero → zC, setIfInBounds_toArray → zD, set_cons_zero → zE, set_cons_succ → zF
open Lib renaming hid → zH
section
open Go.RowKit
def cq(n₀:Nat)(W:World)(v:Value)(vs:List Value):Prop :=
 ((∃a cap,v=.slice a 0 cap/\(a=none->cap=0))/\vs=[])∨∃b off cap,v=.slice (some ⟨b,off,none⟩) vs.length cap/\b<n₀/\vs.length<=cap/\∀j u,vs[j]?=some u->W.cell? ⟨b,off+j,none⟩=some u
theorem cq.below{n₀:Nat}{A B:World}(h:Below n₀ A B){v:Value}{vs:List Value}:cq n₀ A v vs->cq n₀ B v vs
 | .inl e=>.inl e
 | .inr ⟨b,off,cap,e,hb,hl,hc⟩=>.inr ⟨b,off,cap,e,hb,hl,fun j u hj=>(h.cell (p:=⟨b,off+j,none⟩) hb).trans (hc j u hj)⟩
theorem cq.mono{n n':Nat}(h:n<=n'){A:World}{v:Value}{vs:List Value}:cq n A v vs->cq n' A v vs
 | .inl e=>.inl e
 | .inr ⟨b,off,cap,e,hb,hl,hc⟩=>.inr ⟨b,off,cap,e,by omega,hl,hc⟩
theorem cq.form{n₀:Nat}{A:World}{v:Value}{vs:List Value}(h:cq n₀ A v vs):∃a cap,v=.slice a vs.length cap:=by
 rcases h with⟨⟨_,_,rfl,_⟩,rfl⟩ | ⟨b,off,cap,rfl,_⟩
 ·exact⟨_,_,rfl⟩
 ·exact⟨_,_,rfl⟩
theorem cq.drewN{n₀:Nat}{W:World}{v:Value}{vs:List Value}(h:cq n₀ W v vs)(d:Nat):cq n₀ (W.drewN d) v vs :=
 h.below ⟨rfl,rfl,rfl,Nat.le_refl _,fun _ _=>rfl⟩
theorem cq.at{n₀:Nat}{W:World}{v:Value}{vs:List Value}(h:cq n₀ W v vs)(h0:0<vs.length) :
 ∃b off cap,v=.slice (some ⟨b,off,none⟩) vs.length cap/\b<n₀/\∀j u,vs[j]?=some u->W.cell? ⟨b,off+j,none⟩=some u:=by
 rcases h with⟨_,rfl⟩ | ⟨b,off,cap,e,hb,_,hc⟩
 ·exact absurd h0 (by simp)
 ·exact⟨b,off,cap,e,hb,hc⟩
theorem br(n₀:Nat)(W:World)(a:Option Addr)(cap:Nat)(h:a=none->cap=0):cq n₀ W (.slice a 0 cap) []:=.inl ⟨⟨a,cap,rfl,h⟩,rfl⟩
theorem cq.src{n₀:Nat}{W:World}{v:Value}{vs:List Value}(h:cq n₀ W v vs) :
 v=.slice none 0 0/\vs.length=0∨∃ad c,v=.slice (some ad) vs.length c/\∀j u,vs[j]?=some u->W.cell? (ad.add j)=some u:=by
 rcases h with⟨⟨a,cap,rfl,hn⟩,rfl⟩ | ⟨b,off,cap,rfl,_,_,hc⟩
 ·cases a with
  | none=>rw[hn rfl];exact .inl ⟨rfl,rfl⟩
  | some x=>exact .inr ⟨x,cap,rfl,fun j u hj=>by simp at hj⟩
 ·exact .inr ⟨_,cap,rfl,fun j u hj=>by rw[Addr.add_lit];exact hc j u hj⟩
theorem aS{W:World}{base:Nat}{e:TypeId}{v:Value}{n:Nat}{vs:List Value}(h:W.ownsRow base e 1 v n vs):cq W.heap.size W v vs:=by
 have hlt:=h.lt
 obtain⟨hl,⟨rfl,h0⟩ | ⟨g,cap,cur,rfl,hb,hg,hn,hm,hs,hx⟩⟩:=h
 ·have:vs=[]:=List.length_eq_zero_iff.1 (by omega)
  subst this
  exact .inl ⟨⟨_,_,rfl,fun _=>rfl⟩,rfl⟩
 ·have hn':vs.length=n:=by omega
  subst hn'
  refine .inr ⟨g,0,cap,rfl,(hlt g rfl).2,hn,fun j u hj=>?_⟩
  have hjl:j<vs.length:=(List.getElem?_eq_some_iff.1 hj).1
  have:(cur.toList.take (vs.length*1))[j]?=vs[j]?:=by rw[hx]
  rw[List.getElem?_take_of_lt (by omega),hj] at this
  simp only[World.cell?,hg,Nat.zero_add]
  simpa using this
def ap(xs:List Int):List Value:=xs.map (Value.int .i64)
def bt(xs:List Bool):List Value:=xs.map Value.bool
theorem aY(xs:List Int):(ap xs).length=xs.length:=by simp [ap]
theorem dD(xs:List Bool):(bt xs).length=xs.length:=by simp [bt]
theorem qc{xs:List Int}{j:Nat}(h:j<xs.length):(ap xs)[j]?=some (.int .i64 (xs[j]?.getD 0)):=by simp [ap,List.getElem?_eq_getElem h]
theorem boolsV_at{xs:List Bool}{j:Nat}(h:j<xs.length):(bt xs)[j]?=some (.bool (xs[j]?.getD false)):=by simp [bt,List.getElem?_eq_getElem h]
def Row(n₀:Nat)(W:World)(v:Value)(xs:List Int):Prop:=cq n₀ W v (ap xs)
def BRow(n₀:Nat)(W:World)(v:Value)(xs:List Bool):Prop:=cq n₀ W v (bt xs)
theorem Row.form{n₀:Nat}{A:World}{v:Value}{xs:List Int}(h:Row n₀ A v xs):∃a cap,v=.slice a xs.length cap:=by
 obtain⟨a,cap,rfl⟩:=cq.form h
 exact⟨a,cap,by rw[aY]⟩
theorem BRow.form{n₀:Nat}{A:World}{v:Value}{xs:List Bool}(h:BRow n₀ A v xs):∃a cap,v=.slice a xs.length cap:=by
 obtain⟨a,cap,rfl⟩:=cq.form h
 exact⟨a,cap,by rw[dD]⟩
theorem Row.at{n₀:Nat}{W:World}{v:Value}{xs:List Int}(h:Row n₀ W v xs)(h0:0<xs.length) :
 ∃b off cap,v=.slice (some ⟨b,off,none⟩) xs.length cap/\b<n₀/\∀j,j<xs.length->W.cell? ⟨b,off+j,none⟩=some (.int .i64 (xs[j]?.getD 0)):=by
 obtain⟨b,off,cap,rfl,hb,hc⟩:=cq.at h (by rw[aY];exact h0)
 exact⟨b,off,cap,by rw[aY],hb,fun j hj=>hc j _ (qc hj)⟩
theorem BRow.at{n₀:Nat}{W:World}{v:Value}{xs:List Bool}(h:BRow n₀ W v xs)(h0:0<xs.length) :
 ∃b off cap,v=.slice (some ⟨b,off,none⟩) xs.length cap/\b<n₀/\∀j,j<xs.length->W.cell? ⟨b,off+j,none⟩=some (.bool (xs[j]?.getD false)):=by
 obtain⟨b,off,cap,rfl,hb,hc⟩:=cq.at h (by rw[dD];exact h0)
 exact⟨b,off,cap,by rw[dD],hb,fun j hj=>hc j _ (boolsV_at hj)⟩
theorem Row.below{n₀:Nat}{A B:World}(h:Below n₀ A B){v:Value}{xs:List Int}(g:Row n₀ A v xs):Row n₀ B v xs:=cq.below h g
theorem Row.mono{n n':Nat}(h:n<=n'){A:World}{v:Value}{xs:List Int}(g:Row n A v xs):Row n' A v xs:=cq.mono h g
theorem Row.drewN{n₀:Nat}{W:World}{v:Value}{xs:List Int}(h:Row n₀ W v xs)(d:Nat):Row n₀ (W.drewN d) v xs:=cq.drewN h d
theorem BRow.below{n₀:Nat}{A B:World}(h:Below n₀ A B){v:Value}{xs:List Bool}(g:BRow n₀ A v xs):BRow n₀ B v xs:=cq.below h g
theorem BRow.mono{n n':Nat}(h:n<=n'){A:World}{v:Value}{xs:List Bool}(g:BRow n A v xs):BRow n' A v xs:=cq.mono h g
theorem BRow.drewN{n₀:Nat}{W:World}{v:Value}{xs:List Bool}(h:BRow n₀ W v xs)(d:Nat):BRow n₀ (W.drewN d) v xs:=cq.drewN h d
def aq(n₀:Nat)(W:World)(v:Value)(to:List (List Int)):Prop :=
 ∃vs,cq n₀ W v vs/\vs.length=to.length/\∀j,j<to.length->∃r,vs[j]?=some r/\Row n₀ W r (to[j]?.getD [])
theorem aq.below{n₀:Nat}{A B:World}(h:Below n₀ A B){v:Value}{to:List (List Int)}:aq n₀ A v to->aq n₀ B v to
 | ⟨vs,h1,h2,h3⟩=>⟨vs,h1.below h,h2,fun j hj=>by obtain⟨r,e,g⟩:=h3 j hj;exact⟨r,e,g.below h⟩⟩
theorem aq.mono{n n':Nat}(h:n<=n'){A:World}{v:Value}{to:List (List Int)}:aq n A v to->aq n' A v to
 | ⟨vs,h1,h2,h3⟩=>⟨vs,h1.mono h,h2,fun j hj=>by obtain⟨r,e,g⟩:=h3 j hj;exact⟨r,e,g.mono h⟩⟩
theorem aq.form{n₀:Nat}{A:World}{v:Value}{to:List (List Int)}(h:aq n₀ A v to):∃a cap,v=.slice a to.length cap:=by
 obtain⟨vs,h1,h2,_⟩:=h
 obtain⟨a,cap,rfl⟩:=h1.form
 exact⟨a,cap,by rw[h2]⟩
theorem aq.row{n₀:Nat}{W:World}{v:Value}{to:List (List Int)}(h:aq n₀ W v to){j:Nat}(hj:j<to.length) :
 ∃b off cap r,v=.slice (some ⟨b,off,none⟩) to.length cap/\W.cell? ⟨b,off+j,none⟩=some r/\Row n₀ W r (to[j]?.getD []):=by
 obtain⟨vs,h1,h2,h3⟩:=h
 obtain⟨b,off,cap,rfl,hb,hc⟩:=h1.at (by omega)
 obtain⟨r,e,g⟩:=h3 j hj
 exact⟨b,off,cap,r,by rw[h2],hc j r e,g⟩
theorem aq.at{n₀:Nat}{W:World}{b off n cap:Nat}{to:List (List Int)}(h:aq n₀ W (.slice (some ⟨b,off,none⟩) n cap) to){j:Nat}(hj:j<to.length) :
 ∃a' cap',W.cell? ⟨b,off+j,none⟩=some (.slice a' (to[j]?.getD []).length cap')/\Row n₀ W (.slice a' (to[j]?.getD []).length cap') (to[j]?.getD []):=by
 obtain⟨b',off',cap',r,e,hc,hr⟩:=h.row hj
 cases e
 obtain⟨a',c',rfl⟩:=hr.form
 exact⟨a',c',hc,hr⟩
theorem aq.addr{n₀:Nat}{W:World}{v:Value}{to:List (List Int)}(h:aq n₀ W v to)(h0:0<to.length):∃b off cap,v=.slice (some ⟨b,off,none⟩) to.length cap:=by
 obtain⟨b,off,cap,r,e,_⟩:=h.row h0
 exact⟨b,off,cap,e⟩
theorem Row.cellAt{n₀:Nat}{W:World}{a:Option Addr}{n cap:Nat}{xs:List Int}(h:Row n₀ W (.slice a n cap) xs){k:Nat}(hk:k<xs.length):∃b off,a=some ⟨b,off,none⟩/\W.cell? ⟨b,off+k,none⟩=some (.int .i64 (xs[k]?.getD 0)):=by
 obtain⟨b,off,cap',e,_,hc⟩:=h.at (by omega)
 cases e
 exact⟨b,off,rfl,hc k hk⟩
def cQ(to:List (List Int)):Prop:=to.length<=17592186044416/\∀row∈to,row.length<=17592186044416
theorem cQ.row{to:List (List Int)}(h:cQ to)(j:Nat):(to[j]?.getD []).length<=17592186044416:=by
 cases e:to[j]? with
 | none=>simp
 | some x=>exact h.2 x (List.mem_of_getElem? e)
end
section
open Go.RowKit
theorem it(v:Value)(n:Nat)(i:Int)(w:World)(hv:∃a cap,v=.slice a n cap)(hn:n<=17592186044416) :
 Calls Tryz.prog 61 #[v,.int .i64 i] w fun e w'=>e=.returned (.bool (GG.inB n i))/\w=w':=by
 obtain⟨a,cap,rfl⟩:=hv
 by_cases h:0<=i/\i<n
 ·have HS:=zH (show GG.inB n i=true from decide_eq_true h)
  obtain⟨h1,h2⟩:=h
  go_enter Tryz.func61,Tryz.ntmps61
  go_wp2_with fail
  go_ret
  exact⟨af HS.out.symm,rfl⟩
 ·have HS:=zH (show GG.inB n i=false from decide_eq_false h)
  by_cases h1:0<=i
  ·have h2:¬i<n:=fun h2=>h ⟨h1,h2⟩
   clear h
   go_enter Tryz.func61,Tryz.ntmps61
   go_wp2_with fail
   go_ret
   exact⟨af HS.out.symm,rfl⟩
  ·clear h
   go_enter Tryz.func61,Tryz.ntmps61
   go_wp2_with fail
   go_ret
   exact⟨af HS.out.symm,rfl⟩
set_option maxHeartbeats 800000 in
theorem nj(v:Value)(to:List (List Int))(n₀:Nat)(w:World)(hv:aq n₀ w v to)(hs:cQ to)(a:Nat)(b:Int)(ha:a<to.length) :
 Calls Tryz.prog 70 #[v,.int .i64 a,.int .i64 b] w fun e w'=>e=.returned (.bool (GG.leadsB to a b))/\w=w':=by
 obtain⟨bk,off,cap,rfl⟩:=hv.addr (by omega)
 obtain⟨a',cap',hc1,hr⟩:=hv.at ha
 have hl:=hs.row a
 have i1:(0:Int)<=a/\(a:Int)<to.length:=by omega
 have HL:=zH (show GG.leadsB to a b=decide (b∈to[a]?.getD []) from rfl)
 clear hv hs
 generalize to[a]?.getD []=row at *
 have HR:=zH hr
 clear hr
 go_enter Tryz.func70,Tryz.ntmps70
 go_wp2_with fail
 go_loop [7] (fun k=>∃j:Nat,j<=row.length/\k=.int .i64 (j:Int)/\RowKit.Hid (∀i,i<j->row[i]?.getD 0≠b)) (fun k=>row.length-(intOf k).toNat)
 case atStart=>exact⟨0,Nat.zero_le _,rfl,zH (fun i hi=>absurd hi (Nat.not_lt_zero _))⟩
 case round =>
  obtain⟨j,hj,rfl,HN⟩:=hrel
  by_cases hlt:j<row.length
  ·obtain⟨rb,ro,rfl,hc2⟩:=HR.out.cellAt hlt
   obtain⟨x,hx⟩:∃x,x=row[j]?.getD 0:=⟨_,rfl⟩
   rw[<-hx] at hc2
   by_cases he:x=b
   ·subst he
    have HS:=zH (show GG.leadsB to a x=true from HL.out.trans (decide_eq_true (hx ▸ GG.bn hlt)))
    clear hx
    go_wp2_with fail
    go_ret
    exact⟨af HS.out.symm,rfl⟩
   ·have HS:=zH (show ∀i,i<j+1->row[i]?.getD 0≠b from fun i hi=>(Nat.lt_succ_iff_lt_or_eq.1 hi).elim (fun h=>HN.out i h) (fun h=>by rw[h,<-hx];exact he))
    have he':(x == b)=false:=beq_eq_false_iff_ne.2 he
    clear hx he
    go_wp2_with fail
    go_round
    case rel=>exact⟨j+1,by omega,by go_num,HS⟩
    case measure=>simp [intOf];omega
  ·have HS:=zH (show GG.leadsB to a b=false from HL.out.trans (decide_eq_false (fun hm=>by
    obtain⟨i,hi,e⟩:=List.getElem_of_mem hm
    exact HN.out i (by omega) (by rw[List.getElem?_eq_getElem hi];exact e))))
   go_wp2_with fail
   go_ret
   exact⟨af HS.out.symm,rfl⟩
end
end Go.Proofs.YtjngffgkllakaaaGreatDoor
namespace Go.Proofs.YtjngffgkllakaaaGreatDoor.GG
theorem ky{α:Type}{d:α}{xs ys:List α}{j:Nat}(h1:j<xs.length)(h2:j<ys.length)(h:xs.take j=ys.take j)(e:xs[j]?.getD d=ys[j]?.getD d):xs.take (j+1)=ys.take (j+1):=by
 rw[List.getElem?_eq_getElem h1,List.getElem?_eq_getElem h2] at e
 simp only[Option.getD_some] at e
 rw[List.take_succ_eq_append_getElem h1,List.take_succ_eq_append_getElem h2,h,e]
theorem jq{α:Type}{xs ys:List α}{j:Nat}(h1:xs.length<=j)(h2:ys.length<=j)(h:xs.take j=ys.take j):xs=ys:=by
 rwa [List.take_of_length_le h1,List.take_of_length_le h2] at h
end Go.Proofs.YtjngffgkllakaaaGreatDoor.GG
namespace Go.Proofs.YtjngffgkllakaaaGreatDoor
open List renaming getElem_toArray → zA, getElem_cons_succ → zB, getElem_cons_zero → zC, setIfInBounds_toArray → zD, set_cons_zero → zE, set_cons_succ → zF
open Lib renaming hid → zH
section
open Go.RowKit
theorem BRow.cellAt{n₀:Nat}{W:World}{a:Option Addr}{n cap:Nat}{xs:List Bool}(h:BRow n₀ W (.slice a n cap) xs){k:Nat}(hk:k<xs.length):∃b off,a=some ⟨b,off,none⟩/\W.cell? ⟨b,off+k,none⟩=some (.bool (xs[k]?.getD false)):=by
 obtain⟨b,off,cap',e,_,hc⟩:=h.at (by omega)
 cases e
 exact⟨b,off,rfl,hc k hk⟩
set_option maxHeartbeats 1600000 in
theorem ints_any(a b:Value)(xs ys:List Int)(n:Nat)(w:World)(ha:Row n w a xs)(hb:Row n w b ys)(hx:xs.length<=17592186044416)(hy:ys.length<=17592186044416) :
 Calls Tryz.prog 21 #[a,b] w fun e w'=>e=.returned (.bool (decide (xs=ys)))/\∃d,w'=w.drewN d:=by
 obtain⟨aa,ca,rfl⟩:=ha.form
 obtain⟨ab,cb,rfl⟩:=hb.form
 by_cases hl:xs.length=ys.length
 ·have hne:((xs.length:Int) != (ys.length:Int))=false:=by rw[bne_eq_false_iff_eq];omega
  have hl1:xs.length<=ys.length:=by omega
  have hl2:ys.length<=xs.length:=by omega
  have HL:=zH hl
  have HA:=zH ha
  have HB:=zH hb
  clear hl ha hb
  go_enter Tryz.func21,Tryz.ntmps21
  go_wp2_with fail
  go_loopw [5] (fun k wr=>∃j d:Nat,j<=xs.length/\k=.int .i64 (j:Int)/\wr=w.drewN d/\RowKit.Hid (xs.take j=ys.take j)) (fun k _=>xs.length-(intOf k).toNat)
  case atStart=>exact⟨0,0,by omega,rfl,rfl,zH rfl⟩
  case round =>
   obtain⟨j,d,hj,rfl,rfl,HT⟩:=hrel
   by_cases hlt:j<xs.length
   ·obtain⟨xb,xo,rfl,hx1⟩:=HA.out.cellAt hlt
    obtain⟨yb,yo,rfl,hy1⟩:=HB.out.cellAt (show j<ys.length by omega)
    have i1:(0:Int)<=j/\(j:Int)<xs.length:=by omega
    have i2:(0:Int)<=j/\(j:Int)<ys.length:=by omega
    obtain⟨x,ex⟩:∃x,x=xs[j]?.getD 0:=⟨_,rfl⟩
    obtain⟨y,ey⟩:∃y,y=ys[j]?.getD 0:=⟨_,rfl⟩
    rw[<-ex] at hx1
    rw[<-ey] at hy1
    have EX:=zH ex
    have EY:=zH ey
    clear ex ey
    by_cases hxy:x=y
    ·subst hxy
     have HT':=zH (GG.ky hlt (show j<ys.length by omega) HT.out (EX.out.symm.trans EY.out))
     have hn2:(x != x)=false:=bne_self_eq_false x
     clear HT EX EY
     go_wp2_with fail
     go_quiet (fail)
     go_wp2_with fail
     go_roundw
     case rel=>exact⟨j+1,_,by omega,by go_num,(by first | rfl | exact World.drewN_drewN _ _ _),HT'⟩
     case measure=>simp [intOf];omega
    ·have HS:=zH (show decide (xs=ys)=false from decide_eq_false (fun e=>hxy (by rw[EX.out,EY.out,e])))
     have hn2:(x != y)=true:=bne_iff_ne.2 hxy
     clear HT EX EY hxy
     go_wp2_with fail
     go_quiet (fail)
     go_wp2_with fail
     go_ret
     exact⟨af HS.out.symm,_,(by first | rfl | exact World.drewN_drewN _ _ _)⟩
   ·have HS:=zH (show decide (xs=ys)=true from decide_eq_true (GG.jq (by omega) (by omega) HT.out))
    clear HT
    go_wp2_with fail
    go_ret
    exact⟨af HS.out.symm,_,rfl⟩
 ·have hne:((xs.length:Int) != (ys.length:Int))=true:=by rw[bne_iff_ne];omega
  have HS:=zH (show decide (xs=ys)=false from decide_eq_false (fun e=>hl (by rw[e])))
  clear hl ha hb
  go_enter Tryz.func21,Tryz.ntmps21
  go_wp2_with fail
  go_ret
  exact⟨af HS.out.symm,0,rfl⟩
set_option maxRecDepth 100000 in
set_option maxHeartbeats 3200000 in
theorem qd(a b:Value)(xs ys:List (List Int))(n:Nat)(w:World)(ha:aq n w a xs)(hb:aq n w b ys)(hx:cQ xs)(hy:cQ ys) :
 Calls Tryz.prog 13 #[a,b] w fun e w'=>e=.returned (.bool (decide (xs=ys)))/\∃d,w'=w.drewN d:=by
 obtain⟨aa,ca,rfl⟩:=ha.form
 obtain⟨ab,cb,rfl⟩:=hb.form
 have hx0:=hx.1
 have hy0:=hy.1
 by_cases hl:xs.length=ys.length
 ·have hne:((xs.length:Int) != (ys.length:Int))=false:=by rw[bne_eq_false_iff_eq];omega
  have hl1:xs.length<=ys.length:=by omega
  have hl2:ys.length<=xs.length:=by omega
  have HL:=zH hl
  have HA:=zH ha
  have HB:=zH hb
  have HX:=zH hx
  have HY:=zH hy
  clear hl ha hb hx hy
  go_enter Tryz.func13,Tryz.ntmps13
  go_wp2_with fail
  go_loopw [5] (fun k wr=>∃j d:Nat,j<=xs.length/\k=.int .i64 (j:Int)/\wr=w.drewN d/\RowKit.Hid (xs.take j=ys.take j)) (fun k _=>xs.length-(intOf k).toNat)
  case atStart=>exact⟨0,0,by omega,rfl,rfl,zH rfl⟩
  case round =>
   obtain⟨j,d,hj,rfl,rfl,HT⟩:=hrel
   by_cases hlt:j<xs.length
   ·obtain⟨xb,xo,xc,e1⟩:=HA.out.addr (by omega)
    cases e1
    obtain⟨yb,yo,yc,e2⟩:=HB.out.addr (by omega)
    cases e2
    obtain⟨ra,rac,hx1,hrx⟩:=HA.out.at hlt
    obtain⟨rb,rbc,hy1,hry⟩:=HB.out.at (show j<ys.length by omega)
    have i1:(0:Int)<=j/\(j:Int)<xs.length:=by omega
    have i2:(0:Int)<=j/\(j:Int)<ys.length:=by omega
    have b1:=HX.out.row j
    have b2:=HY.out.row j
    obtain⟨r,er⟩:∃r,r=xs[j]?.getD []:=⟨_,rfl⟩
    obtain⟨s,es⟩:∃s,s=ys[j]?.getD []:=⟨_,rfl⟩
    rw[<-er] at hx1 hrx b1
    rw[<-es] at hy1 hry b2
    have EX:=zH er
    have EY:=zH es
    have HRX:=zH hrx
    have HRY:=zH hry
    clear er es hrx hry
    by_cases hrl:r.length=s.length
    ·have hn2:((r.length:Int) != (s.length:Int))=false:=by rw[bne_eq_false_iff_eq];omega
     have hr1:r.length<=s.length:=by omega
     have hr2:s.length<=r.length:=by omega
     clear hrl
     go_wp2_with fail
     go_quiet (fail)
     go_wp2_with fail
     go_loopw [6] (fun k wr=>∃q d:Nat,q<=r.length/\k=.int .i64 (q:Int)/\wr=w.drewN d/\RowKit.Hid (r.take q=s.take q)) (fun k _=>r.length-(intOf k).toNat)
     case atStart=>exact⟨0,_,by omega,rfl,(by first | rfl | exact World.drewN_drewN _ _ _),zH rfl⟩
     case round =>
      obtain⟨q,d',hq,rfl,rfl,HQ⟩:=hrel
      by_cases hqt:q<r.length
      ·obtain⟨xb2,xo2,rfl,hx2⟩:=HRX.out.cellAt hqt
       obtain⟨yb2,yo2,rfl,hy2⟩:=HRY.out.cellAt (show q<s.length by omega)
       have i3:(0:Int)<=q/\(q:Int)<r.length:=by omega
       have i4:(0:Int)<=q/\(q:Int)<s.length:=by omega
       obtain⟨x,ex⟩:∃x,x=r[q]?.getD 0:=⟨_,rfl⟩
       obtain⟨y,ey⟩:∃y,y=s[q]?.getD 0:=⟨_,rfl⟩
       rw[<-ex] at hx2
       rw[<-ey] at hy2
       have EX2:=zH ex
       have EY2:=zH ey
       clear ex ey hn2
       by_cases hxy:x=y
       ·subst hxy
        have HQ':=zH (GG.ky hqt (show q<s.length by omega) HQ.out (EX2.out.symm.trans EY2.out))
        have hn3:(x != x)=false:=bne_self_eq_false x
        clear HQ EX2 EY2
        go_wp2_with fail
        go_quiet (fail)
        go_wp2_with fail
        go_roundw
        case rel=>exact⟨q+1,_,by omega,by go_num,(by first | rfl | exact World.drewN_drewN _ _ _),HQ'⟩
        case measure=>simp [intOf];omega
       ·have HS:=zH (show decide (xs=ys)=false from decide_eq_false (fun e=>hxy (by rw[EX2.out,EY2.out,EX.out,EY.out,e])))
        have hn3:(x != y)=true:=bne_iff_ne.2 hxy
        clear HQ EX2 EY2 hxy
        go_wp2_with fail
        go_quiet (fail)
        go_wp2_with fail
        go_ret
        exact⟨af HS.out.symm,_,(by first | rfl | exact World.drewN_drewN _ _ _)⟩
      ·have HQ':=zH (GG.ky hlt (show j<ys.length by omega) HT.out (EX.out.symm.trans ((GG.jq (by omega) (by omega) HQ.out).trans EY.out)))
       clear HQ HT hn2
       go_wp2_with fail
       go_roundw
       case rel=>exact⟨j+1,_,by omega,by go_num,rfl,HQ'⟩
       case measure=>simp [intOf];omega
    ·have hn2:((r.length:Int) != (s.length:Int))=true:=by rw[bne_iff_ne];omega
     have HS:=zH (show decide (xs=ys)=false from decide_eq_false (fun e=>hrl (by rw[EX.out,EY.out,e])))
     clear HT hrl
     go_wp2_with fail
     go_quiet (fail)
     go_wp2_with fail
     go_ret
     exact⟨af HS.out.symm,_,(by first | rfl | exact World.drewN_drewN _ _ _)⟩
   ·have HS:=zH (show decide (xs=ys)=true from decide_eq_true (GG.jq (by omega) (by omega) HT.out))
    clear HT
    go_wp2_with fail
    go_ret
    exact⟨af HS.out.symm,_,rfl⟩
 ·have hne:((xs.length:Int) != (ys.length:Int))=true:=by rw[bne_iff_ne];omega
  have HS:=zH (show decide (xs=ys)=false from decide_eq_false (fun e=>hl (by rw[e])))
  clear hl ha hb hx hy
  go_enter Tryz.func13,Tryz.ntmps13
  go_wp2_with fail
  go_ret
  exact⟨af HS.out.symm,0,rfl⟩
end
end Go.Proofs.YtjngffgkllakaaaGreatDoor
namespace Go.Proofs.YtjngffgkllakaaaGreatDoor.GG
theorem nk(n:Nat)(row:List Int):cp n (row.take 0)=true:=by
 rw[List.take_zero];exact row_mk (by simp) (by simp)
theorem lJ{n:Nat}{row:List Int}{k:Nat}(hk:k<row.length)(h:cp n (row.take k)=true)(h1:0<=row[k]?.getD 0)(h2:row[k]?.getD 0<n)(h3:∀j,j<k->row[j]?.getD 0≠row[k]?.getD 0):cp n (row.take (k+1))=true:=by
 rw[List.getElem?_eq_getElem hk] at h1 h2 h3
 simp only[Option.getD_some] at h1 h2 h3
 rw[List.take_succ_eq_append_getElem hk]
 refine row_mk (fun j hj=>?_) ?_
 ·rcases List.mem_append.1 hj with h' | h'
  ·exact df h j h'
  ·rw[List.mem_singleton.1 h'];exact⟨h1,h2⟩
 ·rw[List.nodup_append]
  refine⟨gG h,by simp,fun a ha b hb e=>?_⟩
  rw[List.mem_singleton.1 hb] at e
  obtain⟨i,hi,e2⟩:=List.mem_take_iff_getElem.1 ha
  exact h3 i (by omega) (by rw[List.getElem?_eq_getElem (show i<row.length by omega),Option.getD_some,e2,e])
theorem nl{n:Nat}{row:List Int}{k:Nat}(hk:row.length<=k)(h:cp n (row.take k)=true):cp n row=true:=by
 rwa [List.take_of_length_le hk] at h
theorem nm{to:List (List Int)}{i:Nat}(h:∀j,j<i->cp to.length (to[j]?.getD [])=true)(hi:cp to.length (to[i]?.getD [])=true):∀j,j<i+1->cp to.length (to[j]?.getD [])=true:=by
 intro j hj
 by_cases e:j=i
 ·subst e;exact hi
 ·exact h j (by omega)
end Go.Proofs.YtjngffgkllakaaaGreatDoor.GG
namespace Go.Proofs.YtjngffgkllakaaaGreatDoor
open List renaming getElem_toArray → zA, getElem_cons_succ → zB, getElem_cons_zero → zC, setIfInBounds_toArray → zD, set_cons_zero → zE, set_cons_succ → zF
open Lib renaming hid → zH
section
open Go.RowKit
set_option maxRecDepth 100000 in
set_option maxHeartbeats 3200000 in
theorem dJ(a:Value)(to:List (List Int))(n:Nat)(w:World)(ha:aq n w a to)(hx:cQ to) :
 Calls Tryz.prog 47 #[a] w fun e w'=>e=.returned (.bool (GG.al to))/\∃d,w'=w.drewN d:=by
 obtain⟨aa,ca,rfl⟩:=ha.form
 have hx0:=hx.1
 by_cases hl:1<=to.length/\to.length<=256
 ·obtain⟨hl1,hl2⟩:=hl
  obtain⟨xb,xo,xc,e1⟩:=ha.addr (by omega)
  cases e1
  have HA:=zH ha
  have HX:=zH hx
  clear ha hx
  go_enter Tryz.func47,Tryz.ntmps47
  go_wp2_with fail
  go_loopw [3] (fun k wr=>∃i d:Nat,i<=to.length/\k=.int .i64 (i:Int)/\wr=w.drewN d/\RowKit.Hid (∀j,j<i->GG.cp to.length (to[j]?.getD [])=true)) (fun k _=>to.length-(intOf k).toNat)
  case atStart=>exact⟨0,0,by omega,rfl,rfl,zH (fun j hj=>absurd hj (Nat.not_lt_zero _))⟩
  case round =>
   obtain⟨i,d,hi,rfl,rfl,HT⟩:=hrel
   by_cases hlt:i<to.length
   ·obtain⟨ra,rac,hx1,hrx⟩:=HA.out.at hlt
    have i1:(0:Int)<=i/\(i:Int)<to.length:=by omega
    have b1:=HX.out.row i
    have HNO:=zH (GG.pY hlt)
    have HYES:=zH (GG.nm HT.out)
    have HLONG:=zH (fun(h:to.length<(to[i]?.getD []).length)=>GG.rU h)
    obtain⟨r,er⟩:∃r,r=to[i]?.getD []:=⟨_,rfl⟩
    rw[<-er] at hx1 hrx b1 HNO HYES HLONG
    have HRX:=zH hrx
    clear er hrx HT
    by_cases hrl:r.length<=256
    ·go_wp2_with fail
     go_loopw [4] (fun k wr=>∃q d:Nat,q<=r.length/\k=.int .i64 (q:Int)/\wr=w.drewN d/\RowKit.Hid (GG.cp to.length (r.take q)=true)) (fun k _=>r.length-(intOf k).toNat)
     case atStart=>exact⟨0,_,by omega,rfl,rfl,zH (GG.nk _ _)⟩
     case round =>
      obtain⟨q,d',hq,rfl,rfl,HQ⟩:=hrel
      by_cases hqt:q<r.length
      ·obtain⟨xb2,xo2,rfl,hx2⟩:=HRX.out.cellAt hqt
       have i3:(0:Int)<=q/\(q:Int)<r.length:=by omega
       have HSTEP:=zH (GG.lJ hqt HQ.out)
       have HBAD:=zH (GG.pZ (n:=to.length) hqt)
       have HTW:=zH (fun(j:Nat) (hj:j<q)=>GG.kU (n:=to.length) hj hqt)
       obtain⟨x,ex⟩:∃x,x=r[q]?.getD 0:=⟨_,rfl⟩
       rw[<-ex] at hx2 HSTEP HBAD HTW
       clear ex HQ
       by_cases hin:0<=x/\x<to.length
       ·obtain⟨hin1,hin2⟩:=hin
        go_wp2_with fail
        go_loopw [5] (fun k wr=>∃j d:Nat,j<=q/\k=.int .i64 (j:Int)/\wr=w.drewN d/\RowKit.Hid (∀i,i<j->r[i]?.getD 0≠x)) (fun k _=>q-(intOf k).toNat)
        case atStart=>exact⟨0,_,by omega,rfl,rfl,zH (fun i hi=>absurd hi (Nat.not_lt_zero _))⟩
        case round =>
         obtain⟨j,d'',hj,rfl,rfl,HJ⟩:=hrel
         by_cases hjt:j<q
         ·obtain⟨xb3,xo3,e3,hx3⟩:=HRX.out.cellAt (show j<r.length by omega)
          cases e3
          have i4:(0:Int)<=j/\(j:Int)<r.length:=by omega
          have HNE:=zH (fun(h:r[j]?.getD 0≠x) (i:Nat) (hi:i<j+1)=>(Nat.lt_succ_iff_lt_or_eq.1 hi).elim (fun h=>HJ.out i h) (fun e=>by rw[e];exact h))
          have HEQ:=zH (HTW.out j hjt)
          obtain⟨y,ey⟩:∃y,y=r[j]?.getD 0:=⟨_,rfl⟩
          rw[<-ey] at hx3 HNE HEQ
          clear ey HJ
          by_cases hxy:y=x
          ·subst hxy
           have HS:=zH (HNO.out (HEQ.out rfl))
           have hn3:(y == y)=true:=beq_self_eq_true y
           go_wp2_with fail
           go_quiet (fail)
           go_wp2_with fail
           go_ret
           exact⟨af HS.out.symm,_,(by first | rfl | exact World.drewN_drewN _ _ _)⟩
          ·have HS:=zH (HNE.out hxy)
           have hn3:(y == x)=false:=beq_eq_false_iff_ne.2 hxy
           clear hxy
           go_wp2_with fail
           go_quiet (fail)
           go_wp2_with fail
           go_roundw
           case rel=>exact⟨j+1,_,by omega,by go_num,(by first | rfl | exact World.drewN_drewN _ _ _),HS⟩
           case measure=>simp [intOf];omega
         ·have HS:=zH (HSTEP.out hin1 hin2 (fun i hi=>HJ.out i (by omega)))
          go_wp2_with fail
          go_roundw
          case rel=>exact⟨q+1,_,by omega,by go_num,(by first | rfl | exact World.drewN_drewN _ _ _),HS⟩
          case measure=>simp [intOf];omega
       ·have HS:=zH (HNO.out (HBAD.out (by unfold GG.inB;exact decide_eq_false hin)))
        by_cases h1:0<=x
        ·have h2:¬x<to.length:=fun h2=>hin ⟨h1,h2⟩
         clear hin
         go_wp2_with fail
         go_ret
         exact⟨af HS.out.symm,_,rfl⟩
        ·clear hin
         go_wp2_with fail
         go_ret
         exact⟨af HS.out.symm,_,rfl⟩
      ·have HS:=zH (HYES.out (GG.nl (by omega) HQ.out))
       go_wp2_with fail
       go_roundw
       case rel=>exact⟨i+1,_,by omega,by go_num,rfl,HS⟩
       case measure=>simp [intOf];omega
    ·have HS:=zH (HNO.out (HLONG.out (by omega)))
     go_wp2_with fail
     go_ret
     exact⟨af HS.out.symm,_,rfl⟩
   ·have HS:=zH (show GG.al to=true from GG.lH hl1 hl2 (fun j hj=>HT.out j (by omega)))
    go_wp2_with fail
    go_ret
    exact⟨af HS.out.symm,_,rfl⟩
 ·have HS:=zH (GG.jH hl)
  by_cases h1:1<=to.length
  ·have h2:¬to.length<=256:=fun h2=>hl ⟨h1,h2⟩
   clear hl ha hx
   go_enter Tryz.func47,Tryz.ntmps47
   go_wp2_with fail
   go_ret
   exact⟨af HS.out.symm,0,rfl⟩
  ·clear hl ha hx
   go_enter Tryz.func47,Tryz.ntmps47
   go_wp2_with fail
   go_ret
   exact⟨af HS.out.symm,0,rfl⟩
end
section
open Go.RowKit
def falses:Array Value:=Array.replicate 256 (.bool false)
theorem info46:(Tryz.prog.info? 130).map (fun i=>(i.zero,i.size))=some (some (.agg falses),256):=by kernel_rfl
theorem eu(w:World):(zeroValue 130).run Tryz.prog w=.ok (.agg falses) w:=by
 have h:=info46
 cases hi:Tryz.prog.info? 130 with
 | none=>rw[hi] at h;cases h
 | some i =>
   rw[hi] at h
   simp only[Option.map_some,Option.some.injEq,Prod.mk.injEq] at h
   simp [zeroValue,typeInfo,hi,h.1]
def fd(W:World)(g:Nat)(B:Nat->Bool):Prop:=W.rowIs g 130 256 (fun i=>.bool (B i))
theorem fd.cell{W:World}{g:Nat}{B:Nat->Bool}(h:fd W g B){i:Nat}(hi:i<256):W.cell? ⟨g,i,none⟩=some (.bool (B i)):=World.rowIs.cell h hi
theorem fd.frozen{W:World}{g:Nat}{B:Nat->Bool}(h:fd W g B)(i:Nat):W.frozen? ⟨g,i,none⟩=false:=World.rowIs.frozen h i
theorem fd.of_block{W W':World}{g:Nat}{B:Nat->Bool}(h:fd W g B)(e:W'.heap[g]?=W.heap[g]?):fd W' g B:=World.rowIs.of_block h e
theorem fd.congr{W:World}{g:Nat}{B C:Nat->Bool}(h:fd W g B)(e:∀i,i<256->B i=C i):fd W g C:=World.rowIs.congr h (fun i hi=>by rw[e i hi])
theorem fd.set{W:World}{g:Nat}{B:Nat->Bool}(h:fd W g B)(i:Nat):fd (W.setCell ⟨g,i,none⟩ (.bool true)) g (GG.setB B i):=by
 refine World.rowIs.congr (World.rowIs.set h i (.bool true)) (fun j _=>?_)
 unfold GG.setB
 by_cases e:j=i <;> simp [e]
theorem np(W:World):fd (W.alloc (.cells falses 130)) W.heap.size (fun _=>false):=by
 have h:=World.rowIs_alloc W falses 130 (fun _=>.bool false) (fun i hi=>by unfold falses at hi ⊢;rw[Array.size_replicate] at hi;simp [hi])
 have e:falses.size=256:=by simp [falses]
 rw[e] at h
 exact h
def iu(row:List Int)(q:Nat)(x:Nat):Bool:=decide ((x:Int)∈row.take q)
theorem gone_zero(row:List Int)(x:Nat):false=iu row 0 x:=by simp [iu]
theorem gone_succ{row:List Int}{q:Nat}(hq:q<row.length)(h0:0<=row[q]?.getD 0)(x:Nat):GG.setB (iu row q) (row[q]?.getD 0).toNat x=iu row (q+1) x:=by
 rw[List.getElem?_eq_getElem hq] at h0 ⊢
 simp only[Option.getD_some] at h0 ⊢
 unfold iu GG.setB
 rw[List.take_succ_eq_append_getElem hq]
 by_cases e:x=(row[q]).toNat
 ·subst e
  rw[if_pos rfl,Int.toNat_of_nonneg h0]
  exact(decide_eq_true (List.mem_append.2 (.inr (List.mem_singleton.2 rfl)))).symm
 ·rw[if_neg e]
  have:(x:Int)≠row[q]:=fun h=>e (by omega)
  simp only[List.mem_append,List.mem_singleton,this,or_false]
theorem gone_at{row:List Int}{q:Nat}(h0:0<=row[q]?.getD 0)(h:iu row q (row[q]?.getD 0).toNat=true):∃j,j<q/\row[j]?.getD 0=row[q]?.getD 0:=by
 unfold iu at h
 have h:=of_decide_eq_true h
 rw[Int.toNat_of_nonneg h0] at h
 obtain⟨i,hi,e⟩:=List.mem_take_iff_getElem.1 h
 exact⟨i,by omega,by rw[List.getElem?_eq_getElem (show i<row.length by omega),Option.getD_some,e]⟩
theorem gone_no{row:List Int}{q:Nat}(h0:0<=row[q]?.getD 0)(h:iu row q (row[q]?.getD 0).toNat=false)(j:Nat)(hj:j<q)(hq:q<row.length):row[j]?.getD 0≠row[q]?.getD 0:=by
 intro e
 unfold iu at h
 refine(of_decide_eq_false h) ?_
 rw[Int.toNat_of_nonneg h0,<-e,List.getElem?_eq_getElem (show j<row.length by omega),Option.getD_some]
 exact List.mem_take_iff_getElem.2 ⟨j,by omega,rfl⟩
theorem bcell0{W:World}{A B:World}(h:Below W.heap.size W A)(g:Below W.heap.size W B)(b o:Nat)(hb:b<W.heap.size):B.cell? ⟨b,o,none⟩=A.cell? ⟨b,o,none⟩:=(g.cell (p:=⟨b,o,none⟩) hb).trans (h.cell (p:=⟨b,o,none⟩) hb).symm
theorem Row.of_both{W A B:World}(h:Below W.heap.size W A)(g:Below W.heap.size W B){v:Value}{xs:List Int}:Row W.heap.size A v xs->Row W.heap.size B v xs
 | .inl e=>.inl e
 | .inr ⟨b,off,cap,e,hb,hl,hc⟩=>.inr ⟨b,off,cap,e,hb,hl,fun j u hj=>(bcell0 h g b (off+j) hb).trans (hc j u hj)⟩
set_option maxRecDepth 100000 in
set_option maxHeartbeats 3200000 in
theorem aT(a:Value)(to:List (List Int))(w:World)(ha:aq w.heap.size w a to)(hx:cQ to) :
 Calls Tryz.prog 35 #[a] w fun e w'=>e=.returned (.bool (GG.al to))/\Below w.heap.size w w':=by
 obtain⟨aa,ca,rfl⟩:=ha.form
 have hx0:=hx.1
 by_cases hl:1<=to.length/\to.length<=256
 ·obtain⟨hl1,hl2⟩:=hl
  obtain⟨xb,xo,xc,e1⟩:=ha.addr (by omega)
  cases e1
  have HA:=zH ha
  have HX:=zH hx
  have hal:=fun(w:World)=>eu w
  clear ha hx
  go_enter Tryz.func35,Tryz.ntmps35
  go_wp2
  go_step3
  go_wp2
  go_step3
  go_wp2
  go_loopw [3,19] (fun r k wr=>∃i:Nat,i<=to.length/\r=.bool true/\k=.int .i64 (i:Int)/\Below w.heap.size w wr/\RowKit.Hid (∀j,j<i->GG.cp to.length (to[j]?.getD [])=true)) (fun _ k _=>to.length-(intOf k).toNat)
  case atStart=>exact⟨0,by omega,rfl,rfl,Below.refl _ _,zH (fun j hj=>absurd hj (Nat.not_lt_zero _))⟩
  case round =>
   obtain⟨i,hi,rfl,rfl,hB,HT⟩:=hrel
   by_cases hlt:i<to.length
   ·obtain⟨ra,rac,hx1,hrx⟩:=(HA.out.below hB).at hlt
    have i1:(0:Int)<=i/\(i:Int)<to.length:=by omega
    have b1:=HX.out.row i
    have HNO:=zH (GG.pY hlt)
    have HYES:=zH (GG.nm HT.out)
    obtain⟨r,er⟩:∃r,r=to[i]?.getD []:=⟨_,rfl⟩
    rw[<-er] at hx1 hrx b1 HNO HYES
    have HB:=zH hB
    have HRX:=zH (hrx.below ((Below.refl w.heap.size wr).alloc hB.size (.cells falses 130)))
    have HG:=zH (np wr)
    clear er hrx HT hB
    go_wp2_with fail
    obtain⟨wo,ewo⟩:∃wo:World,wo=wr:=⟨_,rfl⟩
    rw[<-ewo]
    rw[<-ewo] at HB HRX HG hx1
    clear ewo
    go_loopw [3,25] (fun rt k wr=>∃q:Nat,q<=r.length/\rt=.bool true/\k=.int .i64 (q:Int)/\fd wr wo.heap.size (iu r q)/\Below w.heap.size w wr/\RowKit.Hid (GG.cp to.length (r.take q)=true)) (fun _ k _=>r.length-(intOf k).toNat)
    case atStart=>exact⟨0,by omega,rfl,rfl,HG.out.congr (fun x _=>gone_zero r x),HB.out.alloc HB.out.size _,zH (GG.nk _ _)⟩
    case round =>
     obtain⟨q,hq,rfl,rfl,hF,hB2,HQ⟩:=hrel
     have HF:=zH hF
     have HB2:=zH hB2
     clear hF hB2
     by_cases hqt:q<r.length
     ·obtain⟨xb2,xo2,rfl,hx2⟩:=(HRX.out.of_both (HB.out.alloc HB.out.size _) HB2.out).cellAt hqt
      have i3:(0:Int)<=q/\(q:Int)<r.length:=by omega
      have HSTEP:=zH (GG.lJ hqt HQ.out)
      have HBAD:=zH (GG.pZ (n:=to.length) hqt)
      have HTW:=zH (fun(j:Nat) (hj:j<q)=>GG.kU (n:=to.length) hj hqt)
      have HGA:=zH (gone_at (row:=r) (q:=q))
      have HGN:=zH (fun h0 hn j hj=>gone_no (row:=r) (q:=q) h0 hn j hj hqt)
      have HGS:=zH (gone_succ hqt)
      obtain⟨x,ex⟩:∃x,x=r[q]?.getD 0:=⟨_,rfl⟩
      rw[<-ex] at hx2 HSTEP HBAD HTW HGA HGN HGS
      clear ex HQ
      by_cases hin:0<=x/\x<to.length
      ·have HIN:=zH (show GG.inB to.length x=true from decide_eq_true hin)
       obtain⟨hin1,hin2⟩:=hin
       have hc3:=HF.out.cell (show x.toNat<256 by omega)
       have hf3:=HF.out.frozen x.toNat
       cases hg:iu r q x.toNat
       ·have HOK:=zH (HSTEP.out hin1 hin2 (HGN.out hin1 hg))
        rw[hg] at hc3
        clear hg
        go_wp2_with (go_at_call 61;refine(it _ to.length _ _ ⟨_,_,rfl⟩ hx0).mono ?_;rintro e w' ⟨rfl,rfl⟩;rw[HIN.out])
        go_roundw
        case rel=>exact⟨q+1,by omega,rfl,by go_num,(HF.out.set x.toNat).congr (fun y _=>HGS.out hin1 y),HB2.out.setCell (by have:=HB.out.size;simp;omega) _,HOK⟩
        case measure=>simp [intOf];omega
       ·obtain⟨j,hj,hje⟩:=HGA.out hin1 hg
        have HS:=zH (HNO.out (HTW.out j hj hje))
        rw[hg] at hc3
        clear hg hje
        go_wp2_with (go_at_call 61;refine(it _ to.length _ _ ⟨_,_,rfl⟩ hx0).mono ?_;rintro e w' ⟨rfl,rfl⟩;rw[HIN.out])
        try rw[Exit.noGoto_ret]
        go_ret
        exact⟨af HS.out.symm,HB2.out⟩
      ·have HIN:=zH (show GG.inB to.length x=false from decide_eq_false hin)
       have HS:=zH (HNO.out (HBAD.out HIN.out))
       clear hin
       go_wp2_with (go_at_call 61;refine(it _ to.length _ _ ⟨_,_,rfl⟩ hx0).mono ?_;rintro e w' ⟨rfl,rfl⟩;rw[HIN.out])
       try rw[Exit.noGoto_ret]
       go_ret
       exact⟨af HS.out.symm,HB2.out⟩
     ·have HS:=zH (HYES.out (GG.nl (by omega) HQ.out))
      go_wp2_with fail
      go_roundw
      case rel=>exact⟨i+1,by omega,rfl,by go_num,HB2.out,HS⟩
      case measure=>simp [intOf];omega
   ·have HS:=zH (show GG.al to=true from GG.lH hl1 hl2 (fun j hj=>HT.out j (by omega)))
    have HB:=zH hB
    clear hB
    go_wp2_with fail
    rw[Exit.noGoto_ret]
    go_ret
    exact⟨af HS.out.symm,HB.out⟩
 ·have HS:=zH (GG.jH hl)
  by_cases h1:1<=to.length
  ·have h2:¬to.length<=256:=fun h2=>hl ⟨h1,h2⟩
   clear hl ha hx
   go_enter Tryz.func35,Tryz.ntmps35
   go_wp2
   go_step3
   go_wp2
   try rw[Exit.noGoto_ret]
   go_ret
   exact⟨af HS.out.symm,Below.refl _ _⟩
  ·clear hl ha hx
   go_enter Tryz.func35,Tryz.ntmps35
   go_wp2
   go_step3
   go_wp2
   try rw[Exit.noGoto_ret]
   go_ret
   exact⟨af HS.out.symm,Below.refl _ _⟩
end
end Go.Proofs.YtjngffgkllakaaaGreatDoor
namespace Go.Proofs.YtjngffgkllakaaaGreatDoor.GG
open Go.RowKit
theorem own_block{w:World}{B e size n k:Nat}{v:Value}{xs:List Value}(h:w.ownsRow B e size v n xs)(hk:v.ownBlock=some k):B<=k/\k<w.heap.size/\∃c,w.heap[k]?=some (.cells c e (0,0)):=by
 have hl:=h.lt k hk
 rcases h.2 with⟨rfl,_⟩ | ⟨g,cap,cur,rfl,_,hg,_⟩
 ·simp [Value.ownBlock] at hk
 ·simp [Value.ownBlock] at hk
  subst hk
  exact⟨hl.1,hl.2,cur,hg⟩
theorem own_types{w:World}{B e n size B' e' n' size':Nat}{v v':Value}{xs xs':List Value}(h:w.ownsRow B e size v n xs)(h':w.ownsRow B' e' size' v' n' xs')(hne:e≠e'):v.ownBlock=none∨v.ownBlock≠v'.ownBlock:=by
 cases hk:v.ownBlock with
 | none=>exact .inl rfl
 | some k =>
   refine .inr fun hk'=>?_
   obtain⟨_,_,c,hc⟩:=own_block h hk
   obtain⟨_,_,c',hc'⟩:=own_block h' hk'.symm
   rw[hc] at hc'
   simp only[Option.some.injEq,Obj.cells.injEq] at hc'
   exact hne hc'.2.1
section
variable {P:Program} {w:World}
theorem wpList_append_any{ops:Array Oper}{rest:List Oper}{o:Oper}{a:Act}{Q:Exit->Act->World->Prop}(hgd:o.guard=none)(s x:Operand)(t:TypeId)
 (ho:o.op=.call { callee:=.builtin .append,args:=#[s,x],argTypes:=#[t,t] })
 (base:Nat) (e:TypeId) (i:TypeInfo) (z:Value) (size bytes:Nat) (ht:P.underlying t=some (.slice e)) (hi:P.info? e=some i) (hz:i.zero=some z)
 (hsize:i.size=size) (hby:i.bytes=bytes) (hzs:z.cells.size=size) (hsz:0<size)
 (v:Value) (n:Nat) (xs:List Value) (hs:a.eval s=v) (hown:w.ownsRow base e size v n xs)
 (xv:Value) (m:Nat) (news:List Value) (hx:a.eval x=xv) (hl:news.length=m*size)
 (hsrc:xv=.slice none 0 0/\m=0∨∃ad c,xv=.slice (some ad) m c/\∀j u,news[j]?=some u->w.cell? (ad.add j)=some u) (h1:∀u∈news,u.oneCell'=true)
 (h63:n+m<=maxLen) (hbytes:(n+m)*bytes<=140737488355328) (hbase:base<=w.heap.size)
 (h:∀v' w',w'.ownsRow base e size v' (n+m) (xs ++ news)->w.grownBy w' v.ownBlock->wpList P ops Q rest (a.put o.dst v') w') :
 wpList P ops Q (o :: rest) a w:=by
 rcases hsrc with⟨rfl,rfl⟩ | ⟨ad,c,rfl,hn⟩
 ·have hn:news=[]:=List.eq_nil_of_length_eq_zero (by simpa using hl)
  subst hn
  have hr:=run_append_owned_none (P:=P) (w:=w) base t o.type e i size ht hi v n xs hown
  refine wpList_plain hgd fun K hK=>?_
  unfold Oper.wp execOp
  simp only[ho,resolve,invoke,builtin,Sem.run_bind,Sem.run_pure,Result.andThen_ok,List.map_toArray,List.map_cons,List.map_nil,hs,hx,hr]
  exact hK _ _ (h v w (by simpa using hown) ⟨rfl,rfl,rfl,Nat.le_refl _,fun _ _ _=>rfl⟩)
 ·exact wpList_append_own w hgd s x t ho base e i z size bytes ht hi hz hsize hby hzs hsz v n xs hs hown ad m c news hx hl hn h1 h63 hbytes hbase (fun v' w' p1 p2 _=>h v' w' p1 p2)
end
def Rows(B:Nat)(w:World)(vs:List Value)(to:List (List Int)):Prop :=
 vs.length=to.length/\∀j,j<to.length->∃r,vs[j]?=some r/\w.ownsRow B 3 1 r (to[j]?.getD []).length (ap (to[j]?.getD []))
theorem Rows.nil(B:Nat)(w:World):Rows B w [] []:=⟨rfl,fun j hj=>absurd hj (Nat.not_lt_zero _)⟩
theorem Rows.alloc{B:Nat}{w:World}{vs:List Value}{to:List (List Int)}(h:Rows B w vs to)(o:Obj):Rows B (w.alloc o) vs to :=
 ⟨h.1,fun j hj=>by obtain⟨r,e,g⟩:=h.2 j hj;exact⟨r,e,g.alloc o⟩⟩
theorem Rows.kept{B e n size B':Nat}{w w':World}{vs:List Value}{to:List (List Int)}{v:Value}{xs:List Value}(h:Rows B w vs to)(ho:w.ownsRow B' e size v n xs)(hne:3≠e)(hg:w.grownBy w' v.ownBlock):Rows B w' vs to :=
 ⟨h.1,fun j hj=>by obtain⟨r,e,g⟩:=h.2 j hj;exact⟨r,e,g.kept hg (own_types g ho hne)⟩⟩
theorem Rows.grown{B:Nat}{w w':World}{vs:List Value}{to:List (List Int)}{b:Option Nat}(h:Rows B w vs to)(hg:w.grownBy w' b)(hb:∀k,b=some k->w.heap.size<=k):Rows B w' vs to :=
 ⟨h.1,fun j hj=>by
  obtain⟨r,e,g⟩:=h.2 j hj
  refine⟨r,e,g.kept hg ?_⟩
  cases hk:r.ownBlock with
  | none=>exact .inl rfl
  | some k =>
    refine .inr fun e=>?_
    have:=hb k e.symm
    have:=(g.lt k hk).2
    omega⟩
theorem Rows.snoc{B:Nat}{w:World}{vs:List Value}{to:List (List Int)}{r:Value}{row:List Int}(h:Rows B w vs to)(g:w.ownsRow B 3 1 r row.length (ap row)):Rows B w (vs ++ [r]) (to ++ [row]):=by
 refine⟨by simp [h.1],fun j hj=>?_⟩
 by_cases e:j<to.length
 ·obtain⟨r',e1,g'⟩:=h.2 j e
  exact⟨r',by rw[List.getElem?_append_left (by rw[h.1];exact e)];exact e1,by rw[List.getElem?_append_left e];exact g'⟩
 ·have e2:j=to.length:=by simp at hj;omega
  subst e2
  exact⟨r,by rw[<-h.1];simp,by simpa using g⟩
theorem Rows.graph{B e:Nat}{w:World}{v:Value}{vs:List Value}{to:List (List Int)}(h:Rows B w vs to)(ho:w.ownsRow B e 1 v to.length vs):aq w.heap.size w v to :=
 ⟨vs,aS ho,h.1,fun j hj=>by obtain⟨r,e,g⟩:=h.2 j hj;exact⟨r,e,aS g⟩⟩
theorem jK(xs:List Int):∀u∈ap xs,u.oneCell'=true:=by
 intro u hu
 obtain⟨q,_,rfl⟩:=List.mem_map.1 hu
 rfl
theorem aI{w:World}{B e n size:Nat}{v:Value}{xs:List Value}(h:w.ownsRow B e size v n xs):∃a cap,v=.slice a n cap:=by
 rcases h.2 with⟨rfl,rfl⟩ | ⟨g,cap,cur,rfl,_⟩
 ·exact⟨_,_,rfl⟩
 ·exact⟨_,_,rfl⟩
theorem aW(W:World)(x:Value)(t:TypeId):∀j u,([x]:List Value)[j]?=some u->(W.alloc (.cells #[x] t)).cell? ((⟨W.heap.size,0,none⟩:Addr).add j)=some u:=by
 intro j u hj
 match j,hj with
 | 0,hj=>simp at hj;subst hj;simp [Addr.add]
end Go.Proofs.YtjngffgkllakaaaGreatDoor.GG
namespace Go.Proofs.YtjngffgkllakaaaGreatDoor
open List renaming getElem_toArray → zA, getElem_cons_succ → zB, getElem_cons_zero → zC, setIfInBounds_toArray → zD, set_cons_zero → zE, set_cons_succ → zF
open Lib renaming hid → zH
section
open Go.RowKit
theorem Tryz.infoGInt:(Tryz.prog.info? 3).map (fun i=>(i.zero,i.size,i.bytes))=some (some (.int .i64 0),1,8):=by kernel_rfl
theorem Tryz.infoGRow:(Tryz.prog.info? 54).map (fun i=>(i.zero,i.size,i.bytes))=some (some (.slice none 0 0),1,24):=by kernel_rfl
end
end Go.Proofs.YtjngffgkllakaaaGreatDoor
namespace Go.Proofs.YtjngffgkllakaaaGreatDoor.GG
open Go.RowKit
theorem dfs_mono(adj:Nat->List Nat)(f:Nat):∀(i:Nat) (s:St) (x:Nat),s.1 x=true->(dfs adj f i s).1 x=true:=by
 induction f with
 | zero=>intro i s x h;exact h
 | succ f ih =>
   intro i s x h
   unfold dfs
   split
   ·exact h
   ·have key:∀(l:List Nat) (s:St),s.1 x=true->(l.foldl (fun s j=>dfs adj f j s) s).1 x=true:=by
     intro l
     induction l with
     | nil=>intro s h;exact h
     | cons j l ihl=>intro s h;exact ihl _ (ih j s x h)
    exact key _ _ ((db _ _ _).2 (.inr h))
theorem fold_mono(adj:Nat->List Nat)(f:Nat)(l:List Nat)(s:St)(x:Nat)(h:s.1 x=true):(l.foldl (fun s j=>dfs adj f j s) s).1 x=true:=by
 induction l generalizing s with
 | nil=>exact h
 | cons j l ihl=>exact ihl _ (dfs_mono adj f j s x h)
theorem dfs_len{adj:Nat->List Nat}{n:Nat}(ha:∀x,∀j∈adj x,j<n)(f:Nat):∀(i:Nat) (s:St) (c:Nat),i<n->s.2.length+unv n s.1+c<=n->(dfs adj f i s).2.length+unv n (dfs adj f i s).1+c<=n:=by
 induction f with
 | zero=>intro i s c _ h;exact h
 | succ f ih =>
   intro i s c hi h
   unfold dfs
   by_cases hB:s.1 i=true
   ·rw[if_pos hB];exact h
   ·rw[if_neg hB]
    have hB':s.1 i=false:=by simpa using hB
    have key:∀(l:List Nat) (s:St),(∀j∈l,j<n)->s.2.length+unv n s.1+(c+1)<=n->(l.foldl (fun s j=>dfs adj f j s) s).2.length+unv n (l.foldl (fun s j=>dfs adj f j s) s).1+(c+1)<=n:=by
     intro l
     induction l with
     | nil=>intro s _ h;exact h
     | cons j l ihl=>intro s hl h;exact ihl _ (fun k hk=>hl k (by simp [hk])) (ih j s (c+1) (hl j (by simp)) h)
    have:=eY n hi hB'
    have:=key (adj i) (setB s.1 i,s.2) (ha i) (by show s.2.length+unv n (setB s.1 i)+(c+1)<=n;omega)
    generalize (adj i).foldl (fun s j=>dfs adj f j s) (setB s.1 i,s.2)=t at this
    show (t.2 ++ [i]).length+unv n t.1+c<=n
    simp only[List.length_append,List.length_cons,List.length_nil]
    omega
theorem qe{adj:Nat->List Nat}{n:Nat}(ha:∀x,∀j∈adj x,j<n)(f:Nat)(l:List Nat)(s:St)(c:Nat)(hl:∀j∈l,j<n)(h:s.2.length+unv n s.1+c<=n):(l.foldl (fun s j=>dfs adj f j s) s).2.length+unv n (l.foldl (fun s j=>dfs adj f j s) s).1+c<=n:=by
 induction l generalizing s with
 | nil=>exact h
 | cons j l ihl=>exact ihl _ (fun k hk=>hl k (by simp [hk])) (dfs_len ha f j s c (hl j (by simp)) h)
def part(adj:Nat->List Nat)(f i k:Nat)(s:St):St:=((adj i).take k).foldl (fun s j=>dfs adj f j s) (setB s.1 i,s.2)
theorem part_zero(adj:Nat->List Nat)(f i:Nat)(s:St):part adj f i 0 s=(setB s.1 i,s.2):=by simp [part]
theorem part_succ(adj:Nat->List Nat)(f i k:Nat)(s:St){j:Nat}(h:(adj i)[k]?=some j):part adj f i (k+1) s=dfs adj f j (part adj f i k s):=by
 obtain⟨hk,e⟩:=List.getElem?_eq_some_iff.1 h
 unfold part
 rw[List.take_succ_eq_append_getElem hk,List.foldl_append,e]
 rfl
theorem part_all(adj:Nat->List Nat)(f i k:Nat)(s:St)(hs:s.1 i=false)(hk:(adj i).length<=k):dfs adj (f+1) i s=((part adj f i k s).1,(part adj f i k s).2 ++ [i]):=by
 unfold dfs part
 rw[if_neg (by rw[hs];simp),List.take_of_length_le hk]
theorem part_unv{adj:Nat->List Nat}{n:Nat}(f i k:Nat)(s:St)(hi:i<n)(hs:s.1 i=false)(hu:unv n s.1<f+1):unv n (part adj f i k s).1<f:=by
 have h1:=eY n hi hs
 have h2:=gF n (B:=setB s.1 i) (C:=(part adj f i k s).1) (fun x h=>fold_mono adj f _ _ x h)
 omega
theorem part_len{adj:Nat->List Nat}{n:Nat}(ha:∀x,∀j∈adj x,j<n)(f i k:Nat)(s:St)(hi:i<n)(hs:s.1 i=false)(h:s.2.length+unv n s.1<=n):(part adj f i k s).2.length+unv n (part adj f i k s).1+1<=n:=by
 have h1:=eY n hi hs
 exact qe ha f _ _ 1 (fun j hj=>ha i j (List.mem_of_mem_take hj)) (by show s.2.length+unv n (setB s.1 i)+1<=n;omega)
theorem adj_get{to:List (List Int)}{i k:Nat}(hk:k<(to[i]?.getD []).length):(am to i)[k]?=some ((to[i]?.getD [])[k]?.getD 0).toNat:=by
 unfold am
 rw[List.getElem?_map,List.getElem?_eq_getElem hk]
 rfl
theorem oP(to:List (List Int))(i:Nat):(am to i).length=(to[i]?.getD []).length:=by simp [am]
end Go.Proofs.YtjngffgkllakaaaGreatDoor.GG
namespace Go.Proofs.YtjngffgkllakaaaGreatDoor
open List renaming getElem_toArray → zA, getElem_cons_succ → zB, getElem_cons_zero → zC, setIfInBounds_toArray → zD, set_cons_zero → zE, set_cons_succ → zF
open Lib renaming hid → zH
section
open Go.RowKit
structure VSt (N:Nat) (W0:World) (v:Value) (s:GG.St) (W:World):Prop where
 toC:W.heap[N]?=some (.cells #[v] 32 (0,0))
 been:fd W (N+1) s.1
 beh:∃bv,W.heap[N+2]?=some (.cells #[bv] 54 (0,0))/\W.ownsRow (N+4) 3 1 bv s.2.length (ap (s.2.map Int.ofNat))
 vis:W.heap[N+3]?=some (.cells #[.func (.func 166) #[] #[.pointer (some ⟨N+1,0,none⟩),.pointer (some ⟨N,0,none⟩),.pointer (some ⟨N+3,0,none⟩),.pointer (some ⟨N+2,0,none⟩)]] 262 (0,0))
 below:Below W0.heap.size W0 W
 size:N+4<=W.heap.size
theorem bX(W:World)(a:Addr)(k:Nat)(v:Value)(h:k≠a.block):(W.setCell a v).heap[k]?=W.heap[k]?:=heap_setCell_other W a k v h
theorem VSt.mark{N:Nat}{W0 W:World}{v:Value}{s:GG.St}(h:VSt N W0 v s W)(hN:W0.heap.size<=N)(i:Nat):VSt N W0 v (GG.setB s.1 i,s.2) (W.setCell ⟨N+1,i,none⟩ (.bool true)):=by
 obtain⟨bv,hb,ho⟩:=h.beh
 refine⟨?_,h.been.set i,⟨bv,?_,?_⟩,?_,h.below.setCell (by simp;omega) _,by simpa using h.size⟩
 ·rw[bX _ _ _ _ (by simp)];exact h.toC
 ·rw[bX _ _ _ _ (by simp)];exact hb
 ·refine⟨ho.1,?_⟩
  rcases ho.2 with hn | ⟨g,cap,cur,rfl,hb',hgg,rest⟩
  ·exact .inl hn
  ·exact .inr ⟨g,cap,cur,rfl,hb',by rw[bX _ _ _ _ (by simp;omega)];exact hgg,rest⟩
 ·rw[bX _ _ _ _ (by simp)];exact h.vis
theorem VSt.told{N:Nat}{W0 W w1:World}{v bv v':Value}{s:GG.St}{i:Nat}{o:Obj}(h:VSt N W0 v s W)(hN:W0.heap.size<=N)(hb:W.heap[N+2]?=some (.cells #[bv] 54 (0,0)))(hr:W.ownsRow (N+4) 3 1 bv s.2.length (ap (s.2.map Int.ofNat)))
 (ho:w1.ownsRow (N+4) 3 1 v' (s.2.length+1) (ap (s.2.map Int.ofNat) ++ [.int .i64 (i:Int)])) (hg:(W.alloc o).grownBy w1 bv.ownBlock) :
 w1.heap[N+2]?=some (.cells #[bv] 54 (0,0))/\VSt N W0 v (s.1,s.2 ++ [i]) (w1.setCell ⟨N+2,0,none⟩ v'):=by
 have hs:=h.size
 have key:∀k,k<N+4->w1.heap[k]?=W.heap[k]?:=by
  intro k hk
  rw[hg.block k (by simp;omega) (fun e=>by have:=(hr.lt k e.symm).1;omega)]
  exact heap_alloc_old W o (by omega)
 have hb1:=(key (N+2) (by omega)).trans hb
 refine⟨hb1,?_,?_,⟨v',one_setCell hb1,?_⟩,?_,?_,?_⟩
 ·rw[bX _ _ _ _ (by simp),key N (by omega)];exact h.toC
 ·exact h.been.of_block (by rw[bX _ _ _ _ (by simp),key (N+1) (by omega)])
 ·have e:(s.2 ++ [i]).length=s.2.length+1:=by simp
  have e2:ap ((s.2 ++ [i]).map Int.ofNat)=ap (s.2.map Int.ofNat) ++ [.int .i64 (i:Int)]:=by simp [ap]
  show (w1.setCell ⟨N+2,0,none⟩ v').ownsRow (N+4) _ 1 v' (s.2 ++ [i]).length (ap ((s.2 ++ [i]).map Int.ofNat))
  rw[e,e2]
  refine⟨ho.1,?_⟩
  rcases ho.2 with hn | ⟨g,cap,cur,rfl,hb',hgg,rest⟩
  ·exact .inl hn
  ·exact .inr ⟨g,cap,cur,rfl,hb',by rw[bX _ _ _ _ (by simp;omega)];exact hgg,rest⟩
 ·rw[bX _ _ _ _ (by simp),key (N+3) (by omega)];exact h.vis
 ·exact((h.below.alloc (by omega) o).grown hg (by simp;omega) (fun k e=>by have:=(hr.lt k e).1;omega)).setCell (by simp;omega) _
 ·have:=hg.size;simp at this ⊢;omega
set_option maxRecDepth 100000 in
set_option maxHeartbeats 1600000 in
theorem visit_any{N:Nat}{W0:World}{v:Value}{to:List (List Int)}(hN:N=W0.heap.size)(hr:GG.al to=true)(hv:aq N W0 v to)(f:Nat):∀(i:Nat) (s:GG.St) (W:World),i<to.length->GG.unv to.length s.1<f->s.2.length+GG.unv to.length s.1<=to.length->VSt N W0 v s W ->
 Calls Tryz.prog 166 #[.int .i64 i,.pointer (some ⟨N+1,0,none⟩),.pointer (some ⟨N,0,none⟩),.pointer (some ⟨N+3,0,none⟩),.pointer (some ⟨N+2,0,none⟩)] W
  fun e W'=>e=.returned (.tuple #[])/\VSt N W0 v (GG.dfs (GG.am to) f i s) W':=by
 subst hN
 induction f with
 | zero=>intro i s W _ hu;exact absurd hu (Nat.not_lt_zero _)
 | succ f ih =>
   intro i s W hi hu hl hS
   have hlen:=GG.aC hr
   have hc0:=hS.been.cell (show i<256 by omega)
   have i1:(0:Int)<=i/\(i:Int)<256:=by omega
   cases hB:s.1 i
   ·have HM:=zH (hS.mark (Nat.le_refl _) i)
    have hf0:=hS.been.frozen i
    rw[hB] at hc0
    have hct:=cell_of_one HM.out.toC
    obtain⟨vb,vo,vc,e1⟩:=hv.addr (by omega)
    subst e1
    obtain⟨ra,rac,hx1,hrx⟩:=(hv.below HM.out.below).at hi
    have i2:(0:Int)<=i/\(i:Int)<to.length:=by omega
    have b1:(to[i]?.getD []).length<=17592186044416:=by have:=GG.dz (GG.aZ hr hi);omega
    have HR:=zH (GG.aZ hr hi)
    have HG:=zH (fun(k:Nat) (hk:k<(to[i]?.getD []).length)=>GG.adj_get hk)
    have HAL:=zH (GG.oP to i)
    obtain⟨r,er⟩:∃r,r=to[i]?.getD []:=⟨_,rfl⟩
    rw[<-er] at hx1 hrx b1 HR HG HAL
    have HRX:=zH hrx
    have HS:=zH hS
    have HU:=zH (fun k=>GG.part_unv (adj:=GG.am to) f i k s hi hB hu)
    have HLN:=zH (fun k=>GG.part_len (GG.gA hr) f i k s hi hB hl)
    have HALL:=zH (fun k=>GG.part_all (GG.am to) f i k s hB)
    have HV:=zH hv
    have HIH:=zH ih
    have HZ:=zH (GG.part_zero (GG.am to) f i s)
    clear hS hv hB ih hu hl er hrx
    go_enter Tryz.func166,Tryz.ntmps166
    go_wp2_with fail
    go_loopw [18] (fun k wr=>∃q:Nat,q<=r.length/\k=.int .i64 (q:Int)/\VSt W0.heap.size W0 (.slice (some ⟨vb,vo,none⟩) to.length vc) (GG.part (GG.am to) f i q s) wr) (fun k _=>r.length-(intOf k).toNat)
    case atStart=>exact⟨0,Nat.zero_le _,rfl,by rw[HZ.out];exact HM.out⟩
    case round =>
     obtain⟨q,hq,rfl,hP⟩:=hrel
     have HP:=zH hP
     clear hP
     by_cases hqt:q<r.length
     ·have hcv:=cell_of_one HP.out.vis
      obtain⟨xb2,xo2,rfl,hx2⟩:=(HRX.out.of_both HM.out.below HP.out.below).cellAt hqt
      have i3:(0:Int)<=q/\(q:Int)<r.length:=by omega
      have HX:=zH (GG.df HR.out _ (GG.bn (d:=0) hqt))
      have HST:=zH (GG.part_succ (GG.am to) f i q s (HG.out q hqt))
      obtain⟨x,ex⟩:∃x,x=r[q]?.getD 0:=⟨_,rfl⟩
      rw[<-ex] at hx2 HX HST
      clear ex
      obtain⟨y,rfl⟩:∃y:Nat,x=(y:Int):=⟨x.toNat,by have:=HX.out;omega⟩
      have HY:=zH (show y<to.length by have:=HX.out;omega)
      go_wp2_with (go_at_call 166;refine(HIH.out y _ _ HY.out (HU.out q) (by have:=HLN.out q;omega) HP.out).mono ?_;rintro e w' ⟨rfl,hP'⟩;have HP':=zH hP';clear hP')
      go_roundw
      case rel=>exact⟨q+1,by omega,by go_num,by rw[HST.out,Int.toNat_natCast];exact HP'.out⟩
      case measure=>simp [intOf];omega
     ·obtain⟨bv,hbb,hbr⟩:=HP.out.beh
      obtain⟨i0,hi0,hz0,hz1,hz2⟩:=info_parts Tryz.infoGInt
      have hcb:=cell_of_one hbb
      have HBB:=zH hbb
      have HBR:=zH hbr
      have HL1:=HLN.out q
      have HE:=zH (HALL.out q (by have:=HAL.out;omega))
      clear hbb hbr
      go_wp2_with (first
      | (at_builtin
         refine GG.wpList_append_any rfl _ _ 54 rfl (W0.heap.size+4) 3 i0 (.int .i64 0) 1 8 Tryz.underlying54 hi0 hz0 hz1 hz2 rfl (by decide) bv _ _ rfl (HBR.out.alloc _) (.slice (some ⟨wr.heap.size,0,none⟩) 1 1) 1 [.int .i64 (i:Int)] rfl rfl (.inr ⟨_,_,rfl,GG.aW _ _ _⟩) (by intro u hu;rw[List.mem_singleton.1 hu];rfl) (by unfold maxLen;omega) (by omega) (by have:=HP.out.size;simp;omega) ?_
         intro v1 w1 ho hg
         obtain⟨va1,vc1,rfl⟩:=GG.aI ho
         have HT:=zH (HP.out.told (Nat.le_refl _) HBB.out HBR.out ho hg)
         clear ho hg
         have hcb1:=cell_of_one HT.out.1
         have hfb1:=free_of_one HT.out.1))
      go_end0
      exact⟨rfl,by rw[HE.out];exact HT.out.2⟩
   ·rw[hB] at hc0
    have HS:=zH hS
    have HD:=zH (show GG.dfs (GG.am to) (f+1) i s=s by unfold GG.dfs;rw[if_pos hB])
    clear hS hv hB ih hu hl
    go_enter Tryz.func166,Tryz.ntmps166
    go_wp2_with fail
    exact bodyPost_ret (v:=.tuple #[]) (results_none rfl _ _ _) rfl ⟨rfl,by rw[HD.out];exact HS.out⟩
end
section
open Go.RowKit
def runT(adj:Nat->List Nat)(l:List Int)(q:Nat):GG.St:=GG.runF 257 adj ((l.take q).map Int.toNat)
theorem runT_zero(adj:Nat->List Nat)(l:List Int):runT adj l 0=((fun _=>false),[]):=by simp [runT,GG.runF]
theorem runT_succ(adj:Nat->List Nat){l:List Int}{q:Nat}(hq:q<l.length):runT adj l (q+1)=GG.dfs adj 257 (l[q]?.getD 0).toNat (runT adj l q):=by
 unfold runT GG.runF
 rw[List.take_succ_eq_append_getElem hq,List.getElem?_eq_getElem hq,List.map_append,List.foldl_append]
 rfl
theorem qf(adj:Nat->List Nat){l:List Int}{q:Nat}(hq:l.length<=q):runT adj l q=GG.runG adj (l.map Int.toNat):=by
 unfold runT GG.runG
 rw[List.take_of_length_le hq]
theorem qg{to:List (List Int)}(hr:GG.al to=true){l:List Int}(hl:∀x∈l,0<=x/\x<to.length)(q:Nat):(runT (GG.am to) l q).2.length+GG.unv to.length (runT (GG.am to) l q).1<=to.length:=by
 have:=GG.qe (GG.gA hr) 257 ((l.take q).map Int.toNat) ((fun _=>false),[]) 0 (fun j hj=>by
  obtain⟨x,hx,rfl⟩:=List.mem_map.1 hj
  have:=hl x (List.mem_of_mem_take hx)
  omega) (by have:=GG.ir to.length (fun _=>false);show 0+GG.unv to.length (fun _=>false)+0<=to.length;omega)
 exact this
theorem vst_new(W:World)(v:Value):VSt W.heap.size W v ((fun _=>false),[]) ((((W.alloc (.cells #[v] 32)).alloc (.cells falses 130)).alloc (.cells #[.slice none 0 0] 54)).alloc (.cells #[.func (.func 166) #[] #[.pointer (some ⟨W.heap.size+1,0,none⟩),.pointer (some ⟨W.heap.size,0,none⟩),.pointer (some ⟨W.heap.size+1+1+1,0,none⟩),.pointer (some ⟨W.heap.size+1+1,0,none⟩)]] 262)):=by
 refine⟨?_,?_,⟨.slice none 0 0,?_,World.ownsRow_nil _ _ _ _⟩,?_,?_,?_⟩
 ·rw[heap_alloc_old _ _ (by simp;omega),heap_alloc_old _ _ (by simp;omega),heap_alloc_old _ _ (by simp),heap_alloc_new]
 ·have h:=np (W.alloc (.cells #[v] 32))
  rw[show (W.alloc (.cells #[v] 32)).heap.size=W.heap.size+1 by simp] at h
  refine h.of_block ?_
  rw[heap_alloc_old _ _ (by simp),heap_alloc_old _ _ (by simp)]
 ·rw[heap_alloc_old _ _ (by simp)]
  have:=heap_alloc_new ((W.alloc (.cells #[v] 32)).alloc (.cells falses 130)) (.cells #[.slice none 0 0] 54)
  simpa using this
 ·have:=heap_alloc_new (((W.alloc (.cells #[v] 32)).alloc (.cells falses 130)).alloc (.cells #[.slice none 0 0] 54)) (.cells #[.func (.func 166) #[] #[.pointer (some ⟨W.heap.size+1,0,none⟩),.pointer (some ⟨W.heap.size,0,none⟩),.pointer (some ⟨W.heap.size+1+1+1,0,none⟩),.pointer (some ⟨W.heap.size+1+1,0,none⟩)]] 262)
  simpa using this
 ·exact((((Below.refl _ _).alloc (Nat.le_refl _) _).alloc (by simp) _).alloc (by simp;omega) _).alloc (by simp;omega) _
 ·simp
theorem lK{w':World}(w:World)(h:w' = { w with heap:=w'.heap })(e:w'.heap=w.heap):w'=w:=by
 rw[e] at h;exact h
theorem kY{w:World}{g:Nat}{cs:Array Value}{t:TypeId}{fr:Nat × Nat}(hg:w.heap[g]?=some (.cells cs t fr)):w.setRow g cs=w:=by
 have e:(w.setRow g cs).heap=w.heap:=by
  apply Array.ext_getElem?
  intro k
  by_cases h:k=g
  ·subst h
   rw[setRow_heap w k cs cs t fr hg,hg]
  ·simp only[World.setRow,Array.getElem?_modify]
   rw[if_neg (fun e=>h e.symm)]
 exact lK (w':=w.setRow g cs) w rfl e
theorem oQ{o:Oper}{a:Act}{w:World}(x:Operand)(ho:o.op=.load 130 x)
 (g:Nat) (hx:a.eval x=.pointer (some ⟨g,0,none⟩)) (t:TypeId) (cs:Array Value) (fr:Nat × Nat) (hg:w.heap[g]?=some (.cells cs t fr)) (hn:cs.size=256) :
 (execOp a.eval o).run Tryz.prog w=.ok (.value (.agg cs)) w:=by
 unfold execOp
 simp only[ho,hx,Instr.loadAt,Instr.sureAddr,Sem.run_bind,Sem.run_pure,Result.andThen_ok,run_loadVar_row w g t 130 cs fr _ hg Tryz.underlying130 rfl (by rw[hn];kernel_rfl)]
theorem oR{o:Oper}{a:Act}{w:World}(x:Operand)(ho:o.op=.load 54 x)
 (g:Nat) (hx:a.eval x=.pointer (some ⟨g,0,none⟩)) (v:Value) (hg:w.heap[g]?=some (.cells #[v] 54 (0,0))) :
 (execOp a.eval o).run Tryz.prog w=.ok (.value v) w:=by
 have hc:=cell_of_one hg
 unfold execOp
 simp only[ho,hx]
 go_simp
theorem oS{w:World}{g:Nat}{v:Value}(hg:w.heap[g]?=some (.cells #[v] 54 (0,0))):(loadVar 54 ⟨g,0,none⟩).run Tryz.prog w=.ok v w:=by
 have hc:=cell_of_one hg
 go_simp
theorem dQ{W:World}{B B' e size n:Nat}{v:Value}{xs:List Value}(h:B'<=B)(g:W.ownsRow B e size v n xs):W.ownsRow B' e size v n xs :=
 ⟨g.1,g.2.imp id fun⟨b,cap,cur,e,hb,r⟩=>⟨b,cap,cur,e,Nat.le_trans h hb,r⟩⟩
theorem mZ{o:Oper}{a:Act}{w:World}{K:Act->World->Prop}{Q:Exit->Act->World->Prop}(x y:Operand)(ho:o.op=.store 54 x y)
 (g:Nat) (v:Value) (hx:a.eval x=.pointer (some ⟨g,0,none⟩)) (hy:a.eval y=v) (hg:w.heap[g]?=some (.cells #[v] 54 (0,0))) (h1:v.oneCell'=true)
 (h:K (a.put o.dst undef) w):o.wp Tryz.prog a w K Q:=by
 unfold Oper.wp execOp
 simp only[ho,hx,hy,Instr.storeAt,Instr.sureAddr,Sem.run_bind,Sem.run_pure,Result.andThen_ok,run_storeVar_one (P:=Tryz.prog) w g 54 54 v v hg (by kernel_rfl) h1]
 rw[kY hg]
 exact h
def WalkP(B:Nat)(s:GG.St)(e:Ending)(W W':World):Prop :=
 ∃(cs:Array Value) (bv:Value),e=.returned (.tuple #[.agg cs,bv])/\cs.size=256/\(∀i,i<256->cs[i]?=some (.bool (s.1 i)))/\W'.ownsRow B 3 1 bv s.2.length (ap (s.2.map Int.ofNat))/\B<=W'.heap.size/\Below B W W'
set_option maxRecDepth 100000 in
set_option maxHeartbeats 1600000 in
theorem jL{v:Value}{to:List (List Int)}(u:Value)(l:List Int)(W:World)(hr:GG.al to=true)(hv:aq W.heap.size W v to)(hu:Row W.heap.size W u l)(hll:l.length<=17592186044416)(hl:∀x∈l,0<=x/\x<to.length) :
 Calls Tryz.prog 117 #[v,u] W fun e W'=>WalkP W.heap.size (GG.runG (GG.am to) (l.map Int.toNat)) e W W':=by
 obtain⟨ua,uc,rfl⟩:=hu.form
 obtain⟨vb,vo,vc,rfl⟩:=hv.addr (by have:=GG.aC hr;omega)
 have hz:=fun(w:World)=>eu w
 have hmf:∀(fn:Fn) (first cap:Array Value) (w:World),(Instr.makeFunc fn first cap).run Tryz.prog w=.ok (.func fn first cap) w:=fun _ _ _ _=>rfl
 have HU:=zH hu
 have HV:=zH hv
 have HL:=zH hl
 have HLN:=zH (fun q=>qg hr hl q)
 have HALL:=zH (fun q (hq:l.length<=q)=>qf (GG.am to) hq)
 have HNW:=zH (vst_new W (.slice (some ⟨vb,vo,none⟩) to.length vc))
 have HR:=zH hr
 clear hu hv hl hr
 go_enter Tryz.func117,Tryz.ntmps117
 go_wp2_with fail
 go_loopw [12] (fun k wr=>∃q:Nat,q<=l.length/\k=.int .i64 (q:Int)/\VSt W.heap.size W (.slice (some ⟨vb,vo,none⟩) to.length vc) (runT (GG.am to) l q) wr) (fun k _=>l.length-(intOf k).toNat)
 case atStart=>exact⟨0,Nat.zero_le _,rfl,by rw[runT_zero];exact HNW.out⟩
 case round =>
  obtain⟨q,hq,rfl,hS⟩:=hrel
  have HS:=zH hS
  clear hS
  by_cases hqt:q<l.length
  ·have hcv:wr.cell? ⟨W.heap.size+1+1+1,0,none⟩=_:=cell_of_one HS.out.vis
   obtain⟨xb,xo,rfl,hx⟩:=(HU.out.below HS.out.below).cellAt hqt
   have i1:(0:Int)<=q/\(q:Int)<l.length:=by omega
   have HX:=zH (HL.out _ (GG.bn (d:=0) hqt))
   have HST:=zH (runT_succ (GG.am to) hqt)
   obtain⟨x,ex⟩:∃x,x=l[q]?.getD 0:=⟨_,rfl⟩
   rw[<-ex] at hx HX HST
   clear ex
   obtain⟨y,rfl⟩:∃y:Nat,x=(y:Int):=⟨x.toNat,by have:=HX.out;omega⟩
   have HY:=zH (show y<to.length by have:=HX.out;omega)
   go_wp2_with (go_at_call 166;refine(visit_any rfl HR.out HV.out 257 y _ _ HY.out (by have:=GG.ir to.length (runT (GG.am to) l q).1;have:=GG.aC HR.out;omega) (HLN.out q) HS.out).mono ?_;rintro e w' ⟨rfl,hP'⟩;have HP':=zH hP';clear hP')
   go_roundw
   case rel=>exact⟨q+1,by omega,by go_num,by rw[HST.out,Int.toNat_natCast];exact HP'.out⟩
   case measure=>simp [intOf];omega
  ·have HE:=zH (HALL.out q (by omega))
   obtain⟨cs,hcs,hcn,hci⟩:=HS.out.been
   obtain⟨bv,hbb,hbr⟩:=HS.out.beh
   have HCS:=zH hcs
   have HCI:=zH hci
   have HBB:=zH hbb
   have HBR:=zH hbr
   have HONE:=zH (show cs.all (·.oneCell')=true by
    rw[Array.all_eq_true]
    intro i hi
    have:=HCI.out i (by omega)
    rw[Array.getElem?_eq_getElem hi] at this
    rw[Option.some.inj this];rfl)
   clear hcs hci hbb hbr
   have hcb:wr.cell? ⟨W.heap.size+1+1,0,none⟩=some bv:=cell_of_one HBB.out
   have hfb:wr.frozen? ⟨W.heap.size+1+1,0,none⟩=false:=free_of_one HBB.out
   have HCN:=zH hcn
   clear hcn hz hmf
   obtain⟨ba,bc,rfl⟩:=GG.aI HBR.out
   go_wp2_with fail
   refine wp_region_held_drew (S:=fun V=>V.Alike wr) (by kernel_rfl) ⟨rfl,rfl,rfl⟩ (fun hHeld=>?_)
   refine wpAnyH_take (i:=0) (v:=.agg cs) rfl (by kernel_rfl) (by kernel_rfl) (by kernel_rfl) (fun _ _ _ h=>h) (Or.inl ⟨by rfl,fun V hV=>?_⟩) hHeld ?_
   ·exact oQ (.tmp 4) rfl (W.heap.size+1) rfl 130 cs (0,0) ((congrArg (·[W.heap.size+1]?) hV.1).trans HCS.out) HCN.out
   try simp only[zA,zB,zC,Act.put,zD,zE,zF]
   refine wpAnyH_take (i:=1) (v:=.slice ba (runT (GG.am to) l q).2.length bc) rfl (by kernel_rfl) (by kernel_rfl) (by kernel_rfl) (fun _ _ _ h=>h) (Or.inl ⟨by rfl,fun V hV=>?_⟩) hHeld ?_
   ·exact oR (.tmp 5) rfl (W.heap.size+1+1) rfl _ ((congrArg (·[W.heap.size+1+1]?) hV.1).trans HBB.out)
   try simp only[zA,zB,zC,Act.put,zD,zE,zF]
   refine wpAnyH_ready (rs:=[2]) (by kernel_rfl) (by simp) ?_
   refine AllReadyH.cons rfl (fun K hK=>?_) AllReadyH.nil
   try simp only[zA,zB,zC]
   rw[if_pos (by rfl)]
   refine wp_store_row 130 (.tmp 4) (.tmp 20) rfl (W.heap.size+1) cs rfl rfl 130 cs HCS.out (by rw[HCN.out];kernel_rfl) rfl HONE.out ?_
   rw[kY (w:=wr.drew) HCS.out]
   refine hK.out _ _ hHeld (fun hHeld=>?_)
   clear hK K
   try simp only[zA,zB,zC,Act.put,zD,zE,zF]
   refine wpAnyH_ready (rs:=[3]) (by kernel_rfl) (by simp) ?_
   refine AllReadyH.cons rfl (fun K hK=>?_) AllReadyH.nil
   try simp only[zA,zB,zC]
   rw[if_pos (by rfl)]
   refine mZ (.tmp 5) (.tmp 21) rfl (W.heap.size+1+1) _ rfl rfl HBB.out rfl ?_
   refine hK.out _ _ hHeld (fun hHeld=>?_)
   clear hK K
   try simp only[zA,zB,zC,Act.put,zD,zE,zF]
   refine wpAnyH_done (by kernel_rfl) ?_ _
   go_wp2_with fail
   have HCS':=zH (show wr.drew.heap[W.heap.size+1]?=_ from HCS.out)
   refine bodyPost_ret (v:=.tuple #[.agg cs,.slice ba (runT (GG.am to) l q).2.length bc]) ?_ rfl ?_
   ·have h1:=run_loadVar_row (P:=Tryz.prog) wr.drew (W.heap.size+1) 130 130 cs (0,0) _ HCS.out Tryz.underlying130 rfl (by rw[HCN.out];kernel_rfl)
    simp only[results,Tryz.results117]
    have h2:(loadVar 54 ⟨W.heap.size+1+1,0,none⟩).run Tryz.prog wr.drew=.ok (.slice ba (runT (GG.am to) l q).2.length bc) wr.drew:=oS (w:=wr.drew) HBB.out
    simp [asAddr,h1,h2]
   ·exact⟨cs,_,rfl,HCN.out,by rw[<-HE.out];exact HCI.out,by rw[<-HE.out];exact dQ (by omega) HBR.out,HS.out.below.size,HS.out.below.drew⟩
end
section
open Go.RowKit
theorem Tryz.infoGBool:(Tryz.prog.info? 4).map (fun i=>(i.zero,i.size,i.bytes))=some (some (.bool false),1,1):=by kernel_rfl
theorem bF(w:World)(old cs:Array Value)(t:TypeId):(w.alloc (.cells old t)).setRow w.heap.size cs=w.alloc (.cells cs t):=by
 have e:((w.alloc (.cells old t)).setRow w.heap.size cs).heap=(w.alloc (.cells cs t)).heap:=by
  apply Array.ext_getElem?
  intro k
  by_cases h:k=w.heap.size
  ·subst h
   rw[setRow_heap _ _ old cs t (0,0) (heap_alloc_new _ _),heap_alloc_new]
  ·simp only[World.setRow,Array.getElem?_modify]
   rw[if_neg (fun e=>h e.symm)]
   by_cases h2:k<w.heap.size
   ·rw[heap_alloc_old _ _ h2,heap_alloc_old _ _ h2]
   ·rw[Array.getElem?_eq_none (by simp;omega),Array.getElem?_eq_none (by simp;omega)]
 exact lK (w':=(w.alloc (.cells old t)).setRow w.heap.size cs) (w.alloc (.cells cs t)) rfl e
theorem qh(W:World)(cs:Array Value)(B:Nat->Bool)(hn:cs.size=256)(hc:∀i,i<256->cs[i]?=some (.bool (B i))):fd (W.alloc (.cells cs 130)) W.heap.size B :=
 ⟨cs,heap_alloc_new W _,hn,hc⟩
theorem oT{cs:Array Value}{B:Nat->Bool}(hn:cs.size=256)(hc:∀i,i<256->cs[i]?=some (.bool (B i))):cs.all (·.oneCell')=true:=by
 rw[Array.all_eq_true]
 intro i hi
 have:=hc i (by omega)
 rw[Array.getElem?_eq_getElem hi] at this
 rw[Option.some.inj this];rfl
theorem slice46(n:Nat)(hn:n<=256)(g:Nat)(w:World):(Instr.sliceAt 130 (.pointer (some ⟨g,0,none⟩)) none (some (.int .i64 n)) none).run Tryz.prog w=.ok (.slice (some ⟨g,0,none⟩) n 256) w:=by
 have el:Tryz.prog.arrayLen 130=256:=by kernel_rfl
 have ee:Tryz.prog.elem 130=4:=by kernel_rfl
 have hs:(sizeOf 4).run Tryz.prog w=.ok 1 w:=by kernel_rfl
 have h:=run_sliceAt_array_h (P:=Tryz.prog) w 130 ⟨g,0,none⟩ (by kernel_rfl) .i64 (n:Int) (by omega) (by rw[el];omega)
 rw[h,ee,hs,el]
 simp [slicedAt,Addr.add]
theorem aq.on{n:Nat}{W W':World}{v:Value}{to:List (List Int)}(h:aq n W v to)(hb:Below n W W')(hn:n<=W'.heap.size):aq W'.heap.size W' v to:=(h.below hb).mono hn
theorem oU(W:World)(x:Int)(t:TypeId):Row (W.alloc (.cells #[.int .i64 x] t)).heap.size (W.alloc (.cells #[.int .i64 x] t)) (.slice (some ⟨W.heap.size,0,none⟩) 1 1) [x] :=
 .inr ⟨W.heap.size,0,1,rfl,by simp,by simp [ap],fun j u hj=>by
  have:=GG.aW W (.int .i64 x) t j u hj
  rwa [Addr.add_lit] at this⟩
def cO(n:Nat)(B:Nat->Bool):List Bool:=(List.range n).map B
theorem bM(n:Nat)(B:Nat->Bool):(cO n B).length=n:=by simp [cO]
theorem iU{n:Nat}{B:Nat->Bool}{i:Nat}(h:i<n):(cO n B)[i]?=some (B i):=by simp [cO,List.getElem?_map,List.getElem?_range h]
theorem jM{n:Nat}{B:Nat->Bool}{j:Nat}{u:Value}(h:(bt (cO n B))[j]?=some u):j<n/\u=.bool (B j):=by
 have hj:j<n:=by
  have:=(List.getElem?_eq_some_iff.1 h).1
  rw[dD,bM] at this;exact this
 unfold bt at h
 rw[List.getElem?_map,iU hj] at h
 exact⟨hj,(Option.some.inj h).symm⟩
theorem nd(xs:List Bool):∀u∈bt xs,u.oneCell'=true:=by
 intro u hu
 obtain⟨q,_,rfl⟩:=List.mem_map.1 hu
 rfl
def dR(to:List (List Int))(i:Int):List Bool:=if GG.al to=true/\GG.inB to.length i=true then cO to.length (GG.reachB to (-1) i.toNat) else []
def NewBools(B:Nat)(l:List Bool)(e:Ending)(W W':World):Prop:=∃v,e=.returned v/\BRow W'.heap.size W' v l/\Below B W W'
def OwnBools(B:Nat)(l:List Bool)(e:Ending)(W W':World):Prop:=∃v,e=.returned v/\W'.ownsRow B 4 1 v l.length (bt l)/\Below B W W'
set_option maxRecDepth 100000 in
set_option maxHeartbeats 3200000 in
theorem kZ{v:Value}{to:List (List Int)}(i:Int)(W:World)(hv:aq W.heap.size W v to)(hx:cQ to) :
 Calls Tryz.prog 73 #[v,.int .i64 i] W fun e W'=>OwnBools W.heap.size (dR to i) e W W':=by
 have hx0:=hx.1
 have HV:=zH hv
 have HX:=zH hx
 obtain⟨va,vc,rfl⟩:=hv.form
 clear hv hx
 cases hr:GG.al to
 ·have HR:=zH hr
  have HE:=zH (show dR to i=[] by unfold dR;rw[if_neg (by rw[hr];simp)])
  clear hr
  go_enter Tryz.func73,Tryz.ntmps73
  go_wp2_with (go_at_call 35;refine(aT _ to _ HV.out HX.out).mono ?_;rintro e w' ⟨rfl,hB⟩;have HB:=zH hB;clear hB;rw[HR.out])
  go_ret
  exact⟨_,rfl,by rw[HE.out];exact World.ownsRow_nil _ _ _ _,HB.out⟩
 ·cases hi:GG.inB to.length i
  ·have HR:=zH hr
   have HI:=zH hi
   have HE:=zH (show dR to i=[] by unfold dR;rw[if_neg (by rw[hi];simp)])
   clear hr hi
   go_enter Tryz.func73,Tryz.ntmps73
   go_wp2_with (first
    | (go_at_call 35;refine(aT _ to _ HV.out HX.out).mono ?_;rintro e w' ⟨rfl,hB⟩;have HB:=zH hB;clear hB;rw[HR.out])
    | (go_at_call 61;refine(it _ to.length _ _ ⟨_,_,rfl⟩ hx0).mono ?_;rintro e w' ⟨rfl,rfl⟩;rw[HI.out]))
   go_ret
   exact⟨_,rfl,by rw[HE.out];exact World.ownsRow_nil _ _ _ _,HB.out⟩
  ·have hin:=of_decide_eq_true hi
   have HR:=zH hr
   have HI:=zH hi
   have hlen:=GG.aC hr
   obtain⟨k,rfl⟩:∃k:Nat,i=(k:Int):=⟨i.toNat,by omega⟩
   have HE:=zH (show dR to k=cO to.length (GG.runG (GG.am to) [k]).1 by
    unfold dR
    rw[if_pos ⟨hr,hi⟩,Int.toNat_natCast]
    have e:∀x,GG.reachB to (-1) k x=(GG.runG (GG.am to) [k]).1 x:=fun x=>by unfold GG.reachB;rw[GG.fH _ _ (by decide)]
    unfold cO
    exact List.map_congr_left fun x _=>e x)
   have hz:=fun(w:World)=>eu w
   have HIN:=zH hin
   have hs46:=slice46 to.length hlen.2
   obtain⟨b0,hb0,hy0,hy1,hy2⟩:=info_parts Tryz.infoGBool
   clear hr hi hin
   go_enter Tryz.func73,Tryz.ntmps73
   go_wp2_with (first
    | (go_at_call 35;refine(aT _ to _ HV.out HX.out).mono ?_;rintro e w' ⟨rfl,hB⟩;have HB:=zH hB;clear hB;rw[HR.out])
    | (go_at_call 61;refine(it _ to.length _ _ ⟨_,_,rfl⟩ hx0).mono ?_;rintro e w' ⟨rfl,rfl⟩;rw[HI.out])
    | (go_at_call 117
       refine(jL (to:=to) _ [(k:Int)] _ HR.out (HV.out.on (HB.out.alloc HB.out.size _) (by have:=HB.out.size;simp;omega)) (oU _ _ _) (by simp) (by intro x hx;rw[List.mem_singleton.1 hx];exact HIN.out)).mono ?_
       rintro e w' ⟨cs,bv,rfl,hn,hc,ho,hs,hB2⟩
       have HCN:=zH hn
       have HCI:=zH hc
       have HB2:=zH (bstep (HB.out.alloc HB.out.size _) hB2)
       have HF:=zH (qh w' cs _ hn hc)
       have HONE:=zH (oT hn hc)
       clear hn hc ho hs hB2)
    | (refine wpList_store_row rfl 130 (.tmp 5) (.tmp 21) rfl _ cs rfl rfl 130 falses (heap_alloc_new _ _) (by rw[HCN.out];kernel_rfl) (by rw[HCN.out];simp [falses]) HONE.out ?_
       rw[bF])
    | (at_builtin
       refine GG.wpList_append_any rfl _ _ 38 rfl W.heap.size 4 b0 (.bool false) 1 1 Tryz.underlying38 hb0 hy0 hy1 hy2 rfl (by decide) (.slice none 0 0) 0 [] rfl (World.ownsRow_nil _ _ _ _) _ to.length (bt (cO to.length (GG.runG (GG.am to) [k]).1)) rfl (by rw[dD,bM,Nat.mul_one]) (.inr ⟨_,_,rfl,fun j u hj=>by obtain⟨hj1,rfl⟩:=jM hj;rw[Addr.add_lit,Nat.zero_add];exact HF.out.cell (by omega)⟩) (nd _) (by unfold maxLen;omega) (by omega) (by have:=HB2.out.size;simp;omega) ?_
       intro v1 w1 ho hg
       rw[Nat.zero_add,List.nil_append] at ho
       have HO:=zH ho
       have HG:=zH ((HB2.out.alloc HB2.out.size _).grown hg (by have:=HB2.out.size;simp;omega) (fun j e=>by simp [Value.ownBlock] at e))
       clear ho hg))
   go_ret
   exact⟨_,rfl,by rw[HE.out,bM];exact HO.out,HG.out⟩
end
section
open Go.RowKit
def foundN(x:Int):Int:=if 0<=x then x else 0
def foundB(x:Int):Bool:=decide (0<=x)
def gW(x:Int):Ending:=.returned (.tuple #[.int .i64 (foundN x),.bool (foundB x)])
theorem gX(k:Nat):gW (k:Int)=.returned (.tuple #[.int .i64 (k:Int),.bool true]):=by
 unfold gW foundN foundB;rw[if_pos (by omega),decide_eq_true (by omega)]
theorem dg:gW (-1)=.returned (.tuple #[.int .i64 0,.bool false]):=by
 unfold gW foundN foundB;rw[if_neg (by omega),decide_eq_false (by omega)]
set_option maxRecDepth 100000 in
set_option maxHeartbeats 800000 in
theorem nr(cs:Array Value)(B:Nat->Bool)(n:Nat)(W:World)(hn:cs.size=256)(hc:∀i,i<256->cs[i]?=some (.bool (B i)))(h:n<=256) :
 Calls Tryz.prog 181 #[.agg cs,.int .i64 n] W fun e W'=>e=gW (GG.cE n (fun x=>!B x))/\Below W.heap.size W W':=by
 have HF:=zH (qh W cs B hn hc)
 clear hn hc
 go_enter Tryz.func181,Tryz.ntmps181
 go_wp2_with fail
 go_loop [8] (fun k=>∃i:Nat,i<=n/\k=.int .i64 (i:Int)/\RowKit.Hid (∀j,j<i->(fun x=>!B x) j=false)) (fun k=>n-(intOf k).toNat)
 case atStart=>exact⟨0,Nat.zero_le _,rfl,zH (fun j hj=>absurd hj (Nat.not_lt_zero _))⟩
 case round =>
  obtain⟨i,hi,rfl,HN⟩:=hrel
  by_cases hlt:i<n
  ·have hc:=HF.out.cell (show i<256 by omega)
   have i1:(0:Int)<=i/\(i:Int)<256:=by omega
   cases hb:B i
   ·rw[hb] at hc
    have HS:=zH (GG.dC (p:=fun x=>!B x) hlt (by show (!B i)=true;rw[hb];rfl) HN.out)
    clear hb
    go_wp2_with fail
    go_ret2
    exact⟨by rw[HS.out];exact(gX i).symm,(Below.refl _ _).alloc (Nat.le_refl _) _⟩
   ·rw[hb] at hc
    have HS:=zH (show ∀j,j<i+1->(fun x=>!B x) j=false from fun j hj=>(Nat.lt_succ_iff_lt_or_eq.1 hj).elim (HN.out j) (fun e=>by rw[e];show (!B i)=false;rw[hb];rfl))
    clear hb
    go_wp2_with fail
    go_round
    case rel=>exact⟨i+1,by omega,by go_num,HS⟩
    case measure=>simp [intOf];omega
  ·have HS:=zH (GG.dI (n:=n) (p:=fun x=>!B x) (fun j hj=>HN.out j (by omega)))
   go_wp2_with fail
   go_ret2
   exact⟨by rw[HS.out];exact dg.symm,(Below.refl _ _).alloc (Nat.le_refl _) _⟩
def ft(to:List (List Int)):Int:=if GG.al to=true then GG.cE to.length (fun x=>!GG.reachB to (-1) 0 x) else -1
def fU(to:List (List Int)):Int:=if GG.al to=true then GG.cE to.length (fun x=>!GG.endsB to x) else -1
set_option maxRecDepth 100000 in
set_option maxHeartbeats 3200000 in
theorem iv{v:Value}{to:List (List Int)}(W:World)(hv:aq W.heap.size W v to)(hx:cQ to) :
 Calls Tryz.prog 138 #[v] W fun e W'=>e=gW (ft to)/\Below W.heap.size W W':=by
 have hx0:=hx.1
 have HV:=zH hv
 have HX:=zH hx
 obtain⟨va,vc,rfl⟩:=hv.form
 clear hv hx
 cases hr:GG.al to
 ·have HR:=zH hr
  have HE:=zH (show ft to = -1 by unfold ft;rw[if_neg (by rw[hr];simp)])
  clear hr
  go_enter Tryz.func138,Tryz.ntmps138
  go_wp2_with (go_at_call 35;refine(aT _ to _ HV.out HX.out).mono ?_;rintro e w' ⟨rfl,hB⟩;have HB:=zH hB;clear hB;rw[HR.out])
  go_ret2
  exact⟨by rw[HE.out];exact dg.symm,HB.out⟩
 ·have HR:=zH hr
  have hlen:=GG.aC hr
  have HE:=zH (show ft to=GG.cE to.length (fun x=>!(GG.runG (GG.am to) [0]).1 x) by
   unfold ft
   rw[if_pos hr]
   exact GG.jJ fun x _=>by unfold GG.reachB;rw[GG.fH _ _ (by decide)])
  have hz:=fun(w:World)=>eu w
  clear hr
  go_enter Tryz.func138,Tryz.ntmps138
  go_wp2_with (first
   | (go_at_call 35;refine(aT _ to _ HV.out HX.out).mono ?_;rintro e w' ⟨rfl,hB⟩;have HB:=zH hB;clear hB;rw[HR.out])
   | (go_at_call 117
      refine(jL (to:=to) _ [0] _ HR.out (HV.out.on (HB.out.alloc HB.out.size _) (by have:=HB.out.size;simp;omega)) (oU _ _ _) (by simp) (by intro x hx;rw[List.mem_singleton.1 hx];omega)).mono ?_
      rintro e w' ⟨cs,bv,rfl,hn,hc,ho,hs,hB2⟩
      have HCN:=zH hn
      have HCI:=zH hc
      have HB2:=zH (bstep (HB.out.alloc HB.out.size _) hB2)
      have HONE:=zH (oT hn hc)
      have hgn:=heap_alloc_new w' (.cells cs 130)
      clear hn hc ho hs hB2)
   | (refine wpList_store_row rfl 130 (.tmp 4) (.tmp 13) rfl _ cs rfl rfl 130 falses (heap_alloc_new _ _) (by rw[HCN.out];kernel_rfl) (by rw[HCN.out];simp [falses]) HONE.out ?_
      rw[bF])
   | (refine wpList_load_row rfl 130 (.tmp 4) rfl _ rfl 130 cs (0,0) _ (heap_alloc_new _ _) Tryz.underlying130 rfl (by rw[HCN.out];kernel_rfl) ?_)
   | (go_at_call 181
      refine(nr cs _ to.length _ HCN.out HCI.out hlen.2).mono ?_
      rintro e w3 ⟨rfl,hB3⟩
      have HB3:=zH (bstep (HB2.out.alloc HB2.out.size _) hB3)
      clear hB3
      unfold gW))
  go_ret2
  exact⟨by rw[HE.out];rfl,HB3.out⟩
end
end Go.Proofs.YtjngffgkllakaaaGreatDoor
namespace Go.Proofs.YtjngffgkllakaaaGreatDoor.GG
theorem rX{to:List (List Int)}{no:Int}{i:Nat}{B:Nat->Bool}(hr:al to=true)(hi:i<to.length)(h:∀k,k<(to[i]?.getD []).length->(to[i]?.getD [])[k]?.getD 0≠no->B ((to[i]?.getD [])[k]?.getD 0).toNat=true):∀j∈adjN to no i,B j=true:=by
 intro j hj
 unfold adjN am at hj
 rw[List.mem_filter,List.mem_map] at hj
 obtain⟨⟨x,hx,rfl⟩,h2⟩:=hj
 obtain⟨k,hk,e⟩:=List.getElem_of_mem hx
 have e2:(to[i]?.getD [])[k]?.getD 0=x:=by rw[List.getElem?_eq_getElem hk,Option.getD_some,e]
 have:=h k hk (by rw[e2];have h3:=of_decide_eq_true h2;have:=df (aZ hr hi) x hx;omega)
 rwa [e2] at this
theorem step_row{to:List (List Int)}{no:Int}{i k:Nat}(hr:al to=true)(hi:i<to.length)(hk:k<(to[i]?.getD []).length)(hn:(to[i]?.getD [])[k]?.getD 0≠no){f:Nat}(h:Reach (adjN to no) f i):Reach (adjN to no) f ((to[i]?.getD [])[k]?.getD 0).toNat:=by
 refine .step h ?_
 unfold adjN am
 have hm:=bn (d:=(0:Int)) hk
 have:=df (aZ hr hi) _ hm
 rw[List.mem_filter,List.mem_map]
 exact⟨⟨_,hm,rfl⟩,decide_eq_true (by rw[Int.toNat_of_nonneg this.1];exact hn)⟩
end Go.Proofs.YtjngffgkllakaaaGreatDoor.GG
namespace Go.Proofs.YtjngffgkllakaaaGreatDoor
open List renaming getElem_toArray → zA, getElem_cons_succ → zB, getElem_cons_zero → zC, setIfInBounds_toArray → zD, set_cons_zero → zE, set_cons_succ → zF
open Lib renaming hid → zH
section
open Go.RowKit
theorem aq.blk{n₀:Nat}{W:World}{b off n cap:Nat}{to:List (List Int)}(h:aq n₀ W (.slice (some ⟨b,off,none⟩) n cap) to)(h0:0<to.length):b<n₀:=by
 obtain⟨vs,h1,h2,_⟩:=h
 obtain⟨b',off',cap',e,hb,_⟩:=h1.at (by omega)
 cases e;exact hb
def dt(W:World)(g n:Nat)(B:Nat->Bool):Prop:=W.rowIs g 4 n (fun i=>.bool (B i))
theorem dt.set{W:World}{g n:Nat}{B:Nat->Bool}(h:dt W g n B)(i:Nat):dt (W.setCell ⟨g,i,none⟩ (.bool true)) g n (GG.setB B i):=by
 refine World.rowIs.congr (World.rowIs.set h i (.bool true)) (fun j _=>?_)
 unfold GG.setB
 by_cases e:j=i <;> simp [e]
theorem dt.row{W:World}{g n:Nat}{B:Nat->Bool}(h:dt W g n B):BRow W.heap.size W (.slice (some ⟨g,0,none⟩) n n) (cO n B):=by
 refine .inr ⟨g,0,n,by rw[dD,bM],World.rowIs.lt h,by rw[dD,bM];exact Nat.le_refl _,fun j u hj=>?_⟩
 obtain⟨hj1,rfl⟩:=jM hj
 rw[Nat.zero_add]
 exact World.rowIs.cell h hj1
def gm(to:List (List Int))(no:Int)(f:Nat)(B:Nat->Bool):Prop:=B f=true/\∀x,B x=true->GG.Reach (GG.adjN to no) f x
def cR(to:List (List Int))(no:Int)(m:Nat)(B:Nat->Bool):Prop:=∀i,i<m->B i=true->∀j∈GG.adjN to no i,B j=true
def ew(row:List Int)(no:Int)(m:Nat)(B:Nat->Bool):Prop:=∀k,k<m->row[k]?.getD 0≠no->B (row[k]?.getD 0).toNat=true
def go(n:Nat)(B0 B:Nat->Bool)(t:Bool)(P:Prop):Prop:=(t=false/\B=B0/\P)∨(t=true/\GG.unv n B<GG.unv n B0)
theorem go.set{n:Nat}{B0 B:Nat->Bool}{t:Bool}{P:Prop}(h:go n B0 B t P){x:Nat}(hx:x<n)(hb:B x=false){Q:Prop}:go n B0 (GG.setB B x) true Q:=by
 have:=GG.eY n hx hb
 rcases h with⟨_,rfl,_⟩ | ⟨_,h⟩
 ·exact .inr ⟨rfl,this⟩
 ·exact .inr ⟨rfl,by omega⟩
theorem go.imp{n:Nat}{B0 B:Nat->Bool}{t:Bool}{P Q:Prop}(h:go n B0 B t P)(f:B=B0->P->Q):go n B0 B t Q :=
 h.elim (fun⟨a,b,c⟩=>.inl ⟨a,b,f b c⟩) .inr
theorem gm.set{to:List (List Int)}{no:Int}{f x:Nat}{B:Nat->Bool}(h:gm to no f B)(hr:GG.Reach (GG.adjN to no) f x):gm to no f (GG.setB B x) :=
 ⟨(GG.db _ _ _).2 (.inr h.1),fun y hy=>((GG.db _ _ _).1 hy).elim (fun e=>by rw[e];exact hr) (h.2 y)⟩
theorem wo_at{to:List (List Int)}{no:Int}{f:Nat}{B:Nat->Bool}(hr:GG.al to=true)(hf:f<to.length)(h:gm to no f B)(g:cR to no to.length B)(x:Nat):B x=GG.reachB to no f x :=
 GG.reachB_of hr hf h.1 h.2 (fun y hy j hj=>g y ((h.2 y hy).lt (GG.lA hr) hf) hy j hj) x
def lL(W:World)(n:Nat)(B:Nat->Bool)(e:Ending)(W':World):Prop:=e=.returned (.slice (some ⟨W.heap.size,0,none⟩) n n)/\dt W' W.heap.size n B/\Below W.heap.size W W'
set_option maxRecDepth 100000 in
set_option maxHeartbeats 6400000 in
theorem iw{v:Value}{to:List (List Int)}(f:Nat)(no:Int)(W:World)(hv:aq W.heap.size W v to)(hr:GG.al to=true)(hf:f<to.length)(hno:(f:Int)≠no) :
 Calls Tryz.prog 75 #[v,.int .i64 f,.int .i64 no] W fun e W'=>lL W to.length (GG.reachB to no f) e W':=by
 have hlen:=GG.aC hr
 have HV:=zH hv
 have HR:=zH hr
 obtain⟨va,vo,vc,rfl⟩:=hv.addr (by omega)
 have hmk:=run_make_row' (P:=Tryz.prog) 38 4 (.bool false) 1 (by kernel_rfl) Tryz.infoGBool rfl .i64 .i64 to.length (by omega) (by omega)
 have HM:dt (W.alloc (.cells (madeCells #[.bool false] to.length) 4)) W.heap.size to.length (fun _=>false):=World.rowIs_made W (.bool false) to.length 4
 have hcf:=World.rowIs.cell HM hf
 have hff:=World.rowIs.frozen HM f
 have H0:=zH (show dt (W.alloc (.cells ((madeCells #[.bool false] to.length).setIfInBounds f (.bool true)) 4)) W.heap.size to.length (GG.setB (fun _=>false) f) by
  have h:=HM.set f
  rwa [World.setCell_alloc_at _ _ _ _ _ rfl] at h)
 have hvb:=HV.out.blk (by omega)
 have HI0:=zH (show gm to no f (GG.setB (fun _=>false) f) from⟨GG.iS _ _,fun x hx=>((GG.db _ _ _).1 hx).elim (fun e=>by rw[e];exact .refl _) (fun h=>by cases h)⟩)
 have HB0:=zH ((Below.refl W.heap.size W).alloc (Nat.le_refl _) (.cells ((madeCells #[.bool false] to.length).setIfInBounds f (.bool true)) 4))
 clear hv hr HM
 have i1:(0:Int)<=f/\(f:Int)<to.length:=by omega
 have hne:((f:Int) == no)=false:=beq_eq_false_iff_ne.2 hno
 clear hno
 go_enter Tryz.func75,Tryz.ntmps75
 go_wp2_with fail
 clear hmk hcf hff hne
 go_loopg [8] (GG.unv to.length (GG.setB (fun _=>false) f)+1) (fun gn a wr=>∃(B:Nat->Bool) (t:Bool),a=.bool t/\dt wr W.heap.size to.length B/\Below W.heap.size W wr /\
  RowKit.Hid (gm to no f B/\((t=true/\gn=GG.unv to.length B+1)∨(t=false/\gn=0/\cR to no to.length B))))
 case atStart=>exact⟨_,true,rfl,H0.out,HB0.out,zH ⟨HI0.out,.inl ⟨rfl,rfl⟩⟩⟩
 case round =>
  obtain⟨B0,t,rfl,hF,hB,HH⟩:=hrel
  clear H0 HB0 HI0
  cases t
  ·have HZ:=zH (show ∀x,B0 x=GG.reachB to no f x by
    obtain⟨h1,h | h⟩:=HH.out
    ·cases h.1
    ·exact wo_at HR.out hf h1 h.2.2)
   have HO:=zH (World.rowIs.congr hF (g:=fun i=>.bool (GG.reachB to no f i)) (fun i _=>by rw[HZ.out i]))
   have HB:=zH hB
   clear hF hB
   go_wp2_with fail
   go_ret
   exact⟨rfl,HO.out,HB.out⟩
  ·have HG:=zH (show gk=GG.unv to.length B0+1 by
    obtain⟨_,h | h⟩:=HH.out
    ·exact h.2
    ·cases h.1)
   have HI:=zH HH.out.1
   clear HH
   go_wp2_with fail
   go_loopw [8,9] (fun a i wr=>∃(k:Nat) (B:Nat->Bool) (t:Bool),k<=to.length/\i=.int .i64 (k:Int)/\a=.bool t/\dt wr W.heap.size to.length B/\Below W.heap.size W wr /\
    RowKit.Hid (gm to no f B/\go to.length B0 B t (cR to no k B))) (fun _ i _=>to.length-(intOf i).toNat)
   case atStart=>exact⟨0,B0,false,Nat.zero_le _,rfl,rfl,hF,hB,zH ⟨HI.out,.inl ⟨rfl,rfl,fun i hi=>absurd hi (Nat.not_lt_zero _)⟩⟩⟩
   case round =>
    obtain⟨k,B,t,hk,rfl,rfl,hF2,hB2,HH⟩:=hrel
    clear hF hB HI
    by_cases hkn:k<to.length
    ·have hck:=World.rowIs.cell hF2 hkn
     have i2:(0:Int)<=k/\(k:Int)<to.length:=by omega
     have HF2:=zH hF2
     have HB2:=zH hB2
     clear hF2 hB2
     cases hb:B k
     ·rw[hb] at hck
      have HW:=zH (show gm to no f B/\go to.length B0 B t (cR to no (k+1) B) from⟨HH.out.1,HH.out.2.imp fun _ h i hi hbi=>(Nat.lt_succ_iff_lt_or_eq.1 hi).elim (fun h'=>h i h' hbi) (fun e=>by rw[e,hb] at hbi;cases hbi)⟩)
      clear hb
      go_wp2_with fail
      go_roundw
      case rel=>exact⟨k+1,B,t,by omega,by go_num,rfl,HF2.out,HB2.out,HW⟩
      case measure=>simp [intOf];omega
     ·rw[hb] at hck
      obtain⟨ra,rac,hx1,hrx⟩:=(HV.out.below HB2.out).at hkn
      have b1:(to[k]?.getD []).length<=17592186044416:=by have:=GG.dz (GG.aZ HR.out hkn);omega
      have HSTEP:=zH (fun q hq hn=>GG.step_row (no:=no) (k:=q) (f:=f) HR.out hkn hq hn)
      have HCL:=zH (fun(B:Nat->Bool) (h:ew (to[k]?.getD []) no (to[k]?.getD []).length B)=>GG.rX (no:=no) HR.out hkn h)
      have HIN:=zH (GG.df (GG.aZ HR.out hkn))
      obtain⟨r,er⟩:∃r,r=to[k]?.getD []:=⟨_,rfl⟩
      rw[<-er] at hx1 hrx b1 HSTEP HCL HIN
      have HRX:=zH hrx
      have HBK:=zH hb
      clear er hrx hb
      go_wp2_with fail
      obtain⟨wo,ewo⟩:∃wo:World,wo=wr:=⟨_,rfl⟩
      rw[<-ewo]
      rw[<-ewo] at HF2 HB2 hck hx1 HRX
      clear ewo
      go_loopw [8,10] (fun a i wr=>∃(q:Nat) (B:Nat->Bool) (t:Bool),q<=r.length/\i=.int .i64 (q:Int)/\a=.bool t/\dt wr W.heap.size to.length B/\Below W.heap.size W wr /\
       RowKit.Hid (B k=true/\gm to no f B/\go to.length B0 B t (cR to no k B/\ew r no q B))) (fun _ i _=>r.length-(intOf i).toNat)
      case atStart=>exact⟨0,B,t,Nat.zero_le _,rfl,rfl,HF2.out,HB2.out,zH ⟨HBK.out,HH.out.1,HH.out.2.imp fun _ h=>⟨h,fun q hq=>absurd hq (Nat.not_lt_zero _)⟩⟩⟩
      case round =>
       obtain⟨q,B,t,hq,rfl,rfl,hF3,hB3,HH3⟩:=hrel
       clear HH HBK HF2 hck
       have HF3:=zH hF3
       have HB3:=zH hB3
       clear hF3 hB3
       by_cases hqr:q<r.length
       ·obtain⟨xb,xo,rfl,hx2⟩:=(HRX.out.of_both HB2.out HB3.out).cellAt hqr
        have hx3:=(bcell0 HB2.out HB3.out va (vo+k) hvb).trans hx1
        have i3:(0:Int)<=q/\(q:Int)<r.length:=by omega
        have HX:=zH (HIN.out _ (GG.bn (d:=0) hqr))
        have HST:=zH (fun hn=>HSTEP.out q hqr hn (HH3.out.2.1.2 k HH3.out.1))
        have HCR:=zH (fun(hh:r[q]?.getD 0≠no->B (r[q]?.getD 0).toNat=true) (h:cR to no k B/\ew r no q B)=>(show cR to no k B/\ew r no (q+1) B from⟨h.1,fun q' hq'=>(Nat.lt_succ_iff_lt_or_eq.1 hq').elim (h.2 q') (fun e=>by rw[e];exact hh)⟩))
        have hx1':=hx1
        clear hx1
        obtain⟨x,ex⟩:∃x,x=r[q]?.getD 0:=⟨_,rfl⟩
        rw[<-ex] at hx2 HX HST HCR
        clear ex
        obtain⟨y,rfl⟩:∃y:Nat,x=(y:Int):=⟨x.toNat,by have:=HX.out;omega⟩
        have hyn:y<to.length:=by have:=HX.out;omega
        have i4:(0:Int)<=(y:Int)/\(y:Int)<to.length:=by omega
        rw[Int.toNat_natCast] at HST HCR
        clear hx1'
        by_cases hn:(y:Int)=no
        ·have HW:=zH (show B k=true/\gm to no f B/\go to.length B0 B t (cR to no k B/\ew r no (q+1) B) from⟨HH3.out.1,HH3.out.2.1,HH3.out.2.2.imp fun _=>HCR.out (fun h=>absurd hn h)⟩)
         have hn1:((y:Int) != no)=false:=bne_eq_false_iff_eq.2 hn
         clear hn
         go_wp2_with fail
         go_roundw
         case rel=>exact⟨q+1,B,t,by omega,by go_num,rfl,HF3.out,HB3.out,HW⟩
         case measure=>simp [intOf];omega
        ·have hn1:((y:Int) != no)=true:=bne_iff_ne.2 hn
         have HST2:=zH (HST.out hn)
         have hcy:=World.rowIs.cell HF3.out hyn
         have hfy:=World.rowIs.frozen HF3.out y
         clear hn
         cases hb:B y
         ·rw[hb] at hcy
          have HW:=zH (show GG.setB B y k=true/\gm to no f (GG.setB B y)/\go to.length B0 (GG.setB B y) true (cR to no k (GG.setB B y)/\ew r no (q+1) (GG.setB B y)) from⟨(GG.db _ _ _).2 (.inr HH3.out.1),HH3.out.2.1.set HST2.out,HH3.out.2.2.set hyn hb⟩)
          clear hb
          go_wp2_with fail
          go_roundw
          case rel=>exact⟨q+1,GG.setB B y,true,by omega,by go_num,rfl,HF3.out.set y,HB3.out.setCell (p:=⟨W.heap.size,y,none⟩) (Nat.le_refl _) _,HW⟩
          case measure=>simp [intOf];omega
         ·rw[hb] at hcy
          have HW:=zH (show B k=true/\gm to no f B/\go to.length B0 B t (cR to no k B/\ew r no (q+1) B) from⟨HH3.out.1,HH3.out.2.1,HH3.out.2.2.imp fun _=>HCR.out (fun _=>hb)⟩)
          clear hb
          go_wp2_with fail
          go_roundw
          case rel=>exact⟨q+1,B,t,by omega,by go_num,rfl,HF3.out,HB3.out,HW⟩
          case measure=>simp [intOf];omega
       ·have HW:=zH (show gm to no f B/\go to.length B0 B t (cR to no (k+1) B) from⟨HH3.out.2.1,HH3.out.2.2.imp fun _ h i hi hbi=>(Nat.lt_succ_iff_lt_or_eq.1 hi).elim (fun h'=>h.1 i h' hbi) (fun e=>by rw[e];exact HCL.out B (fun q' hq'=>h.2 q' (by omega)))⟩)
        have hx3:=(bcell0 HB2.out HB3.out va (vo+k) hvb).trans hx1
        clear hx1
        go_wp2_with fail
        go_roundw
        case rel=>exact⟨k+1,B,t,by omega,by go_num,rfl,HF3.out,HB3.out,HW⟩
        case measure=>simp [intOf];omega
    ·have HW:=zH (show gm to no f B/\go to.length B0 B t (cR to no to.length B) from⟨HH.out.1,HH.out.2.imp fun _ h=>by rwa [show k=to.length by omega] at h⟩)
     clear HH
     go_wp2_with fail
     cases t
     ·go_roundg 0
      case measure=>have:=HG.out;omega
      case rel=>exact⟨B,false,rfl,hF2,hB2,zH ⟨HW.out.1,.inr ⟨rfl,rfl,HW.out.2.elim (fun h=>h.2.2) (fun h=>by cases h.1)⟩⟩⟩
     ·go_roundg (GG.unv to.length B+1)
      case measure=>have:=HG.out;have:=HW.out.2.elim (fun h=>by cases h.1) (fun h=>h.2);omega
      case rel=>exact⟨B,true,rfl,hF2,hB2,zH ⟨HW.out.1,.inl ⟨rfl,rfl⟩⟩⟩
theorem jN{v:Value}{to:List (List Int)}(f:Nat)(no:Int)(W:World)(hv:aq W.heap.size W v to)(hr:GG.al to=true)(hf:f<to.length)(hno:(f:Int)≠no) :
 Calls Tryz.prog 75 #[v,.int .i64 f,.int .i64 no] W fun e W'=>NewBools W.heap.size (cO to.length (GG.reachB to no f)) e W W' :=
 (iw f no W hv hr hf hno).mono fun e W' h=>⟨_,h.1,dt.row h.2.1,h.2.2⟩
set_option maxHeartbeats 800000 in
theorem oV{v:Value}{to:List (List Int)}(f:Nat)(W:World)(hv:aq W.heap.size W v to)(hl:to.length<=256) :
 Calls Tryz.prog 75 #[v,.int .i64 f,.int .i64 f] W fun e W'=>lL W to.length (fun _=>false) e W':=by
 obtain⟨va,vc,rfl⟩:=hv.form
 have hmk:=run_make_row' (P:=Tryz.prog) 38 4 (.bool false) 1 (by kernel_rfl) Tryz.infoGBool rfl .i64 .i64 to.length (by omega) (by omega)
 have HM:=zH (show dt (W.alloc (.cells (madeCells #[.bool false] to.length) 4)) W.heap.size to.length (fun _=>false) from World.rowIs_made W (.bool false) to.length 4)
 have HB:=zH ((Below.refl W.heap.size W).alloc (Nat.le_refl _) (.cells (madeCells #[.bool false] to.length) 4))
 have he:((f:Int) == (f:Int))=true:=beq_self_eq_true _
 go_enter Tryz.func75,Tryz.ntmps75
 go_wp2_with fail
 go_ret
 exact⟨rfl,HM.out,HB.out⟩
end
end Go.Proofs.YtjngffgkllakaaaGreatDoor
