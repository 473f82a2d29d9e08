/- A part of a proof: laws that the last text uses. -/
import Derived.Test.YtjngffgkllakaaaGreatDoorY01
import Derived.Test.YtjngffgkllakaaaGreatDoorY02
import Derived.Test.YtjngffgkllakaaaGreatDoorY05
import Derived.Test.YtjngffgkllakaaaGreatDoorY11
import Derived.Deep.Cut
import Derived.Deep.RegionHeld3
import Derived.Deep.AppendLies
import Derived.StillTailTactics
import Derived.Laws.OwnMore
set_option linter.unusedSimpArgs false
set_option linter.unusedVariables false
namespace Go.Proofs.YtjngffgkllakaaaGreatDoor
open List renaming getElem_toArray → zA, getElem_cons_succ → zB, getElem_cons_zero → zC, setIfInBounds_toArray → zD, set_cons_zero → zE, set_cons_succ → zF
open Lib renaming hid → zH
section
open Go.RowKit
def BTab(n₀:Nat)(W:World)(v:Value)(n m:Nat)(L:Nat->Nat->Bool):Prop :=
 ∃vs,bM n₀ W v vs/\vs.length=m/\∀j,j<m->∃r,vs[j]?=some r/\BRow n₀ W r (cR n (L j))
theorem BTab.below{n₀:Nat}{A B:World}(h:Below n₀ A B){v:Value}{n m:Nat}{L:Nat->Nat->Bool}:BTab n₀ A v n m L->BTab n₀ B v n m L
 | ⟨vs,h1,h2,h3⟩=>⟨vs,h1.below h,h2,fun j hj=>by obtain⟨r,e,g⟩:=h3 j hj;exact⟨r,e,g.below h⟩⟩
theorem BTab.at{n₀:Nat}{W:World}{v:Value}{n m:Nat}{L:Nat->Nat->Bool}(h:BTab n₀ W v n m L){a b:Nat}(ha:a<m)(hb:b<n) :
 ∃tb tf tc rb rf rc,v=.slice (some ⟨tb,tf,none⟩) m tc/\W.cell? ⟨tb,tf+a,none⟩=some (.slice (some ⟨rb,rf,none⟩) n rc)/\W.cell? ⟨rb,rf+b,none⟩=some (.bool (L a b)):=by
 obtain⟨vs,h1,h2,h3⟩:=h
 obtain⟨tb,tf,tc,rfl,_,hc⟩:=h1.at (by omega)
 obtain⟨r,e,g⟩:=h3 a ha
 obtain⟨rb,rf,rc,rfl,_,hr⟩:=g.at (by rw[cD];omega)
 refine⟨tb,tf,tc,rb,rf,rc,by rw[h2],?_,?_⟩
 ·have:=hc a _ e
  rwa [cD] at this
 ·have:=hr b (by rw[cD];exact hb)
  rwa [mb hb,Option.getD_some] at this
structure LeadM (n₀:Nat) (W:World) (cb n:Nat) (L:Nat->Nat->Bool):Prop where
 lt:cb<n₀
 tab:∃v,W.cell? ⟨cb,0,none⟩=some v/\BTab n₀ W v n n L
theorem LeadM.below{n₀:Nat}{A B:World}(h:Below n₀ A B){cb n:Nat}{L:Nat->Nat->Bool}(g:LeadM n₀ A cb n L):LeadM n₀ B cb n L:=by
 obtain⟨v,h1,h2⟩:=g.tab
 exact⟨g.lt,v,(h.cell (p:=⟨cb,0,none⟩) g.lt).trans h1,h2.below h⟩
set_option maxRecDepth 100000 in
set_option maxHeartbeats 1600000 in
theorem cU{n₀:Nat}{W:World}{cb n:Nat}{L:Nat->Nat->Bool}(a b:Nat)(h:LeadM n₀ W cb n L)(ha:a<n)(hb:b<n) :
 Calls Tryz.prog 74 #[.int .i64 a,.int .i64 b,.pointer (some ⟨cb,0,none⟩)] W fun e w'=>e=.returned (.bool (L a b))/\w'=W:=by
 obtain⟨v,h1,h2⟩:=h.tab
 obtain⟨tb,tf,tc,rb,rf,rc,rfl,h3,h4⟩:=h2.at ha hb
 have i1:(0:Int)<=a/\(a:Int)<n:=by omega
 have i2:(0:Int)<=b/\(b:Int)<n:=by omega
 clear h h2
 go_enter Tryz.func74,Tryz.ntmps74
 go_wp2_with fail
 go_ret
 exact⟨rfl,rfl⟩
set_option maxRecDepth 100000 in
set_option maxHeartbeats 1600000 in
theorem jw{n₀:Nat}{W:World}{cb lb n:Nat}{L:Nat->Nat->Bool}(a b:Nat)(h:LeadM n₀ W cb n L)(hl:W.cell? ⟨lb,0,none⟩=some (.func (.func 74) #[] #[.pointer (some ⟨cb,0,none⟩)]))(ha:a<n)(hb:b<n) :
 Calls Tryz.prog 43 #[.int .i64 a,.int .i64 b,.pointer (some ⟨lb,0,none⟩)] W fun e w'=>e=.returned (.bool (CC.tog L a b))/\w'=W:=by
 have H:=zH h
 clear h
 cases h1:L a b
 ·have HE:=zH (show CC.tog L a b=false by unfold CC.tog;rw[h1];rfl)
  have H1:=zH h1
  clear h1
  go_enter Tryz.func43,Tryz.ntmps43
  go_wp2_with (go_at_call 74;refine(cU a b H.out ha hb).mono ?_;rintro e w' ⟨rfl,rfl⟩;rw[H1.out])
  go_ret
  exact⟨by rw[HE.out];rfl,rfl⟩
 ·have H1:=zH h1
  obtain⟨z,hz⟩:∃z,z=L b a:=⟨_,rfl⟩
  have HE:=zH (show CC.tog L a b=z by unfold CC.tog;rw[h1,hz];rfl)
  have HZ:=zH hz
  clear h1 hz
  go_enter Tryz.func43,Tryz.ntmps43
  go_wp2_with fail
  refine(cU a b H.out ha hb).mono ?_
  rintro e w' ⟨rfl,rfl⟩
  rw[H1.out]
  go_wp2_with fail
  refine(cU b a H.out hb ha).mono ?_
  rintro e w' ⟨rfl,rfl⟩
  rw[<-HZ.out]
  go_wp2_with fail
  go_ret
  exact⟨by rw[HE.out];rfl,rfl⟩
structure GrpM (n₀:Nat) (W:World) (xb lb gb wb tb cb n:Nat) (L:Nat->Nat->Bool) (T:Nat->Bool):Prop where
 size:∃va vc,W.cell? ⟨xb,0,none⟩=some (.slice va n vc)
 lead:W.cell? ⟨lb,0,none⟩=some (.func (.func 74) #[] #[.pointer (some ⟨cb,0,none⟩)])
 toge:W.cell? ⟨gb,0,none⟩=some (.func (.func 43) #[] #[.pointer (some ⟨lb,0,none⟩)])
 wait:W.cell? ⟨wb,0,none⟩=some (.func (.func 44) #[] #[.pointer (some ⟨xb,0,none⟩),.pointer (some ⟨lb,0,none⟩),.pointer (some ⟨tb,0,none⟩),.pointer (some ⟨gb,0,none⟩)])
 tab:LeadM n₀ W cb n L
 told:W.rowIs tb 97 256 (fun i=>.bool (T i))
theorem rZ{L:Nat->Nat->Bool}{n:Nat}{T:Nat->Bool}{a b:Nat}(hb:b<n)(h:(L a b && !T b && !CC.tog L a b)=true):CC.waitsB L n T a=true:=List.any_eq_true.2 ⟨b,List.mem_range.2 hb,h⟩
theorem sb{L:Nat->Nat->Bool}{n:Nat}{T:Nat->Bool}{a:Nat}(h:∀b,b<n->(L a b && !T b && !CC.tog L a b)=false):CC.waitsB L n T a=false:=by
 unfold CC.waitsB
 rw[List.any_eq_false]
 intro b hb
 rw[h b (List.mem_range.1 hb)]
 decide
set_option maxRecDepth 100000 in
set_option maxHeartbeats 3200000 in
theorem sd{n₀:Nat}{W:World}{xb lb gb wb tb cb n:Nat}{L:Nat->Nat->Bool}{T:Nat->Bool}(a:Nat)(h:GrpM n₀ W xb lb gb wb tb cb n L T)(ha:a<n)(hn:n<=256) :
 Calls Tryz.prog 44 #[.int .i64 a,.pointer (some ⟨xb,0,none⟩),.pointer (some ⟨lb,0,none⟩),.pointer (some ⟨tb,0,none⟩),.pointer (some ⟨gb,0,none⟩)] W fun e w'=>e=.returned (.bool (CC.waitsB L n T a))/\w'=W:=by
 obtain⟨va,vc,hx⟩:=h.size
 have hl:=h.lead
 have hg:=h.toge
 have H:=zH h
 clear h
 go_enter Tryz.func44,Tryz.ntmps44
 go_wp2_with fail
 go_loopw [10] (fun k wr=>∃i:Nat,i<=n/\k=.int .i64 (i:Int)/\W=wr/\RowKit.Hid (∀b,b<i->(L a b && !T b && !CC.tog L a b)=false)) (fun k _=>n-(intOf k).toNat)
 case atStart=>exact⟨0,by omega,rfl,rfl,zH (fun b hb=>absurd hb (Nat.not_lt_zero _))⟩
 case round =>
  obtain⟨i,hi,rfl,rfl,HI⟩:=hrel
  by_cases hlt:i<n
  ·have j1:decide ((i:Int)<(n:Int))=true:=decide_eq_true (by omega)
   have hT:=World.rowIs.cell H.out.told (show i<256 by omega)
   have i1:(0:Int)<=i/\(i:Int)<256:=by omega
   cases h1:L a i
   ·have H1:=zH h1
    have HN:=zH (show (L a i && !T i && !CC.tog L a i)=false by rw[h1];rfl)
    clear h1
    go_wp2_with (go_at_call 74;refine(cU a i H.out.tab ha hlt).mono ?_;rintro e w' ⟨rfl,rfl⟩;rw[H1.out])
    go_roundw
    case rel=>exact⟨i+1,by omega,by go_num,by first | rfl | trivial,zH (fun b hb=>by by_cases e:b=i;rw[e];exact HN.out;exact HI.out b (by omega))⟩
    case measure=>simp [intOf];omega
   ·have H1:=zH h1
    cases h2:T i
    ·rw[h2] at hT
     obtain⟨z,hz⟩:∃z,z=CC.tog L a i:=⟨_,rfl⟩
     have HZ:=zH hz
     cases z
     ·have HY:=zH (rZ (T:=T) hlt (show (L a i && !T i && !CC.tog L a i)=true by rw[h1,h2,<-hz];rfl))
      clear h1 h2 hz
      go_wp2_with (first
       | (go_at_call 43;refine(jw a i H.out.tab hl ha hlt).mono ?_;rintro e w' ⟨rfl,rfl⟩;rw[<-HZ.out])
       | (go_at_call 74;refine(cU a i H.out.tab ha hlt).mono ?_;rintro e w' ⟨rfl,rfl⟩;rw[H1.out]))
      go_ret
      exact⟨by rw[HY.out];rfl,rfl⟩
     ·have HN:=zH (show (L a i && !T i && !CC.tog L a i)=false by rw[<-hz];simp)
      clear h1 h2 hz
      go_wp2_with (first
       | (go_at_call 43;refine(jw a i H.out.tab hl ha hlt).mono ?_;rintro e w' ⟨rfl,rfl⟩;rw[<-HZ.out])
       | (go_at_call 74;refine(cU a i H.out.tab ha hlt).mono ?_;rintro e w' ⟨rfl,rfl⟩;rw[H1.out]))
      go_roundw
      case rel=>exact⟨i+1,by omega,by go_num,by first | rfl | trivial,zH (fun b hb=>by by_cases e:b=i;rw[e];exact HN.out;exact HI.out b (by omega))⟩
      case measure=>simp [intOf];omega
    ·rw[h2] at hT
     have HN:=zH (show (L a i && !T i && !CC.tog L a i)=false by rw[h2];simp)
     clear h1 h2
     go_wp2_with (go_at_call 74;refine(cU a i H.out.tab ha hlt).mono ?_;rintro e w' ⟨rfl,rfl⟩;rw[H1.out])
     go_roundw
     case rel=>exact⟨i+1,by omega,by go_num,by first | rfl | trivial,zH (fun b hb=>by by_cases e:b=i;rw[e];exact HN.out;exact HI.out b (by omega))⟩
     case measure=>simp [intOf];omega
  ·have j1:decide ((i:Int)<(n:Int))=false:=decide_eq_false (by omega)
   have HE:=zH (sb (n:=n) (fun b hb=>HI.out b (by omega)))
   clear HI
   go_wp2_with fail
   go_ret
   exact⟨by rw[HE.out];rfl,rfl⟩
set_option maxRecDepth 100000 in
set_option maxHeartbeats 1600000 in
theorem mU{n₀:Nat}{W:World}{xb lb gb wb tb cb n:Nat}{L:Nat->Nat->Bool}{T:Nat->Bool}(a:Nat)(h:GrpM n₀ W xb lb gb wb tb cb n L T)(ha:a<n)(hn:n<=256) :
 Calls Tryz.prog 45 #[.int .i64 a,.pointer (some ⟨tb,0,none⟩),.pointer (some ⟨wb,0,none⟩)] W fun e w'=>e=.returned (.bool (CC.eI L n T a))/\w'=W:=by
 have hw:=h.wait
 have hT:=World.rowIs.cell h.told (show a<256 by omega)
 have i1:(0:Int)<=a/\(a:Int)<256:=by omega
 have H:=zH h
 clear h
 cases h1:T a
 ·rw[h1] at hT
  obtain⟨z,hz⟩:∃z,z=CC.waitsB L n T a:=⟨_,rfl⟩
  have HZ:=zH hz
  have HE:=zH (show CC.eI L n T a = !z by unfold CC.eI;rw[h1,hz];rfl)
  clear h1 hz
  go_enter Tryz.func45,Tryz.ntmps45
  go_wp2_with (go_at_call 44;refine(sd a H.out ha hn).mono ?_;rintro e w' ⟨rfl,rfl⟩;rw[<-HZ.out])
  go_ret
  exact⟨by rw[HE.out];rfl,rfl⟩
 ·rw[h1] at hT
  have HE:=zH (show CC.eI L n T a=false by unfold CC.eI;rw[h1];rfl)
  clear h1
  go_enter Tryz.func45,Tryz.ntmps45
  go_wp2_with fail
  go_ret
  exact⟨by rw[HE.out];rfl,rfl⟩
theorem next_hit{L:Nat->Nat->Bool}{n:Nat}{T:Nat->Bool}{k:Nat}(hk:k<n)(hp:CC.eI L n T k=true)(hno:∀j,j<k->CC.eI L n T j=false):CC.bN L n T=some k:=by
 have h:=GG.ed hk hp hno
 unfold GG.cz at h
 unfold CC.bN
 cases e:(List.range n).find? (CC.eI L n T) with
 | none=>rw[e] at h;have h:(-1:Int)=k:=h;omega
 | some j=>rw[e] at h;have h:(j:Int)=k:=h;congr 1;omega
theorem next_none{L:Nat->Nat->Bool}{n:Nat}{T:Nat->Bool}(hno:∀j,j<n->CC.eI L n T j=false):CC.bN L n T=none:=by
 unfold CC.bN
 rw[List.find?_eq_none]
 intro x hx
 rw[hno x (List.mem_range.1 hx)]
 decide
def firstE(o:Option Nat):Ending:=match o with | some a=>.returned (.tuple #[.int .i64 (a:Int),.bool true]) | none=>.returned (.tuple #[.int .i64 0,.bool false])
set_option maxRecDepth 100000 in
set_option maxHeartbeats 1600000 in
theorem lI{n₀:Nat}{W:World}{xb lb gb wb tb cb n:Nat}{L:Nat->Nat->Bool}{T:Nat->Bool}(h:GrpM n₀ W xb lb gb wb tb cb n L T)(hn:n<=256) :
 Calls Tryz.prog 46 #[.int .i64 n,.func (.func 45) #[] #[.pointer (some ⟨tb,0,none⟩),.pointer (some ⟨wb,0,none⟩)]] W fun e w'=>e=firstE (CC.bN L n T)/\w'=W:=by
 have H:=zH h
 clear h
 go_enter Tryz.func46,Tryz.ntmps46
 go_wp2_with fail
 go_loopw [8] (fun k wr=>∃i:Nat,i<=n/\k=.int .i64 (i:Int)/\W=wr/\RowKit.Hid (∀b,b<i->CC.eI L n T b=false)) (fun k _=>n-(intOf k).toNat)
 case atStart=>exact⟨0,by omega,rfl,rfl,zH (fun b hb=>absurd hb (Nat.not_lt_zero _))⟩
 case round =>
  obtain⟨i,hi,rfl,rfl,HI⟩:=hrel
  by_cases hlt:i<n
  ·have j1:decide ((i:Int)<(n:Int))=true:=decide_eq_true (by omega)
   cases h1:CC.eI L n T i
   ·have H1:=zH h1
    clear h1
    go_wp2_with (go_at_call 45;refine(mU i H.out hlt hn).mono ?_;rintro e w' ⟨rfl,rfl⟩;rw[H1.out])
    go_roundw
    case rel=>exact⟨i+1,by omega,by go_num,by first | rfl | trivial,zH (fun b hb=>by by_cases e:b=i;rw[e];exact H1.out;exact HI.out b (by omega))⟩
    case measure=>simp [intOf];omega
   ·have H1:=zH h1
    have HE:=zH (next_hit hlt h1 HI.out)
    clear h1
    go_wp2_with (go_at_call 45;refine(mU i H.out hlt hn).mono ?_;rintro e w' ⟨rfl,rfl⟩;rw[H1.out])
    go_ret2
    exact⟨by rw[HE.out];rfl,rfl⟩
  ·have j1:decide ((i:Int)<(n:Int))=false:=decide_eq_false (by omega)
   have HE:=zH (next_none (L:=L) (T:=T) (n:=n) (fun b hb=>HI.out b (by omega)))
   clear HI
   go_wp2_with fail
   go_ret2
   exact⟨by rw[HE.out];rfl,rfl⟩
end
section
open Go.RowKit
namespace CC
theorem own_of_block{w w':World}{B e n size:Nat}{v:Value}{xs:List Value}(h:w.ownsRow B e size v n xs)(hk:∀k,v.ownBlock=some k->w'.heap[k]?=w.heap[k]?):w'.ownsRow B e size v n xs:=by
 refine⟨h.1,?_⟩
 rcases h.2 with hn | ⟨g,cap,cur,rfl,hb,hgg,rest⟩
 ·exact .inl hn
 ·exact .inr ⟨g,cap,cur,rfl,hb,(hk g rfl).trans hgg,rest⟩
theorem dx{W:World}{B B' e size n:Nat}{v:Value}{xs:List Value}(h:B'<=B)(g:W.ownsRow B e size v n xs):W.ownsRow B' e size v n xs:=by
 refine⟨g.1,?_⟩
 rcases g.2 with hn | ⟨k,cap,cur,rfl,hb,rest⟩
 ·exact .inl hn
 ·exact .inr ⟨k,cap,cur,rfl,Nat.le_trans h hb,rest⟩
theorem ownOf{w:World}{B e n size:Nat}{v:Value}{xs:List Value}(h:w.ownsRow B e size v n xs):∃a cap,v=.slice a n cap:=by
 rcases h.2 with⟨rfl,rfl⟩ | ⟨g,cap,cur,rfl,_⟩
 ·exact⟨_,_,rfl⟩
 ·exact⟨_,_,rfl⟩
theorem set_obj{w:World}{r c:Nat}{cs:Array Value}{T:TypeId}(v:Value)(h:w.heap[r]?=some (.cells cs T)):(w.setCell ⟨r,c,none⟩ v).heap[r]?=some (.cells (cs.setIfInBounds c v) T):=by
 simp only[World.setCell,Array.getElem?_modify,if_pos rfl,h,Option.map_some]
 rfl
theorem heap_some_lt{w:World}{g:Nat}{o:Obj}(h:w.heap[g]?=some o):g<w.heap.size:=(Array.getElem?_eq_some_iff.1 h).1
theorem cV{w:World}{o:Obj}{n:Nat}(h:w.heap.size=n):(w.alloc o).heap[n]?=some o:=by
 subst h
 exact heap_alloc_new _ _
end CC
open CC
theorem Tryz.infoCBools:(Tryz.prog.info? 38).map (fun i=>(i.zero,i.size,i.bytes))=some (some (.slice none 0 0),1,24):=by kernel_rfl
structure LeadT (W:World) (n i:Nat) (L:Nat->Nat->Bool) (V:World) (v:Value) (vs:List Value):Prop where
 below:Below W.heap.size W V
 cell:V.heap[W.heap.size]?=some (.cells #[v] 101)
 own:V.ownsRow (W.heap.size+1) 38 1 v i vs
 rows:∀j,j<i->∃r,vs[j]?=some r/\V.ownsRow (W.heap.size+1) 4 1 r n (bJ (cR n (L j)))
theorem LeadT.lt{W V:World}{n i:Nat}{L:Nat->Nat->Bool}{v:Value}{vs:List Value}(h:LeadT W n i L V v vs):W.heap.size+1<=V.heap.size:=heap_some_lt h.cell
theorem LeadT.start(W:World)(n:Nat)(L:Nat->Nat->Bool):LeadT W n 0 L (W.alloc (.cells #[.slice none 0 0] 101)) (.slice none 0 0) [] :=
 ⟨(Below.refl _ _).alloc (Nat.le_refl _) _,cV rfl,World.ownsRow_nil _ _ _ _,fun j hj=>absurd hj (Nat.not_lt_zero _)⟩
theorem LeadT.next{W V w1 w3:World}{n i:Nat}{L:Nat->Nat->Bool}{v v' rv:Value}{vs:List Value}{o:Obj}(h:LeadT W n i L V v vs)(hb:Below V.heap.size V w1)(hr:w1.ownsRow V.heap.size 4 1 rv n (bJ (cR n (L i))))
 (ho:w3.ownsRow (W.heap.size+1) 38 1 v' (i+1) (vs ++ [rv])) (hg:(w1.alloc o).grownBy w3 v.ownBlock) :
 w3.heap[W.heap.size]?=some (.cells #[v] 101)/\LeadT W n (i+1) L (w3.setCell ⟨W.heap.size,0,none⟩ v') v' (vs ++ [rv]):=by
 have hlt:=h.lt
 have hs1:=hb.size
 have key:∀k,k<w1.heap.size->some k≠v.ownBlock->w3.heap[k]?=w1.heap[k]?:=fun k hk hne=>(hg.block k (by simp;omega) hne).trans (heap_alloc_old _ _ hk)
 have hnv:some W.heap.size≠v.ownBlock:=fun e=>by have:=(h.own.lt _ e.symm).1;omega
 have hc1:w1.heap[W.heap.size]?=some (.cells #[v] 101):=(hb.block _ (by omega)).trans h.cell
 have hc3:=(key _ (by omega) hnv).trans hc1
 have hset:∀k,k≠W.heap.size->(w3.setCell ⟨W.heap.size,0,none⟩ v').heap[k]?=w3.heap[k]?:=fun k hk=>Below.heap_setCell _ _ _ _ hk
 refine⟨hc3,?_,?_,own_of_block ho (fun k e=>hset k (by have:=(ho.lt k e).1;omega)),fun j hj=>?_⟩
 ·have h1:Below W.heap.size W w1:=h.below.trans (hb.mono h.below.size)
  exact((h1.alloc h1.size o).grown hg (by have:=h1.size;simp;omega) (fun k e=>by have:=(h.own.lt k e).1;omega)).setCell (Nat.le_refl _) _
 ·have:=set_obj (c:=0) v' hc3
  simpa using this
 ·have hl:vs.length=i:=by have:=h.own.1;omega
  by_cases e:j=i
  ·subst e
   refine⟨rv,by rw[<-hl];simp,?_⟩
   have hvw:w1.ownsRow (W.heap.size+1) 38 1 v j vs:=own_of_block h.own (fun k e=>hb.block _ (h.own.lt k e).2)
   refine dx (by omega) (own_of_block hr (fun k e=>?_))
   have hk:=hr.lt k e
   rw[hset k (by omega),key k hk.2 (fun e'=>by rcases GG.own_types hr hvw (by decide) with q | q;rw[q] at e;cases e;exact q (e.trans e'))]
  ·obtain⟨r,h1,h2⟩:=h.rows j (by omega)
   refine⟨r,by rw[List.getElem?_append_left (by omega)];exact h1,own_of_block h2 (fun k e=>?_)⟩
   have hk:=h2.lt k e
   rw[hset k (by omega),key k (by omega) (fun e'=>by rcases GG.own_types h2 h.own (by decide) with q | q;rw[q] at e;cases e;exact q (e.trans e')),hb.block k hk.2]
theorem LeadT.lead{W V:World}{n:Nat}{L:Nat->Nat->Bool}{v:Value}{vs:List Value}(h:LeadT W n n L V v vs):LeadM V.heap.size V W.heap.size n L:=by
 have hl:vs.length=n:=by have:=h.own.1;omega
 exact⟨h.lt,v,cell_of_one h.cell,vs,aM h.own,hl,fun j hj=>by obtain⟨r,h1,h2⟩:=h.rows j hj;exact⟨r,h1,aM h2⟩⟩
set_option maxRecDepth 100000 in
set_option maxHeartbeats 6400000 in
theorem qd{v:Value}{to9:List (List Int)}(W:World)(hv:az W.heap.size W v to9)(hx:cd to9)(hr:GG.am to9=true) :
 Calls Tryz.prog 42 #[v] W fun e W'=>e=.returned (.func (.func 74) #[] #[.pointer (some ⟨W.heap.size,0,none⟩)])/\LeadM W'.heap.size W' W.heap.size to9.length (aZ to9)/\Below W.heap.size W W':=by
 have hx0:=hx.1
 have hlen:=GG.aB hr
 have HV:=zH hv
 have HX:=zH hx
 have HR:=zH hr
 obtain⟨va,vc,rfl⟩:=hv.form
 obtain⟨b0,hb0,hy0,hy1,hy2⟩:=info_parts Tryz.infoCBools
 clear hv hx hr
 go_enter Tryz.func42,Tryz.ntmps42
 go_wp2_with fail
 go_loopw [7] (fun k wr=>∃i:Nat,i<=to9.length/\k=.int .i64 (i:Int)/\RowKit.Hid (∃v vs,LeadT W to9.length i (aZ to9) wr v vs)) (fun k _=>to9.length-(intOf k).toNat)
 case atStart=>exact⟨0,by omega,rfl,zH ⟨_,_,LeadT.start W to9.length (aZ to9)⟩⟩
 case round =>
  obtain⟨i,hi,rfl,HT⟩:=hrel
  obtain⟨v,vs,hT⟩:=HT.out
  have HT:=zH hT
  clear hT
  by_cases hlt:i<to9.length
  ·have j1:decide ((i:Int)<(to9.length:Int))=true:=decide_eq_true (by omega)
   have HE:=zH (show cZ to9 (i:Int)=cR to9.length (aZ to9 i) by unfold cZ;rw[if_pos ⟨HR.out,decide_eq_true (by omega)⟩,Int.toNat_natCast];rfl)
   obtain⟨wa,wc,rfl⟩:=CC.ownOf HT.out.own
   have hN:=HT.out.lt
   have hcA:wr.cell? ⟨W.heap.size,0,none⟩=some (.slice wa i wc):=cell_of_one HT.out.cell
   have hcB:wr.drew.cell? ⟨W.heap.size,0,none⟩=some (.slice wa i wc):=hcA
   go_upto_region 5 with fail
   refine wp_region_held_drew (S:=(fun _=>True)) (by kernel_rfl) ?_ (fun hHeld=>?_)
   ·trivial
   refine tkV 1 (.slice va to9.length vc) rfl (fun W hSW=>?_) hHeld ?_
   ·((try dsimp only at hSW);go_split_ands;go_simp <;> with_reducible rfl)
   try simp only[zA,zB,zC,Act.put,zD,zE,zF]
   refine tkV 2 (.int .i64 i) rfl (fun W hSW=>?_) hHeld ?_
   ·((try dsimp only at hSW);go_split_ands;go_simp <;> with_reducible rfl)
   try simp only[zA,zB,zC,Act.put,zD,zE,zF]
   refine wpAnyH_ready (rs:=[0,3]) (by kernel_rfl) (by simp) ?_
   refine AllReadyH.cons rfl (fun K hK=>?_) (AllReadyH.cons rfl (fun K hK=>?_) AllReadyH.nil)
   ·skip
    try simp only[zA,zB,zC]
    go_simp
    try go_wp2_with fail
    refine hK.out _ _ ?_ (fun hHeld=>?_)
    ·trivial
    clear hK K
    try simp only[zA,zB,zC,Act.put,zD,zE,zF]
    refine wpAnyH_ready (rs:=[3]) (by kernel_rfl) (by simp) ?_
    refine AllReadyH.cons rfl (fun K hK=>?_) AllReadyH.nil
    try simp only[zA,zB,zC]
    go_simp
    (refine(@jT _ to9 (i:Int) _ (by first | exact HV.out.on HT.out.below HT.out.below.size | exact HV.out.on HT.out.below.drew HT.out.below.size) HX.out).mono ?_;rintro e w1 ⟨rv,rfl,hrv,hb⟩;rw[HE.out,cD] at hrv)
    try go_wp2_with fail
    refine hK.out _ _ ?_ (fun hHeld=>?_)
    ·trivial
    clear hK K
    try simp only[zA,zB,zC,Act.put,zD,zE,zF]
    have HRV:=zH (show w1.ownsRow wr.heap.size 4 1 rv to9.length (bJ (cR to9.length (aZ to9 i))) by first | exact hrv | exact dx (Nat.le_refl _) hrv)
    have HB1:=zH (show Below wr.heap.size wr w1 by first | exact hb | exact(Below.refl wr.heap.size wr).drew.trans hb)
    obtain⟨rva,rvc,rfl⟩:=CC.ownOf HRV.out
    have hc1:w1.cell? ⟨W.heap.size,0,none⟩=some (.slice wa i wc):=(HB1.out.cell (p:=⟨W.heap.size,0,none⟩) hN).trans hcA
    have hc2:w1.drew.cell? ⟨W.heap.size,0,none⟩=some (.slice wa i wc):=hc1
    have hc3:(w1.alloc (.cells #[.slice rva to9.length rvc] 38)).cell? ⟨W.heap.size,0,none⟩=some (.slice wa i wc):=((HB1.out.alloc HB1.out.size _).cell (p:=⟨W.heap.size,0,none⟩) hN).trans hcA
    have hc4:(w1.alloc (.cells #[.slice rva to9.length rvc] 38)).drew.cell? ⟨W.heap.size,0,none⟩=some (.slice wa i wc):=hc3
    have hc5:(w1.drew.alloc (.cells #[.slice rva to9.length rvc] 38)).cell? ⟨W.heap.size,0,none⟩=some (.slice wa i wc):=hc3
    clear hrv hb
    refine wpAnyH_ready (rs:=[4]) (by kernel_rfl) (by simp) ?_
    refine AllReadyH.cons rfl (fun K hK=>?_) AllReadyH.nil
    try simp only[zA,zB,zC]
    go_simp
    try go_wp2_with fail
    refine hK.out _ _ ?_ (fun hHeld=>?_)
    ·trivial
    clear hK K
    try simp only[zA,zB,zC,Act.put,zD,zE,zF]
    refine wpAnyH_ready (rs:=[5]) (by kernel_rfl) (by simp) ?_
    refine AllReadyH.cons rfl (fun K hK=>?_) AllReadyH.nil
    refine step_append_lies _ rfl (.tmp 10) (.tmp 14) 101 rfl (W.heap.size+1) 38 b0 (.slice none 0 0) 1 24 Tryz.underlying101 hb0 hy0 hy1 hy2 rfl (by decide) (.slice wa i wc) i vs (by rfl) (own_of_block HT.out.own (fun k hk=>(HB1.out.alloc HB1.out.size _).block _ (HT.out.own.lt k hk).2)) ⟨w1.heap.size,0,none⟩ 1 1 [.slice rva to9.length rvc] (by rfl) rfl (World.news_of_block (cs:=#[.slice rva to9.length rvc]) (t:=38) (fr:=(0,0)) (cV rfl)) (by intro u hu;rw[List.mem_singleton.1 hu];rfl) (by decide) (by unfold maxLen;omega) (by omega) (by have:=HB1.out.size;simp;omega) (w1.heap.size+1) (by simp) ?_
    intro g2 cap2 w3 hown hg hat hlt2
    have HF:=zH (HT.out.next HB1.out HRV.out hown hg)
    have hc6:=cell_of_one HF.out.1
    have hf6:=free_of_one HF.out.1
    refine hK.out _ _ ?_ (fun hHeld=>?_)
    ·trivial
    clear hK K
    try simp only[zA,zB,zC,Act.put,zD,zE,zF]
    refine wpAnyH_ready (rs:=[6]) (by kernel_rfl) (by simp) ?_
    refine AllReadyH.cons rfl (fun K hK=>?_) AllReadyH.nil
    try simp only[zA,zB,zC]
    go_simp
    try go_wp2_with fail
    refine hK.out _ _ ?_ (fun hHeld=>?_)
    ·trivial
    clear hK K
    try simp only[zA,zB,zC,Act.put,zD,zE,zF]
    refine wpAnyH_done (by kernel_rfl) ?_ _
    clear hHeld
    go_wp2_with fail
    go_roundw
    case rel=>exact⟨i+1,by omega,by go_num,zH ⟨_,_,HF.out.2⟩⟩
    case measure=>simp [intOf];omega
   ·skip
    try simp only[zA,zB,zC]
    go_simp
    (refine(@jT _ to9 (i:Int) _ (by first | exact HV.out.on HT.out.below HT.out.below.size | exact HV.out.on HT.out.below.drew HT.out.below.size) HX.out).mono ?_;rintro e w1 ⟨rv,rfl,hrv,hb⟩;rw[HE.out,cD] at hrv)
    try go_wp2_with fail
    refine hK.out _ _ ?_ (fun hHeld=>?_)
    ·trivial
    clear hK K
    try simp only[zA,zB,zC,Act.put,zD,zE,zF]
    have HRV:=zH (show w1.ownsRow wr.heap.size 4 1 rv to9.length (bJ (cR to9.length (aZ to9 i))) by first | exact hrv | exact dx (Nat.le_refl _) hrv)
    have HB1:=zH (show Below wr.heap.size wr w1 by first | exact hb | exact(Below.refl wr.heap.size wr).drew.trans hb)
    obtain⟨rva,rvc,rfl⟩:=CC.ownOf HRV.out
    have hc1:w1.cell? ⟨W.heap.size,0,none⟩=some (.slice wa i wc):=(HB1.out.cell (p:=⟨W.heap.size,0,none⟩) hN).trans hcA
    have hc2:w1.drew.cell? ⟨W.heap.size,0,none⟩=some (.slice wa i wc):=hc1
    have hc3:(w1.alloc (.cells #[.slice rva to9.length rvc] 38)).cell? ⟨W.heap.size,0,none⟩=some (.slice wa i wc):=((HB1.out.alloc HB1.out.size _).cell (p:=⟨W.heap.size,0,none⟩) hN).trans hcA
    have hc4:(w1.alloc (.cells #[.slice rva to9.length rvc] 38)).drew.cell? ⟨W.heap.size,0,none⟩=some (.slice wa i wc):=hc3
    have hc5:(w1.drew.alloc (.cells #[.slice rva to9.length rvc] 38)).cell? ⟨W.heap.size,0,none⟩=some (.slice wa i wc):=hc3
    clear hrv hb
    refine wpAnyH_ready (rs:=[0,4]) (by kernel_rfl) (by simp) ?_
    refine AllReadyH.cons rfl (fun K hK=>?_) (AllReadyH.cons rfl (fun K hK=>?_) AllReadyH.nil)
    ·skip
     try simp only[zA,zB,zC]
     go_simp
     try go_wp2_with fail
     refine hK.out _ _ ?_ (fun hHeld=>?_)
     ·trivial
     clear hK K
     try simp only[zA,zB,zC,Act.put,zD,zE,zF]
     refine wpAnyH_ready (rs:=[4]) (by kernel_rfl) (by simp) ?_
     refine AllReadyH.cons rfl (fun K hK=>?_) AllReadyH.nil
     try simp only[zA,zB,zC]
     go_simp
     try go_wp2_with fail
     refine hK.out _ _ ?_ (fun hHeld=>?_)
     ·trivial
     clear hK K
     try simp only[zA,zB,zC,Act.put,zD,zE,zF]
     refine wpAnyH_ready (rs:=[5]) (by kernel_rfl) (by simp) ?_
     refine AllReadyH.cons rfl (fun K hK=>?_) AllReadyH.nil
     refine step_append_lies _ rfl (.tmp 10) (.tmp 14) 101 rfl (W.heap.size+1) 38 b0 (.slice none 0 0) 1 24 Tryz.underlying101 hb0 hy0 hy1 hy2 rfl (by decide) (.slice wa i wc) i vs (by rfl) (own_of_block HT.out.own (fun k hk=>(HB1.out.alloc HB1.out.size _).block _ (HT.out.own.lt k hk).2)) ⟨w1.heap.size,0,none⟩ 1 1 [.slice rva to9.length rvc] (by rfl) rfl (World.news_of_block (cs:=#[.slice rva to9.length rvc]) (t:=38) (fr:=(0,0)) (cV rfl)) (by intro u hu;rw[List.mem_singleton.1 hu];rfl) (by decide) (by unfold maxLen;omega) (by omega) (by have:=HB1.out.size;simp;omega) (w1.heap.size+1) (by simp) ?_
     intro g2 cap2 w3 hown hg hat hlt2
     have HF:=zH (HT.out.next HB1.out HRV.out hown hg)
     have hc6:=cell_of_one HF.out.1
     have hf6:=free_of_one HF.out.1
     refine hK.out _ _ ?_ (fun hHeld=>?_)
     ·trivial
     clear hK K
     try simp only[zA,zB,zC,Act.put,zD,zE,zF]
     refine wpAnyH_ready (rs:=[6]) (by kernel_rfl) (by simp) ?_
     refine AllReadyH.cons rfl (fun K hK=>?_) AllReadyH.nil
     try simp only[zA,zB,zC]
     go_simp
     try go_wp2_with fail
     refine hK.out _ _ ?_ (fun hHeld=>?_)
     ·trivial
     clear hK K
     try simp only[zA,zB,zC,Act.put,zD,zE,zF]
     refine wpAnyH_done (by kernel_rfl) ?_ _
     clear hHeld
     go_wp2_with fail
     go_roundw
     case rel=>exact⟨i+1,by omega,by go_num,zH ⟨_,_,HF.out.2⟩⟩
     case measure=>simp [intOf];omega
    ·skip
     try simp only[zA,zB,zC]
     go_simp
     try go_wp2_with fail
     refine hK.out _ _ ?_ (fun hHeld=>?_)
     ·trivial
     clear hK K
     try simp only[zA,zB,zC,Act.put,zD,zE,zF]
     refine wpAnyH_ready (rs:=[0]) (by kernel_rfl) (by simp) ?_
     refine AllReadyH.cons rfl (fun K hK=>?_) AllReadyH.nil
     try simp only[zA,zB,zC]
     go_simp
     try go_wp2_with fail
     refine hK.out _ _ ?_ (fun hHeld=>?_)
     ·trivial
     clear hK K
     try simp only[zA,zB,zC,Act.put,zD,zE,zF]
     refine wpAnyH_ready (rs:=[5]) (by kernel_rfl) (by simp) ?_
     refine AllReadyH.cons rfl (fun K hK=>?_) AllReadyH.nil
     refine step_append_lies _ rfl (.tmp 10) (.tmp 14) 101 rfl (W.heap.size+1) 38 b0 (.slice none 0 0) 1 24 Tryz.underlying101 hb0 hy0 hy1 hy2 rfl (by decide) (.slice wa i wc) i vs (by rfl) (own_of_block HT.out.own (fun k hk=>(HB1.out.alloc HB1.out.size _).block _ (HT.out.own.lt k hk).2)) ⟨w1.heap.size,0,none⟩ 1 1 [.slice rva to9.length rvc] (by rfl) rfl (World.news_of_block (cs:=#[.slice rva to9.length rvc]) (t:=38) (fr:=(0,0)) (cV rfl)) (by intro u hu;rw[List.mem_singleton.1 hu];rfl) (by decide) (by unfold maxLen;omega) (by omega) (by have:=HB1.out.size;simp;omega) (w1.heap.size+1) (by simp) ?_
     intro g2 cap2 w3 hown hg hat hlt2
     have HF:=zH (HT.out.next HB1.out HRV.out hown hg)
     have hc6:=cell_of_one HF.out.1
     have hf6:=free_of_one HF.out.1
     refine hK.out _ _ ?_ (fun hHeld=>?_)
     ·trivial
     clear hK K
     try simp only[zA,zB,zC,Act.put,zD,zE,zF]
     refine wpAnyH_ready (rs:=[6]) (by kernel_rfl) (by simp) ?_
     refine AllReadyH.cons rfl (fun K hK=>?_) AllReadyH.nil
     try simp only[zA,zB,zC]
     go_simp
     try go_wp2_with fail
     refine hK.out _ _ ?_ (fun hHeld=>?_)
     ·trivial
     clear hK K
     try simp only[zA,zB,zC,Act.put,zD,zE,zF]
     refine wpAnyH_done (by kernel_rfl) ?_ _
     clear hHeld
     go_wp2_with fail
     go_roundw
     case rel=>exact⟨i+1,by omega,by go_num,zH ⟨_,_,HF.out.2⟩⟩
     case measure=>simp [intOf];omega
  ·have HF:=zH (show LeadT W to9.length to9.length (aZ to9) wr v vs by have e:i=to9.length:=by omega
                                                                       rw[e] at HT;exact HT.out)
   go_wp2_with fail
   go_ret
   exact⟨rfl,HF.out.lead,HF.out.below⟩
end
section
open Go.RowKit
structure NewRow (wr w1:World) (v:Value) (row:List Int):Prop where
 below:Below wr.heap.size wr w1
 own:w1.ownsRow wr.heap.size 3 1 v row.length (ao row)
theorem NewRow.out{B n:Nat}{wr w1:World}{v u:Value}{row:List Int}{vs:List Value}(h:NewRow wr w1 v row)(hO:wr.ownsRow B 54 1 u n vs):w1.ownsRow B 54 1 u n vs :=
 hO.kept (row:=Option.none) ⟨h.below.os,h.below.tape,h.below.output,h.below.size,fun k hk _=>h.below.block k hk⟩ (own_em0 _)
theorem NewRow.app{B n:Nat}{W wr w1 w2:World}{u v2:Value}{row:List Int}{vs:List Value}{to9:List (List Int)}{a:Option Addr}{cap:Nat}{o:Obj}(h:NewRow wr w1 (.slice a row.length cap) row)(hB:Below B W wr)(hs:B<=wr.heap.size)(hR:GG.Rows B wr vs to9)(hO:wr.ownsRow B 54 1 u n vs)
 (ho:w2.ownsRow B 54 1 v2 (n+1) (vs ++ [.slice a row.length cap])) (hg:(w1.alloc o).grownBy w2 u.ownBlock) :
 w2.ownsRow B 54 1 v2 (n+1) (vs ++ [.slice a row.length cap])/\GG.Rows B w2 (vs ++ [.slice a row.length cap]) (to9 ++ [row])/\Below B W w2 :=
 oP (hB.trans (h.below.mono hs)) (Nat.le_trans hs h.below.size) (GG.Rows.grown hR (b:=Option.none) ⟨h.below.os,h.below.tape,h.below.output,h.below.size,fun k hk _=>h.below.block k hk⟩ (fun k e=>by cases e)) (h.out hO) (iX hs h.own) ho hg
theorem cell_one2(w:World)(v:Value)(t:TypeId){b:Nat}(h:w.heap.size=b):∀(j:Nat) (u:Value),[v][j]?=some u->(w.alloc (.cells #[v] t)).cell? ((⟨b,0,Option.none⟩:Addr).add j)=some u:=by
 subst h;exact GG.aW w v t
end
section
open Go.RowKit
open CD (OpP BodyP CodeP ae blAt fnAt)
set_option maxHeartbeats 1600000 in
theorem sort_own(zs:List Int)(B:Nat)(va:Option Addr)(vc:Nat)(w1:World)(ho:w1.ownsRow B 3 1 (.slice va zs.length vc) zs.length (ao zs))(hl:zs.length<=100000)(hB:B<=w1.heap.size) :
 Calls Tryz.prog 33 #[.slice va zs.length vc] w1 fun e w2=>e=.returned (.tuple #[])/\w2.ownsRow B 3 1 (.slice va zs.length vc) zs.length (ao (de zs))/\Below B w1 w2:=by
 rcases ho.2 with⟨h0,hz⟩ | ⟨g,cap,cur,h0,hbase,hgb,r1,r2,r3,r4⟩
 ·have e0:zs=[]:=List.eq_nil_of_length_eq_zero hz
  subst e0
  refine(show Calls Tryz.prog 33 #[.slice va ([]:List Int).length vc] w1 fun e w'=>e=.returned (.tuple #[])/\w'=w1 from Tryz.slices_Sort_int_none va vc w1).mono ?_
  rintro e w2 ⟨rfl,rfl⟩
  exact⟨rfl,by rw[show de []=[] from List.eq_nil_of_length_eq_zero (dt [])];exact ho,Below.refl _ _⟩
 ·cases h0
  refine(Tryz.slices_Sort_int g 0 vc zs w1 (holds_of_blockI hgb (by simpa [ao] using r4)) (Array.getElem?_eq_some_iff.1 hgb).1 (by omega)).mono ?_
  rintro e w2 ⟨rfl,nn,os,rfl⟩
  exact⟨rfl,ownsRow_sortedI (by simp) hbase hgb r1 r2 r3,(Below.refl B w1).grown (grownBy_sortedI _) hB (fun j hj=>by cases hj;exact hbase)⟩
theorem se{W:World}{B e g n m cap:Nat}{xs ys:List Value}(h:W.ownsRow B e 1 (.slice (some ⟨g,0,none⟩) n cap) n (xs ++ ys))(hm:xs.length=m)(hmn:m<=n):W.ownsRow B e 1 (.slice (some ⟨g,0,none⟩) m cap) m xs:=by
 rcases h.2 with⟨h0,_⟩ | ⟨g',cap',cur,h0,hbase,hgb,r1,r2,r3,r4⟩
 ·cases h0
 ·cases h0
  refine⟨by rw[hm,Nat.mul_one],.inr ⟨g,cap,cur,rfl,hbase,hgb,by omega,r2,r3,?_⟩⟩
  have h1:cur.toList.take (n*1)=xs ++ ys:=r4
  have h2:cur.toList.take m=(cur.toList.take (n*1)).take m:=by rw[List.take_take,Nat.min_eq_left (by omega)]
  rw[Nat.mul_one,h2,h1,<-hm,List.take_left]
theorem qe(zs:List Int)(B:Nat)(va:Option Addr)(vc:Nat)(w1:World)(ho:w1.ownsRow B 3 1 (.slice va zs.length vc) zs.length (ao zs))(hl:zs.length<=100000)(hB:B<=w1.heap.size) :
 Calls Tryz.prog 34 #[.slice va zs.length vc] w1 fun e w2=>∃v,e=.returned v/\w2.ownsRow B 3 1 v (Go.Lib.compact zs).length (ao (Go.Lib.compact zs))/\Below B w1 w2:=by
 rcases ho.2 with⟨h0,hz⟩ | ⟨g,cap,cur,h0,hbase,hgb,r1,r2,r3,r4⟩
 ·have e0:zs=[]:=List.eq_nil_of_length_eq_zero hz
  subst e0
  refine(show Calls Tryz.prog 34 #[.slice va ([]:List Int).length vc] w1 fun e w'=>e=.returned (.slice va 0 vc)/\w'=w1 from Tryz.slices_Compact_int_empty va vc w1).mono ?_
  rintro e w2 ⟨rfl,rfl⟩
  exact⟨_,rfl,ho,Below.refl _ _⟩
 ·cases h0
  refine(Tryz.slices_Compact_int g 0 vc zs w1 (holds_of_blockI hgb (by simpa [ao] using r4)) (by omega) r1).mono ?_
  rintro e w2 ⟨rfl,nn,hw2⟩
  have hle:(Go.Lib.compact zs).length<=zs.length:=Go.Lib.compact_length_le zs
  have h1:w2.ownsRow B 3 1 (.slice (some ⟨g,0,none⟩) zs.length vc) zs.length ((Go.Lib.compact zs ++ List.replicate (zs.length-(Go.Lib.compact zs).length) 0).map (Value.int .i64)):=by
   have h2:=ownsRow_sortedI (n:=nn) (os:=#[]) (ss:=zs) (ts:=Go.Lib.compact zs ++ List.replicate (zs.length-(Go.Lib.compact zs).length) 0) (base:=B) (e:=3) (by simp;omega) hbase hgb r1 r2 r3
   rw[Go.Sort.grow_empty] at h2
   rw[hw2]
   exact h2
  rw[List.map_append] at h1
  refine⟨_,rfl,se (m:=(Go.Lib.compact zs).length) h1 (List.length_map _) hle,?_⟩
  have h3:=grownBy_sortedI (w:=w1) (g:=g) (n:=nn) (os:=#[]) (Go.Lib.compact zs ++ List.replicate (zs.length-(Go.Lib.compact zs).length) 0).toArray
  rw[Go.Sort.grow_empty] at h3
  rw[hw2]
  exact(Below.refl B w1).grown h3 hB (fun j hj=>by cases hj;exact hbase)
set_option maxRecDepth 100000 in
set_option maxHeartbeats 6400000 in
theorem sg{n₀:Nat}(b:BodyP)(hk:∀k,k<b.bs.length->(blAt b k).length<=300)(hbl:b.bs.length<=100)(ba:Option Addr)(bc:Nat)(w:World)(hn:n₀<=w.heap.size)(hM:aX n₀ w (.slice ba b.bs.length bc) b.bs) :
 Calls Tryz.prog 17 #[.agg #[.int .i64 b.pa,.int .i64 b.va,.slice ba b.bs.length bc]] w fun e w'=>∃v,e=.returned v/\w'.ownsRow w.heap.size 3 1 v (fP b).length (ao (fP b))/\Below w.heap.size w w':=by
 have HM:=zH hM
 have HK:=zH hk
 have HN:=zH hn
 obtain⟨i0,hi0,hy0,hy1,hy2⟩:=info_parts Tryz.infoGInt
 obtain⟨w1,ew1⟩:∃w1,w1=w.alloc (.cells #[.int .i64 b.pa,.int .i64 b.va,.slice ba b.bs.length bc] 52):=⟨_,rfl⟩
 have HB1:=zH (show Below w.heap.size w w1 by rw[ew1];exact(Below.refl _ _).alloc (Nat.le_refl _) _)
 have EW:=zH ew1
 have hsz:w1.heap.size=w.heap.size+1:=by rw[ew1,World.size_alloc]
 have HSZ:=zH hsz
 have HM1:=zH (hM.below (HB1.out.mono hn))
 have hgo:∀(a:Option Addr) (c:Nat),ba=a->bc=c->True:=fun _ _ _ _=>trivial
 clear hM hk hn ew1 hgo hsz
 go_enter Tryz.func17,Tryz.ntmps17
 go_wp2_with fail
 rw[<-EW.out]
 go_loopw [3,11] (fun s3 s11 wr=>∃i:Nat,i<=b.bs.length/\s11=.int .i64 (i:Int)/\RowKit.Hid (wr.ownsRow w1.heap.size 3 1 s3 (gi b i).length (ao (gi b i))/\Below w1.heap.size w1 wr)) (fun _ s11 _=>b.bs.length-(intOf s11).toNat)
 case atStart=>exact⟨0,Nat.zero_le _,rfl,zH ⟨World.ownsRow_nil _ _ _ _,Below.refl _ _⟩⟩
 case round =>
  obtain⟨w5,rfl⟩:∃w5,w5=wr:=⟨_,rfl⟩
  obtain⟨i,hi,rfl,HI⟩:=hrel
  obtain⟨oa,oc,rfl⟩:=GG.ap HI.out.1
  have HRL:=zH (mE b HK.out i hi)
  by_cases hlt:i<b.bs.length
  ·obtain⟨bb,bo,la,lc,eba,hbb,hcell,hops⟩:=(HM1.out.below (HI.out.2.mono (Nat.le_trans HN.out HB1.out.size))).at hlt
   subst eba
   have HOPS:=zH hops
   have hln:=HK.out i hlt
   have HLT:=zH hlt
   have i1:(0:Int)<=i/\(i:Int)<b.bs.length:=by omega
   have HBA:=zH (show b.bs[i]?.getD []=blAt b i from rfl)
   rw[HBA.out] at hcell HOPS
   have HRS:=zH (kX hlt)
   obtain⟨l,el⟩:∃l,l=blAt b i:=⟨_,rfl⟩
   rw[<-el] at hcell HOPS hln HRS
   have HEL:=zH el
   obtain⟨rs,ers⟩:∃rs,rs=gi b i:=⟨_,rfl⟩
   rw[<-ers] at HI HRS HRL ⊢
   clear el hops hlt ers
   go_wp2_with fail
   clear hcell
   go_loopw [3,17] (fun s3 s17 wr=>∃j:Nat,j<=l.length/\s17=.int .i64 (j:Int)/\RowKit.Hid (wr.ownsRow w1.heap.size 3 1 s3 (rs ++ dL l j).length (ao (rs ++ dL l j))/\Below w1.heap.size w5 wr)) (fun _ s17 _=>l.length-(intOf s17).toNat)
   case atStart=>exact⟨0,Nat.zero_le _,rfl,zH ⟨by rw[show dL l 0=[] from rfl,List.append_nil];exact HI.out.1,Below.refl _ _⟩⟩
   case round =>
    obtain⟨w6,rfl⟩:∃w6,w6=wr:=⟨_,rfl⟩
    obtain⟨j,hj,rfl,HJ⟩:=hrel
    obtain⟨pa,pc,rfl⟩:=GG.ap HJ.out.1
    have hlj:=mD l j
    have hrl:=HRL.out
    by_cases hjt:j<l.length
    ·obtain⟨blk,off,xa,xc,ya,yc,ela,hblk,⟨x0,x1,x2,x3,x4,x5,x6,x7,x8⟩,_,_⟩:=mj (HOPS.out.below (HJ.out.2.mono (Nat.le_trans HN.out HB1.out.size))) hjt
     subst ela
     have HJT:=zH hjt
     have HLS:=zH (rp hjt)
     have i2:(0:Int)<=j/\(j:Int)<l.length:=by omega
     have HO:=zH HJ.out.1
     have HB:=zH HJ.out.2
     have HSB:=zH (show w1.heap.size<=w6.heap.size from Nat.le_trans HI.out.2.size HJ.out.2.size)
     have hnl:(rs ++ dL l j).length<=40000:=by rw[List.length_append];omega
     obtain⟨xs,exs⟩:∃xs,xs=rs ++ dL l j:=⟨_,rfl⟩
     rw[<-exs] at HO hnl ⊢
     have HXS:=zH exs
     clear exs hjt hlj hrl
     by_cases h7:(ae l j).k=7
     ·have t1:((ae l j).k == 7)=true:=beq_iff_eq.2 h7
      have HNX:=zH (show rs ++ dL l (j+1)=xs ++ [(ae l j).r] by rw[HLS.out,if_pos h7,HXS.out,List.append_assoc])
      clear h7
      go_wp2_with (at_builtin
                   refine GG.wpList_append_any rfl _ _ 54 rfl w1.heap.size 3 i0 (.int .i64 0) 1 8 Tryz.underlying54 hi0 hy0 hy1 hy2 rfl (by decide) (.slice pa xs.length pc) xs.length (ao xs) rfl ((HO.out.alloc _).alloc _) (.slice (some ⟨_,0,none⟩) 1 1) 1 [.int .i64 (ae l j).r] rfl rfl (.inr ⟨_,_,rfl,cell_one2 _ _ _ (by simp)⟩) (by intro u hu;rw[List.mem_singleton.1 hu];rfl) (by unfold maxLen;omega) (by omega) (by have:=HSB.out;simp;omega) ?_
                   intro v1 w9 ho hg
                   have HO9:=zH ho
                   have HB9:=zH (((HB.out.alloc HSB.out (.cells #[.int .u8 (ae l j).k,.int .u8 (ae l j).o,.int .i64 (ae l j).d,.int .i64 (ae l j).r,.int .i64 (ae l j).a,.slice xa (ae l j).xs.length xc,.slice ya (ae l j).ys.length yc,.int .i64 (ae l j).n,.int .i64 (ae l j).t] 56)).alloc (by have:=HSB.out;simp;omega) (.cells #[.int .i64 (ae l j).r] 3)).grown hg (by have:=HSB.out;simp;omega) (fun k e=>(HO.out.lt k e).1))
                   clear ho hg)
      go_roundw
      case rel=>exact⟨j+1,HJT.out,by go_num,zH ⟨by rw[HNX.out,List.length_append,ao,List.map_append];exact HO9.out,HB9.out⟩⟩
      case measure=>have:=HJT.out;simp [intOf];omega
     ·have t1:((ae l j).k == 7)=false:=beq_eq_false_iff_ne.2 h7
      have HNX:=zH (show rs ++ dL l (j+1)=xs by rw[HLS.out,if_neg h7,HXS.out,List.append_nil])
      have HO9:=zH (HO.out.alloc (.cells #[.int .u8 (ae l j).k,.int .u8 (ae l j).o,.int .i64 (ae l j).d,.int .i64 (ae l j).r,.int .i64 (ae l j).a,.slice xa (ae l j).xs.length xc,.slice ya (ae l j).ys.length yc,.int .i64 (ae l j).n,.int .i64 (ae l j).t] 56))
      have HB9:=zH (HB.out.alloc HSB.out (.cells #[.int .u8 (ae l j).k,.int .u8 (ae l j).o,.int .i64 (ae l j).d,.int .i64 (ae l j).r,.int .i64 (ae l j).a,.slice xa (ae l j).xs.length xc,.slice ya (ae l j).ys.length yc,.int .i64 (ae l j).n,.int .i64 (ae l j).t] 56))
      clear h7
      go_wp2_with fail
      go_roundw
      case rel=>exact⟨j+1,HJT.out,by go_num,zH ⟨by rw[HNX.out];exact HO9.out,HB9.out⟩⟩
      case measure=>have:=HJT.out;simp [intOf];omega
    ·have ej:j=l.length:=by omega
     subst ej
     have HO:=zH HJ.out.1
     have HB:=zH (HI.out.2.trans HJ.out.2)
     rw[<-HRS.out] at HO ⊢
     clear hjt hlj hrl
     go_wp2_with fail
     go_roundw
     case rel=>exact⟨i+1,HLT.out,by go_num,zH ⟨HO.out,HB.out⟩⟩
     case measure=>have:=HLT.out;simp [intOf];omega
  ·have ei:i=b.bs.length:=by omega
   subst ei
   have hrl:=HRL.out
   have HO:=zH (show w5.ownsRow w1.heap.size 3 1 (.slice oa (cl b).length oc) (cl b).length (ao (cl b)) from HI.out.1)
   have hrb:(cl b).length<=30000:=by show (gi b b.bs.length).length<=30000;omega
   have HRB:=zH (show (gi b b.bs.length).length=(cl b).length from rfl)
   rw[HRB.out]
   have HS:=zH (sort_own (cl b) w1.heap.size oa oc w5 HO.out (by omega) HI.out.2.size)
   clear hlt hi hrl
   go_wp2_with (first
    | (go_at_call 33;refine HS.out.mono ?_;rintro e w6 ⟨rfl,ho6,hb6⟩;have HO6:=zH ho6;have HB6:=zH (HI.out.2.trans hb6);clear ho6 hb6)
    | (go_at_call 34;refine(show Calls Tryz.prog 34 #[.slice oa (cl b).length oc] w6 _ from by have h:=qe (de (cl b)) w1.heap.size oa oc w6 (by rw[dt];exact HO6.out) (by rw[dt];omega) HB6.out.size;rw[dt] at h;exact h).mono ?_;rintro e w7 ⟨v,rfl,ho7,hb7⟩;have HO7:=zH ho7;have HB7:=zH (HB6.out.trans hb7);obtain⟨va,vc,rfl⟩:=GG.ap ho7;clear ho7 hb7))
   go_ret
   exact⟨_,rfl,CC.dx (by have:=HSZ.out;omega) HO7.out,HB1.out.trans (HB7.out.mono HB1.out.size)⟩
end
section
open Go.RowKit
open CD (OpP BodyP CodeP ae blAt fnAt)
def toC(c:CodeP):List (List Int):=(List.range c.fs.length).map fun i=>rowC (cl (fnAt c i)) c.fs.length
theorem io(c:CodeP):(toC c).length=c.fs.length:=by simp [toC]
theorem toC_at{c:CodeP}{i:Nat}(hi:i<c.fs.length):(toC c)[i]?.getD []=rowC (cl (fnAt c i)) c.fs.length:=by
 unfold toC
 rw[List.getElem?_map,List.getElem?_range hi]
 rfl
end
section
open Go.RowKit CC
theorem info36:(Tryz.prog.info? 97).map (fun i=>(i.zero,i.size))=some (some (.agg falses),256):=by kernel_rfl
theorem sh(w:World):(zeroValue 97).run Tryz.prog w=.ok (.agg falses) w:=by
 have h:=info36
 cases hi:Tryz.prog.info? 97 with
 | none=>rw[hi] at h;cases h
 | some i =>
   rw[hi] at h
   simp only[Option.map_some,Option.some.injEq,Prod.mk.injEq] at h
   simp [zeroValue,typeInfo,hi,h.1]
def gsI(gs:List (List Nat)):List (List Int):=gs.map (fun g=>g.map Int.ofNat)
theorem kx(gs:List (List Nat)):(gsI gs).length=gs.length:=by simp [gsI]
def NewRows(B:Nat)(l:List (List Int))(e:Ending)(W W':World):Prop:=∃v vs,e=.returned v/\W'.ownsRow B 54 1 v l.length vs/\GG.Rows B W' vs l/\Below B W W'
theorem grp_new{w2:World}{xb cb n:Nat}{L:Nat->Nat->Bool}{va:Option Addr}{vc:Nat}(hx:w2.heap[xb]?=some (.cells #[.slice va n vc] 32))(hl:LeadM w2.heap.size w2 cb n L)(W5:World)
 (e:W5=((((w2.alloc (.cells #[.func (.func 74) #[] #[.pointer (some ⟨cb,0,none⟩)]] 95)).alloc (.cells #[.func (.func 43) #[] #[.pointer (some ⟨w2.heap.size,0,none⟩)]] 95)).alloc (.cells falses 97)).alloc (.cells #[.func (.func 44) #[] #[.pointer (some ⟨xb,0,none⟩),.pointer (some ⟨w2.heap.size,0,none⟩),.pointer (some ⟨w2.heap.size+1+1,0,none⟩),.pointer (some ⟨w2.heap.size+1,0,none⟩)]] 98))) :
 GrpM w2.heap.size W5 xb w2.heap.size (w2.heap.size+1) (w2.heap.size+1+1+1) (w2.heap.size+1+1) cb n L (fun _=>false)/\W5.heap.size=w2.heap.size+4/\Below w2.heap.size w2 W5:=by
 have hlt:=heap_some_lt hx
 have hb:Below w2.heap.size w2 W5:=by rw[e];exact((((Below.refl _ _).alloc (Nat.le_refl _) _).alloc (by simp) _).alloc (by simp;omega) _).alloc (by simp;omega) _
 have hT:W5.rowIs (w2.heap.size+1+1) 97 256 (fun _=>.bool false):=by
  have h:=World.rowIs_alloc ((w2.alloc (.cells #[.func (.func 74) #[] #[.pointer (some ⟨cb,0,none⟩)]] 95)).alloc (.cells #[.func (.func 43) #[] #[.pointer (some ⟨w2.heap.size,0,none⟩)]] 95)) falses 97 (fun _=>.bool false) (fun i hi=>by unfold falses at hi ⊢;rw[Array.size_replicate] at hi;simp [hi])
  have e1:falses.size=256:=by simp [falses]
  rw[e1] at h
  rw[e]
  refine World.rowIs.of_block (by simpa using h) ?_
  exact heap_alloc_old _ _ (by simp)
 refine⟨⟨⟨va,vc,cell_of_one ((hb.block _ hlt).trans hx)⟩,?_,?_,?_,hl.below hb,hT⟩,by rw[e];simp,hb⟩
 ·refine cell_of_one (t:=95) ?_
  rw[e,heap_alloc_old _ _ (by simp;omega),heap_alloc_old _ _ (by simp;omega),heap_alloc_old _ _ (by simp)]
  exact cV rfl
 ·refine cell_of_one (t:=95) ?_
  rw[e,heap_alloc_old _ _ (by simp),heap_alloc_old _ _ (by simp)]
  exact cV (by simp)
 ·refine cell_of_one (t:=98) ?_
  rw[e]
  exact cV (by simp)
structure Kept (tb:Nat) (A V:World):Prop where
 os:V.os=A.os
 tape:V.tape=A.tape
 output:V.output=A.output
 size:A.heap.size<=V.heap.size
 block:∀k,k<A.heap.size->k≠tb->V.heap[k]?=A.heap[k]?
theorem Kept.refl(tb:Nat)(A:World):Kept tb A A:=⟨rfl,rfl,rfl,Nat.le_refl _,fun _ _ _=>rfl⟩
theorem Kept.trans{tb:Nat}{A V Z:World}(h:Kept tb A V)(g:Kept tb V Z):Kept tb A Z :=
 ⟨g.os.trans h.os,g.tape.trans h.tape,g.output.trans h.output,Nat.le_trans h.size g.size,fun k hk hn=>(g.block k (Nat.lt_of_lt_of_le hk h.size) hn).trans (h.block k hk hn)⟩
theorem Kept.alloc{tb:Nat}{A V:World}(h:Kept tb A V)(o:Obj):Kept tb A (V.alloc o) :=
 ⟨h.os,h.tape,h.output,by have:=h.size;simp;omega,fun k hk hn=>(heap_alloc_old _ _ (Nat.lt_of_lt_of_le hk h.size)).trans (h.block k hk hn)⟩
theorem Kept.set{tb:Nat}{A V:World}(h:Kept tb A V)(i:Nat)(u:Value):Kept tb A (V.setCell ⟨tb,i,none⟩ u) :=
 ⟨h.os,h.tape,h.output,by simpa using h.size,fun k hk hn=>(Below.heap_setCell _ _ _ _ hn).trans (h.block k hk hn)⟩
theorem Kept.grown{tb:Nat}{A V Z:World}{row:Option Nat}(h:Kept tb A V)(hg:V.grownBy Z row)(hr:∀k,row=some k->A.heap.size<=k):Kept tb A Z :=
 ⟨hg.os.trans h.os,hg.tape.trans h.tape,hg.output.trans h.output,Nat.le_trans h.size hg.size,fun k hk hn=>(hg.block k (Nat.lt_of_lt_of_le hk h.size) (fun e=>by have:=hr k e.symm;omega)).trans (h.block k hk hn)⟩
theorem Kept.below{tb B:Nat}{W A V:World}(h:Kept tb A V)(hb:Below B W A)(h1:B<=tb)(h2:B<=A.heap.size):Below B W V :=
 hb.trans ⟨h.os,h.tape,h.output,h.size,fun k hk=>h.block k (by omega) (by omega)⟩
theorem Kept.own{tb:Nat}{A V:World}(h:Kept tb A V){B e size n:Nat}{v:Value}{xs:List Value}(g:A.ownsRow B e size v n xs)(hB:tb<B):V.ownsRow B e size v n xs :=
 own_of_block g (fun k e=>h.block k (g.lt k e).2 (by have:=(g.lt k e).1;omega))
theorem Kept.rows{tb:Nat}{A V:World}(h:Kept tb A V){B:Nat}{vs:List Value}{to9:List (List Int)}(g:GG.Rows B A vs to9)(hB:tb<B):GG.Rows B V vs to9 :=
 ⟨g.1,fun j hj=>by obtain⟨r,e,q⟩:=g.2 j hj;exact⟨r,e,h.own q hB⟩⟩
theorem lJ{V:World}{tb:Nat}{f:Nat->Value}(h:V.rowIs tb 97 256 f)(o:Obj):(V.alloc o).rowIs tb 97 256 f:=World.rowIs.of_block h (heap_alloc_old _ _ (World.rowIs.lt h))
theorem lK{V Z:World}{tb:Nat}{f:Nat->Value}{row:Option Nat}(h:V.rowIs tb 97 256 f)(hg:V.grownBy Z row)(hr:∀k,row=some k->tb<k):Z.rowIs tb 97 256 f :=
 World.rowIs.of_block h (hg.block _ (World.rowIs.lt h) (fun e=>by have:=hr tb e.symm;omega))
theorem GrpM.kept{W5 V:World}{n₀ xb cb n:Nat}{L:Nat->Nat->Bool}{T0 T:Nat->Bool}(G:GrpM n₀ W5 xb n₀ (n₀+1) (n₀+1+1+1) (n₀+1+1) cb n L T0)(hx:xb<n₀)(hs:W5.heap.size=n₀+4)(h:Kept (n₀+1+1) W5 V)(hT:V.rowIs (n₀+1+1) 97 256 (fun i=>.bool (T i))) :
 GrpM n₀ V xb n₀ (n₀+1) (n₀+1+1+1) (n₀+1+1) cb n L T:=by
 have c:∀k,k<W5.heap.size->k≠n₀+1+1->V.cell? ⟨k,0,none⟩=W5.cell? ⟨k,0,none⟩:=fun k h1 h2=>World.cell?_of_block (w:=W5) (h.block k h1 h2)
 have hb:Below n₀ W5 V:=h.below (Below.refl _ _) (by omega) (by omega)
 obtain⟨va,vc,q⟩:=G.size
 exact⟨⟨va,vc,(c xb (by omega) (by omega)).trans q⟩,(c _ (by omega) (by omega)).trans G.lead,(c _ (by omega) (by omega)).trans G.toge,(c _ (by omega) (by omega)).trans G.wait,G.tab.below hb,hT⟩
def numC(o:Option Nat):Nat:=o.getD 0
def isO(o:Option Nat):Bool:=o.isSome
theorem mV(o:Option Nat):firstE o=.returned (.tuple #[.int .i64 (numC o:Int),.bool (isO o)]):=by cases o <;> rfl
def grpI(L:Nat->Nat->Bool)(a m:Nat):List Int:=((List.range m).filter (CC.tog L a)).map Int.ofNat
theorem grpI_yes{L:Nat->Nat->Bool}{a m:Nat}(h:CC.tog L a m=true):grpI L a (m+1)=grpI L a m ++ [(m:Int)]:=by simp [grpI,List.range_succ,List.filter_append,h]
theorem grpI_no{L:Nat->Nat->Bool}{a m:Nat}(h:CC.tog L a m=false):grpI L a (m+1)=grpI L a m:=by simp [grpI,List.range_succ,List.filter_append,h]
theorem qf(L:Nat->Nat->Bool)(a m:Nat):(grpI L a m).length<=m:=by
 unfold grpI
 rw[List.length_map]
 have:=List.length_filter_le (CC.tog L a) (List.range m)
 simpa using this
theorem gsI_snoc(L:Nat->Nat->Bool)(n a:Nat)(gs:List (List Nat)):gsI gs ++ [grpI L a n]=gsI (gs ++ [CC.grp L n a]):=by simp [gsI,grpI,CC.grp]
theorem putM_yes{L:Nat->Nat->Bool}{T:Nat->Bool}{a m:Nat}(h:CC.tog L a m=true)(i:Nat):GG.setB (CC.putM L T a m) m i=CC.putM L T a (m+1) i:=by
 rw[Bool.eq_iff_iff,GG.dN,CC.dh,CC.dh]
 constructor
 ·rintro (e | e | ⟨e,g⟩)
  ·rw[e];exact .inr ⟨by omega,h⟩
  ·exact .inl e
  ·exact .inr ⟨by omega,g⟩
 ·rintro (e | ⟨e,g⟩)
  ·exact .inr (.inl e)
  ·by_cases q:i=m
   ·exact .inl q
   ·exact .inr (.inr ⟨by omega,g⟩)
theorem putM_no{L:Nat->Nat->Bool}{T:Nat->Bool}{a m:Nat}(h:CC.tog L a m=false)(i:Nat):CC.putM L T a m i=CC.putM L T a (m+1) i:=by
 rw[Bool.eq_iff_iff,CC.dh,CC.dh]
 constructor
 ·rintro (e | ⟨e,g⟩)
  ·exact .inl e
  ·exact .inr ⟨by omega,g⟩
 ·rintro (e | ⟨e,g⟩)
  ·exact .inl e
  ·by_cases q:i=m
   ·rw[q,h] at g;cases g
   ·exact .inr ⟨by omega,g⟩
theorem putM_zero(L:Nat->Nat->Bool)(T:Nat->Bool)(a i:Nat):CC.putM L T a 0 i=T i:=by simp [CC.putM]
structure GSt (W5:World) (tb:Nat) (L:Nat->Nat->Bool) (n f:Nat) (all:List (List Nat)) (T:Nat->Bool) (g:Value) (V:World):Prop where
 kept:Kept tb W5 V
 told:V.rowIs tb 97 256 (fun i=>.bool (T i))
 closed:CC.Closed L n T
 fuel:GG.unv n T<=f
 own:∃gs vs,gs ++ CC.be L n f T=all/\V.ownsRow W5.heap.size 54 1 g gs.length vs/\GG.Rows W5.heap.size V vs (gsI gs)/\gs.length+GG.unv n T<=n
theorem CC.groups_less{n:Nat}{L:Nat->Nat->Bool}(h:CC.Pre n L){T:Nat->Bool}{f:Nat}(hf:GG.unv n T<=f){a:Nat}(e:CC.bN L n T=some a):GG.unv n (CC.putM L T a n)<=f-1/\f-1<f/\CC.be L n f T=CC.grp L n a :: CC.be L n (f-1) (CC.putM L T a n):=by
 have:=CC.jv h e
 obtain⟨f',rfl⟩:∃f',f=f'+1:=⟨f-1,by omega⟩
 refine⟨by omega,by omega,?_⟩
 show (match CC.bN L n T with | none=>[] | some a=>CC.grp L n a :: CC.be L n f' (CC.putM L T a n))=_
 rw[e]
 rfl
theorem GSt.next{W5:World}{tb:Nat}{L:Nat->Nat->Bool}{n f:Nat}{all:List (List Nat)}{T:Nat->Bool}{g gv g':Value}{wr V Z:World}{a:Nat}(hp:CC.Pre n L)(h:GSt W5 tb L n f all T g wr)(hs:tb<W5.heap.size)(e:CC.bN L n T=some a)
 (k:Kept tb wr V) (hT:V.rowIs tb 97 256 (fun i=>.bool (CC.putM L T a n i))) (hg:V.ownsRow wr.heap.size 3 1 gv (grpI L a n).length (ao (grpI L a n))) {gs:List (List Nat)} {vs:List Value} (h1:gs ++ CC.be L n f T=all) (h3:GG.Rows W5.heap.size wr vs (gsI gs)) (h2:wr.ownsRow W5.heap.size 54 1 g gs.length vs) (h4:gs.length+GG.unv n T<=n)
 (ho:Z.ownsRow W5.heap.size 54 1 g' (gs.length+1) (vs ++ [gv])) {ob:Obj} (hgr:(V.alloc ob).grownBy Z g.ownBlock):GSt W5 tb L n (f-1) all (CC.putM L T a n) g' Z:=by
 obtain⟨q1,q2,q3⟩:=CC.groups_less hp h.fuel e
 have hrow:∀k,g.ownBlock=some k->W5.heap.size<=k:=fun k e=>(h2.lt k e).1
 refine⟨(h.kept.trans (k.alloc ob)).grown hgr hrow,lK (lJ hT ob) hgr (fun k e=>by have:=hrow k e;omega),CC.iS hp h.closed e,q1,gs ++ [CC.grp L n a],vs ++ [gv],?_,by rw[List.length_append];exact ho,?_,?_⟩
 ·rw[<-h1,q3];simp
 ·rw[<-gsI_snoc]
  exact(((k.rows h3 hs).snoc (dx h.kept.size hg)).alloc ob).kept ((k.own h2 hs).alloc ob) (by decide) hgr
 ·have:=CC.jv hp e
  rw[List.length_append];simp;omega
set_option maxRecDepth 100000 in
set_option maxHeartbeats 6400000 in
theorem kk{v:Value}{to9:List (List Int)}(W:World)(hv:az W.heap.size W v to9)(hx:cd to9) :
 Calls Tryz.prog 20 #[v] W fun e W'=>NewRows W.heap.size (gsI (aR to9)) e W W':=by
 have HV:=zH hv
 have HX:=zH hx
 obtain⟨va,vc,rfl⟩:=hv.form
 clear hv hx
 obtain⟨W0,eW0⟩:∃W0,W0=W.alloc (.cells #[.slice va to9.length vc] 32):=⟨_,rfl⟩
 have HB0:=zH (show Below W.heap.size W W0 by rw[eW0];exact(Below.refl _ _).alloc (Nat.le_refl _) _)
 have HC0:=zH (show W0.heap[W.heap.size]?=some (.cells #[.slice va to9.length vc] 32) by rw[eW0];exact cV rfl)
 have EW0:=zH eW0
 clear eW0
 cases hr:GG.am to9
 ·have HR:=zH hr
  have HE:=zH (show aR to9=[] by unfold aR;rw[if_neg (by rw[hr];decide)])
  have x0:=cell_of_one HC0.out
  rw[EW0.out] at x0
  clear hr
  go_enter Tryz.func20,Tryz.ntmps20
  go_wp2_with (go_at_call 35;rw[<-EW0.out];refine(aG _ to9 _ (HV.out.on HB0.out HB0.out.size) HX.out).mono ?_;rintro e w1 ⟨rfl,hb⟩;rw[HR.out];have HB1:=zH (HB0.out.trans (hb.mono HB0.out.size));clear hb)
  go_ret
  refine⟨_,[],rfl,?_,?_,HB1.out⟩
  ·rw[HE.out];exact World.ownsRow_nil _ _ _ _
  ·rw[HE.out];exact GG.Rows.nil _ _
 ·have HR:=zH hr
  have hlen:=GG.aB hr
  have x0:=cell_of_one HC0.out
  rw[EW0.out] at x0
  have hz:=fun(w:World)=>sh w
  clear hr
  go_enter Tryz.func20,Tryz.ntmps20
  go_wp2_with fail
  rw[<-EW0.out]
  refine(aG _ to9 _ (HV.out.on HB0.out HB0.out.size) HX.out).mono ?_
  rintro e w1 ⟨rfl,hb⟩
  rw[HR.out]
  have HB1:=zH (HB0.out.trans (hb.mono HB0.out.size))
  have HC1:=zH ((hb.block _ (heap_some_lt HC0.out)).trans HC0.out)
  clear hb x0
  have x0:=cell_of_one HC1.out
  go_wp2_with fail
  refine(qd (to9:=to9) w1 (HV.out.on HB1.out HB1.out.size) HX.out HR.out).mono ?_
  rintro e w2 ⟨rfl,hl2,hb2⟩
  have HL2:=zH hl2
  have HB2:=zH (HB1.out.trans (hb2.mono HB1.out.size))
  have HC2:=zH ((hb2.block _ (heap_some_lt HC1.out)).trans HC1.out)
  clear hl2 hb2 x0
  have x0:=cell_of_one HC2.out
  obtain⟨W5,eW5⟩:∃W5,W5=((((w2.alloc (.cells #[.func (.func 74) #[] #[.pointer (some ⟨w1.heap.size,0,none⟩)]] 95)).alloc (.cells #[.func (.func 43) #[] #[.pointer (some ⟨w2.heap.size,0,none⟩)]] 95)).alloc (.cells falses 97)).alloc (.cells #[.func (.func 44) #[] #[.pointer (some ⟨W.heap.size,0,none⟩),.pointer (some ⟨w2.heap.size,0,none⟩),.pointer (some ⟨w2.heap.size+1+1,0,none⟩),.pointer (some ⟨w2.heap.size+1,0,none⟩)]] 98)):=⟨_,rfl⟩
  have HG:=zH (grp_new HC2.out HL2.out W5 eW5)
  have HC5:=zH ((HG.out.2.2.block _ (heap_some_lt HC2.out)).trans HC2.out)
  have x5:=cell_of_one HC5.out
  rw[eW5] at x5
  have EW5:=zH eW5
  clear eW5
  go_wp2_with fail
  rw[<-EW5.out]
  refine(lI HG.out.1 hlen.2).mono ?_
  rintro e w6 ⟨rfl,rfl⟩
  obtain⟨o,ho⟩:∃o,o=CC.bN (aZ to9) to9.length (fun _=>false):=⟨_,rfl⟩
  rw[mV,<-ho]
  obtain⟨z,hz1⟩:∃z,z=numC o:=⟨_,rfl⟩
  obtain⟨y,hz2⟩:∃y,y=isO o:=⟨_,rfl⟩
  rw[<-hz1,<-hz2]
  have HP:=zH (gN HR.out)
  have hcb:=heap_some_lt HC2.out
  have HS5:=zH (show o=CC.bN (aZ to9) to9.length (fun _=>false)/\z=numC o/\y=isO o/\GSt w6 (w2.heap.size+1+1) (aZ to9) to9.length to9.length (aR to9) (fun _=>false) (.slice none 0 0) w6 from⟨ho,hz1,hz2,Kept.refl _ _,HG.out.1.told,(fun a b _ h=>by cases h),GG.iB _ _,[],[],by unfold aR;rw[if_pos HR.out];rfl,World.ownsRow_nil _ _ _ _,GG.Rows.nil _ _,by have:=GG.iB to9.length (fun _=>false);simpa using this⟩)
  obtain⟨i0,hi0,hy0,hy1,hy2⟩:=info_parts Tryz.infoGInt
  obtain⟨j0,hj0,hw0,hw1,hw2⟩:=info_parts Tryz.infoGRow
  have hsz:=HG.out.2.1
  clear ho hz1 hz2 hz x5 x0
  go_wp2_with fail
  go_loopg [8,9,10] to9.length (fun gn g a ok wr=>∃(T:Nat->Bool) (z:Nat) (y:Bool) ,a=.int .i64 (z:Int)/\ok=.bool y/\RowKit.Hid (∃o,o=CC.bN (aZ to9) to9.length T/\z=numC o/\y=isO o/\GSt w6 (w2.heap.size+1+1) (aZ to9) to9.length gn (aR to9) T g wr))
  case atStart=>exact⟨_,z,y,rfl,rfl,zH ⟨_,HS5.out⟩⟩
  case round =>
   obtain⟨T,z,y,rfl,rfl,HH⟩:=hrel
   clear HS5
   cases y
   ·have HE:=zH (show ∃vs,wr.ownsRow W.heap.size 54 1 u8 (gsI (aR to9)).length vs/\GG.Rows W.heap.size wr vs (gsI (aR to9))/\Below W.heap.size W wr by
     obtain⟨o,h1,h2,h3,h4⟩:=HH.out
     have hn:CC.bN (aZ to9) to9.length T=none:=by
      rw[<-h1]
      cases o with
      | none=>rfl
      | some x=>cases h3
     obtain⟨gs,vs,q1,q2,q3,q4⟩:=h4.own
     rw[CC.eY _ hn,List.append_nil] at q1
     rw[<-q1,kx]
     have hle:W.heap.size<=w6.heap.size:=by omega
     exact⟨vs,dx hle q2,⟨q3.1,fun j hj=>by obtain⟨r,e1,e2⟩:=q3.2 j hj;exact⟨r,e1,dx hle e2⟩⟩,h4.kept.below (HB2.out.trans (HG.out.2.2.mono HB2.out.size)) (by omega) (by omega)⟩)
    obtain⟨vs,HE1,HE2,HE3⟩:=HE.out
    go_wp2_with fail
    go_ret
    exact⟨_,vs,rfl,HE1,HE2,HE3⟩
   ·obtain⟨w7,rfl⟩:∃w7,w7=wr:=⟨_,rfl⟩
    obtain⟨o,ho,hz,hy,hS⟩:=HH.out
    have hn:CC.bN (aZ to9) to9.length T=some z:=by
     rw[<-ho,hz]
     cases o with
     | none=>cases hy
     | some x=>rfl
    have HN:=zH hn
    have hzn:=(CC.im hn).1
    have HS:=zH hS
    have HF:=zH (CC.groups_less HP.out hS.fuel hn)
    have hx6:w7.cell? ⟨W.heap.size,0,none⟩=some (.slice va to9.length vc):=cell_of_one ((hS.kept.block _ (heap_some_lt HC5.out) (by omega)).trans HC5.out)
    have HX6:=zH ((hS.kept.block _ (heap_some_lt HC5.out) (by omega)).trans HC5.out)
    obtain⟨gs,vs,q1,q2,q3,q4⟩:=hS.own
    have Q1:=zH q1
    have Q2:=zH q2
    have Q3:=zH q3
    have Q4:=zH q4
    have hgs:gs.length<=256:=by omega
    obtain⟨ga,gc,rfl⟩:=CC.ownOf q2
    have hts:w2.heap.size+1+1<w7.heap.size:=by have:=hS.kept.size;omega
    clear hz hy hn ho hS HH q1 q2 q3 q4
    go_wp2_with fail
    go_loopw [11,38] (fun gv k V=>∃b:Nat,b<=to9.length/\k=.int .i64 (b:Int)/\RowKit.Hid (Kept (w2.heap.size+1+1) w7 V/\V.rowIs (w2.heap.size+1+1) 97 256 (fun i=>.bool (CC.putM (aZ to9) T z b i))/\V.ownsRow w7.heap.size 3 1 gv (grpI (aZ to9) z b).length (ao (grpI (aZ to9) z b)))) (fun _ k _=>to9.length-(intOf k).toNat)
    case atStart=>exact⟨0,by omega,rfl,zH ⟨Kept.refl _ _,World.rowIs.congr HS.out.told (fun i _=>by rw[putM_zero]),World.ownsRow_nil _ _ _ _⟩⟩
    case round =>
     obtain⟨b,hb,rfl,HM⟩:=hrel
     obtain⟨hk,ht,hg⟩:=HM.out
     have HK:=zH hk
     have HT:=zH ht
     have HGR:=zH hg
     clear HM hk ht hg
     obtain⟨gva,gvc,rfl⟩:=CC.ownOf HGR.out
     have hsw:=HK.out.size
     by_cases hlt:b<to9.length
     ·have j1:decide ((b:Int)<(to9.length:Int))=true:=decide_eq_true (by omega)
      have HM:=zH (HG.out.1.kept hcb hsz (HS.out.kept.trans HK.out) HT.out)
      have ht4:=HM.out.toge
      cases hc:CC.tog (aZ to9) z b
      ·have HC:=zH hc
       have HR1:=zH (show Kept (w2.heap.size+1+1) w7 wr/\wr.rowIs (w2.heap.size+1+1) 97 256 (fun i=>.bool (CC.putM (aZ to9) T z (b+1) i))/\wr.ownsRow w7.heap.size 3 1 (.slice gva (grpI (aZ to9) z b).length gvc) (grpI (aZ to9) z (b+1)).length (ao (grpI (aZ to9) z (b+1))) from⟨HK.out,World.rowIs.congr HT.out (fun i _=>by rw[putM_no hc]),by rw[grpI_no hc];exact HGR.out⟩)
       clear hc
       go_wp2_with (go_at_call 43;refine(jw z b HM.out.tab HM.out.lead hzn hlt).mono ?_;rintro e w8 ⟨rfl,e8⟩;rw[e8,HC.out];clear e8)
       go_roundw
       case rel=>exact⟨b+1,by omega,by go_num,HR1⟩
       case measure=>simp [intOf];omega
      ·have HC:=zH hc
       have hcT:=World.rowIs.cell HT.out (show b<256 by omega)
       have hfT:=World.rowIs.frozen HT.out b
       have i1:(0:Int)<=b/\(b:Int)<256:=by omega
       have hgl:=qf (aZ to9) z b
       have HT1:=zH (show (wr.setCell ⟨(w2.heap.size+1+1),b,none⟩ (.bool true)).rowIs (w2.heap.size+1+1) 97 256 (fun i=>.bool (CC.putM (aZ to9) T z (b+1) i)) from World.rowIs.congr (World.rowIs.set HT.out b (.bool true)) (fun i _=>by
        rw[<-putM_yes hc]
        unfold GG.setB
        by_cases e:i=b <;> simp [e]))
       have HK1:=zH (HK.out.set b (.bool true))
       have HY:=zH (grpI_yes hc)
       have HS1:=zH (show (wr.setCell ⟨(w2.heap.size+1+1),b,none⟩ (.bool true)).heap.size=wr.heap.size by simp)
       clear hc
       obtain⟨L1,hL1⟩:∃L1,L1=grpI (aZ to9) z b:=⟨_,rfl⟩
       rw[<-hL1] at hgl HGR HY
       rw[<-hL1]
       clear hL1
       go_wp2_with (first
        | (at_builtin
           refine GG.wpList_append_any rfl _ _ 54 rfl w7.heap.size 3 i0 (.int .i64 0) 1 8 Tryz.underlying54 hi0 hy0 hy1 hy2 rfl (by decide) (.slice gva L1.length gvc) L1.length (ao L1) rfl (((Kept.refl (w2.heap.size+1+1) wr).set b (.bool true)).own HGR.out hts |>.alloc _) (.slice (some ⟨wr.heap.size,0,none⟩) 1 1) 1 [.int .i64 (b:Int)] rfl rfl (.inr ⟨_,_,rfl,by have h1:=GG.aW (wr.setCell ⟨(w2.heap.size+1+1),b,none⟩ (.bool true)) (.int .i64 (b:Int)) 3;rw[HS1.out] at h1;exact h1⟩) (by intro u hu;rw[List.mem_singleton.1 hu];rfl) (by unfold maxLen;omega) (by omega) (by simp;omega) ?_
           intro v1 w9 ho hg
           have HR1:=zH (show Kept (w2.heap.size+1+1) w7 w9/\w9.rowIs (w2.heap.size+1+1) 97 256 (fun i=>.bool (CC.putM (aZ to9) T z (b+1) i))/\w9.ownsRow w7.heap.size 3 1 v1 (grpI (aZ to9) z (b+1)).length (ao (grpI (aZ to9) z (b+1))) from⟨(HK1.out.alloc _).grown hg (fun k e=>(HGR.out.lt k e).1),lK (lJ HT1.out _) hg (fun k e=>by have:=(HGR.out.lt k e).1;omega),by rw[HY.out,List.length_append];simpa [ao] using ho⟩)
           clear ho hg)
        | (go_at_call 43;refine(jw z b HM.out.tab HM.out.lead hzn hlt).mono ?_;rintro e w8 ⟨rfl,e8⟩;rw[e8,HC.out];clear e8))
       go_roundw
       case rel=>exact⟨b+1,by omega,by go_num,HR1⟩
       case measure=>simp [intOf];omega
     ·have hbn:b=to9.length:=by omega
      subst hbn
      have hgl:=qf (aZ to9) z to9.length
      have HGN:=zH (fun(Z:World) (g':Value) (ob:Obj) (ho:Z.ownsRow w6.heap.size 54 1 g' (gs.length+1) (vs ++ [.slice gva (grpI (aZ to9) z to9.length).length gvc])) (hgr:(wr.alloc ob).grownBy Z (Value.slice ga gs.length gc).ownBlock)=>HS.out.next HP.out (by omega) HN.out HK.out HT.out HGR.out Q1.out Q3.out Q2.out Q4.out ho hgr)
      have HOW:=zH (HK.out.own Q2.out (by omega))
      obtain⟨L1,hL1⟩:∃L1,L1=grpI (aZ to9) z to9.length:=⟨_,rfl⟩
      rw[<-hL1] at hgl HGR HGN
      rw[<-hL1]
      clear hL1
      go_wp2_with (at_builtin
                   refine GG.wpList_append_any rfl _ _ 32 rfl w6.heap.size 54 j0 (.slice none 0 0) 1 24 Tryz.underlying32 hj0 hw0 hw1 hw2 rfl (by decide) (.slice ga gs.length gc) gs.length vs rfl (HOW.out.alloc _) (.slice (some ⟨wr.heap.size,0,none⟩) 1 1) 1 [.slice gva L1.length gvc] rfl rfl (.inr ⟨_,_,rfl,GG.aW _ _ _⟩) (by intro u hu;rw[List.mem_singleton.1 hu];rfl) (by unfold maxLen;omega) (by omega) (by have:=HS.out.kept.size;simp;omega) ?_
                   intro v1 w9 ho hg
                   have HS9:=zH (HGN.out w9 v1 _ ho hg)
                   have x9:w9.cell? ⟨W.heap.size,0,none⟩=some (.slice va to9.length vc):=cell_of_one ((HS9.out.kept.block _ (heap_some_lt HC5.out) (by omega)).trans HC5.out)
                   have HM9:=zH (HG.out.1.kept hcb hsz HS9.out.kept HS9.out.told)
                   clear ho hg)
      refine(lI HM9.out hlen.2).mono ?_
      rintro e w8 ⟨rfl,e8⟩
      rw[e8,mV]
      clear e8
      obtain⟨o,ho⟩:∃o,o=CC.bN (aZ to9) to9.length (CC.putM (aZ to9) T z to9.length):=⟨_,rfl⟩
      rw[<-ho]
      obtain⟨z1,hz1⟩:∃z1,z1=numC o:=⟨_,rfl⟩
      obtain⟨y1,hy1⟩:∃y1,y1=isO o:=⟨_,rfl⟩
      rw[<-hz1,<-hy1]
      have HN9:=zH (show _/\_/\_ from⟨ho,hz1,hy1⟩)
      clear ho hz1 hy1
      go_wp2_with fail
      go_roundg (gk-1)
      case measure=>exact HF.out.2.1
      case rel=>exact⟨_,z1,y1,rfl,rfl,zH ⟨o,HN9.out.1,HN9.out.2.1,HN9.out.2.2,HS9.out⟩⟩
end
section
open Go.RowKit CC
def bj(W:World)(g n:Nat)(f:Nat->Int):Prop:=W.rowIs g 3 n (fun i=>.int .i64 (f i))
theorem bj.set{W:World}{g n:Nat}{f f':Nat->Int}(h:bj W g n f)(i:Nat)(c:Int)(e:∀j,f' j=if j=i then c else f j):bj (W.setCell ⟨g,i,none⟩ (.int .i64 c)) g n f':=by
 refine World.rowIs.congr (World.rowIs.set h i (.int .i64 c)) (fun j _=>?_)
 rw[e]
 by_cases q:j=i <;> simp [q]
theorem bj.of{W W':World}{g n:Nat}{f:Nat->Int}(h:bj W g n f)(e:W'.heap[g]?=W.heap[g]?):bj W' g n f:=World.rowIs.of_block h e
theorem lY{n₀:Nat}{W:World}{u:Value}{xs:List Int}(x:Int)(h:Row n₀ W u xs)(hl:xs.length<=9223372036854775807) :
 Calls Tryz.prog 62 #[u,.int .i64 x] W fun e w'=>e=.returned (.bool (xs.contains x))/\w'=W:=by
 by_cases h0:0<xs.length
 ·obtain⟨b,off,cap,rfl,_,hc⟩:=h.at h0
  have:=Tryz.slices_Contains_int b off xs.length cap xs x W (Nat.le_refl _) hl (fun j hj=>by rw[hc j hj,List.getD_eq_getElem?_getD])
  rwa [List.take_length] at this
 ·have e:xs=[]:=List.eq_nil_of_length_eq_zero (by omega)
  subst e
  obtain⟨a,cap,rfl⟩:=h.form
  exact Tryz.slices_Contains_int_empty a cap x W
theorem oy{n₀:Nat}{W:World}{u:Value}{xs:List Int}{x:Int}{t:Bool}(h:RowKit.Hid (Row n₀ W u xs))(hl:xs.length<=9223372036854775807)(ht:RowKit.Hid (xs.contains x=t))(d:Nat) :
 Calls Tryz.prog 62 #[u,.int .i64 x] (W.drewN d) fun e w'=>e=.returned (.bool t)/\∃k,w'=W.drewN k:=by
 refine(lY x (h.out.drewN d) hl).mono ?_
 rintro e w' ⟨rfl,rfl⟩
 exact⟨by rw[ht.out],d,rfl⟩
set_option maxRecDepth 100000 in
set_option maxHeartbeats 3200000 in
theorem qg{v gv:Value}{to9:List (List Int)}{g:List Nat}(W:World)(hv:az W.heap.size W v to9)(hr:GG.am to9=true)(hg:Row W.heap.size W gv (g.map Int.ofNat))(h0:0<g.length)(h2:g.length<=256)(h1:∀x∈g,x<to9.length) :
 Calls Tryz.prog 37 #[v,gv] W fun e w'=>e=.returned (.bool (CC.eJ (GG.an to9) g))/\∃d,w'=W.drewN d:=by
 have hlen:=GG.aB hr
 obtain⟨gb,gf,gc,rfl,_,hgc⟩:=hg.at (by rw[List.length_map];exact h0)
 obtain⟨va,vc,rfl⟩:=hv.form
 have hg0:=hgc 0 (by rw[List.length_map];exact h0)
 rw[List.length_map]
 clear hgc hg
 by_cases hl:1<g.length
 ·have HE:=zH (show CC.eJ (GG.an to9) g=true by unfold CC.eJ;rw[decide_eq_true hl];rfl)
  have hd:decide ((1:Int)<(g.length:Int))=true:=decide_eq_true (by omega)
  have hd2:decide (1<g.length)=true:=decide_eq_true hl
  clear hg0
  go_enter Tryz.func37,Tryz.ntmps37
  go_wp2_with fail
  go_quiet (fail)
  go_wp2_with fail
  go_ret
  exact⟨af HE.out.symm,_,rfl⟩
 ·obtain⟨x,rfl⟩:∃x,g=[x]:=by
   match g,h0,hl with
   | [x],_,_=>exact⟨x,rfl⟩
   | _ :: _ :: _,_,hl=>exact absurd (by simp) hl
  have hx:=h1 x List.mem_cons_self
  have hc0:W.cell? ⟨gb,gf,none⟩=some (.int .i64 (x:Int)):=hg0
  have hd:decide ((1:Int)<(([x]:List Nat).length:Int))=false:=rfl
  obtain⟨vb,vf,vc',e1⟩:=hv.addr (by omega)
  cases e1
  obtain⟨ra,rac,hx1,hrx⟩:=hv.at hx
  have hrl:=GG.fF (GG.bF hr hx)
  have HE:=zH (show CC.eJ (GG.an to9) [x]=(to9[x]?.getD []).contains (x:Int) by
   unfold CC.eJ
   show (false || decide (x∈GG.an to9 x))=_
   rw[Bool.false_or,Bool.eq_iff_iff,decide_eq_true_iff,List.contains_iff_mem]
   exact GG.iU hr hx x)
  have i1:(0:Int)<=x/\(x:Int)<to9.length:=by omega
  clear hg0
  obtain⟨r,er⟩:∃r,r=to9[x]?.getD []:=⟨_,rfl⟩
  rw[<-er] at hx1 hrx hrl HE
  clear er
  have HRX:=zH hrx
  obtain⟨t,ht⟩:∃t,t=r.contains (x:Int):=⟨_,rfl⟩
  have HT:=zH ht.symm
  rw[<-ht] at HE
  clear hrx ht
  go_enter Tryz.func37,Tryz.ntmps37
  go_wp2_with fail
  go_quiet ((go_at_call 62;exact oy HRX (by omega) HT _))
  go_wp2_with fail
  go_ret
  exact⟨af HE.out.symm,_,rfl⟩
theorem Kept.drew{tb:Nat}{A V:World}(h:Kept tb A V):Kept tb A V.drew:=⟨h.os,h.tape,h.output,h.size,h.block⟩
theorem Kept.drewN{tb:Nat}{A V:World}(h:Kept tb A V)(d:Nat):Kept tb A (V.drewN d):=⟨h.os,h.tape,h.output,h.size,h.block⟩
def nzB(e:Nat->Int)(i:Nat):Bool:=decide (e i≠0)
set_option maxRecDepth 100000 in
set_option maxHeartbeats 1600000 in
theorem cnz_any{W:World}{bx eb n:Nat}{e:Nat->Int}(i:Nat)(hi:i<n)(hx:W.cell? ⟨bx,0,none⟩=some (.slice (some ⟨eb,0,none⟩) n n))(h:bj W eb n e) :
 Calls Tryz.prog 64 #[.int .i64 i,.pointer (some ⟨bx,0,none⟩)] W fun e' w'=>e'=.returned (.bool (nzB e i))/\w'=W:=by
 have hc:=World.rowIs.cell h hi
 have i1:(0:Int)<=i/\(i:Int)<n:=by omega
 obtain⟨x,ex⟩:∃x,x=e i:=⟨_,rfl⟩
 rw[<-ex] at hc
 by_cases h0:x=0
 ·have HE:=zH (show nzB e i=false by unfold nzB;rw[<-ex,h0];decide)
  subst h0
  clear ex h
  go_enter Tryz.func64,Tryz.ntmps64
  go_wp2_with fail
  go_ret
  exact⟨by rw[HE.out];rfl,rfl⟩
 ·have HE:=zH (show nzB e i=true by unfold nzB;rw[<-ex];exact decide_eq_true h0)
  have hb:(x != (0:Int))=true:=bne_iff_ne.2 h0
  clear ex h h0
  go_enter Tryz.func64,Tryz.ntmps64
  go_wp2_with fail
  go_ret
  exact⟨by rw[HE.out];first | rfl | simp [hb],rfl⟩
set_option maxRecDepth 100000 in
set_option maxHeartbeats 1600000 in
theorem si{n₀:Nat}{W:World}{bx eb n:Nat}{e:Nat->Int}{gv:Value}{g:List Nat}(hg:Row n₀ W gv (g.map Int.ofNat))(h2:g.length<=256)(h1:∀x∈g,x<n)(hx:W.cell? ⟨bx,0,none⟩=some (.slice (some ⟨eb,0,none⟩) n n))(h:bj W eb n e) :
 Calls Tryz.prog 106 #[gv,.func (.func 64) #[] #[.pointer (some ⟨bx,0,none⟩)]] W fun e' w'=>(∃z:Int,e'=.returned (.int .i64 z)/\decide (0<=z)=CC.hasB e g)/\w'=W:=by
 obtain⟨ga,gc,rfl⟩:=hg.form
 rw[List.length_map]
 have HG:=zH hg
 have H:=zH h
 have H1:=zH h1
 clear hg h h1
 go_enter Tryz.func106,Tryz.ntmps106
 go_wp2_with fail
 go_loopw [8] (fun k wr=>∃i:Nat,i<=g.length/\k=.int .i64 (i:Int)/\W=wr/\RowKit.Hid (∀j,j<i->nzB e (g[j]?.getD 0)=false)) (fun k _=>g.length-(intOf k).toNat)
 case atStart=>exact⟨0,by omega,rfl,rfl,zH (fun j hj=>absurd hj (Nat.not_lt_zero _))⟩
 case round =>
  obtain⟨i,hi,rfl,rfl,HI⟩:=hrel
  by_cases hlt:i<g.length
  ·have hgl:i<(g.map Int.ofNat).length:=by rw[List.length_map];exact hlt
   obtain⟨gb,gf,e1,hgc⟩:=Row.cellAt (show Row n₀ W (.slice ga g.length gc) (g.map Int.ofNat) by have:=HG.out;rwa [List.length_map] at this) hgl
   cases e1
   obtain⟨x,ex⟩:∃x,x=g[i]?.getD 0:=⟨_,rfl⟩
   have hxv:(g.map Int.ofNat)[i]?.getD 0=(x:Int):=by rw[ex,List.getElem?_map,List.getElem?_eq_getElem hlt];rfl
   rw[hxv] at hgc
   have hxn:x<n:=H1.out x (by rw[ex,List.getElem?_eq_getElem hlt];exact List.getElem_mem hlt)
   have i1:(0:Int)<=i/\(i:Int)<g.length:=by omega
   cases hz:nzB e x
   ·have HZ:=zH hz
    have HN:=zH (show nzB e (g[i]?.getD 0)=false by rw[<-ex];exact hz)
    clear hz hxv ex
    go_wp2_with (go_at_call 64;refine(cnz_any x hxn hx H.out).mono ?_;rintro e' w' ⟨rfl,e8⟩;rw[e8,HZ.out];clear e8)
    go_roundw
    case rel=>exact⟨i+1,by omega,by go_num,by first | rfl | trivial,zH (fun j hj=>by by_cases e2:j=i;rw[e2];exact HN.out;exact HI.out j (by omega))⟩
    case measure=>simp [intOf];omega
   ·have HZ:=zH hz
    have HE:=zH (show CC.hasB e g=true by
     unfold CC.hasB
     rw[List.any_eq_true]
     exact⟨x,by rw[ex,List.getElem?_eq_getElem hlt];exact List.getElem_mem hlt,hz⟩)
    clear hz hxv ex
    go_wp2_with (go_at_call 64;refine(cnz_any x hxn hx H.out).mono ?_;rintro e' w' ⟨rfl,e8⟩;rw[e8,HZ.out];clear e8)
    go_ret
    exact⟨⟨(i:Int),rfl,by rw[HE.out];exact decide_eq_true (by omega)⟩,rfl⟩
  ·have HE:=zH (show CC.hasB e g=false by
    unfold CC.hasB
    rw[List.any_eq_false]
    intro x hx
    obtain⟨j,hj,e2⟩:=List.mem_iff_getElem.1 hx
    have:=HI.out j (by omega)
    rw[List.getElem?_eq_getElem hj,Option.getD_some,e2] at this
    unfold nzB at this
    rw[this]
    decide)
   clear HI
   go_wp2_with fail
   go_ret
   exact⟨⟨-1,rfl,by rw[HE.out];rfl⟩,rfl⟩
set_option maxRecDepth 100000 in
set_option maxHeartbeats 1600000 in
theorem oz{W:World}{eb n:Nat}{e:Nat->Int}{gv:Value}{g:List Nat}(hg:Row W.heap.size W gv (g.map Int.ofNat))(h2:g.length<=256)(h1:∀x∈g,x<n)(h:bj W eb n e) :
 Calls Tryz.prog 38 #[.slice (some ⟨eb,0,none⟩) n n,gv] W fun e' w'=>e'=.returned (.bool (CC.hasB e g))/\Below W.heap.size W w':=by
 obtain⟨W0,eW0⟩:∃W0,W0=W.alloc (.cells #[.slice (some ⟨eb,0,none⟩) n n] 54):=⟨_,rfl⟩
 have HB0:=zH (show Below W.heap.size W W0 by rw[eW0];exact(Below.refl _ _).alloc (Nat.le_refl _) _)
 have HC0:=zH (show W0.heap[W.heap.size]?=some (.cells #[.slice (some ⟨eb,0,none⟩) n n] 54) by rw[eW0];exact cV rfl)
 have HI0:=zH (h.of (HB0.out.block _ (World.rowIs.lt h)))
 have HG0:=zH (hg.below HB0.out)
 have EW0:=zH eW0
 have H1:=zH h1
 clear eW0 hg h h1
 obtain⟨ga,gc,e1⟩:=HG0.out.form
 rw[List.length_map] at e1
 subst e1
 go_enter Tryz.func38,Tryz.ntmps38
 go_wp2_with fail
 rw[<-EW0.out]
 have HCF:=zH (show Calls Tryz.prog 63 #[.slice ga g.length gc,.func (.func 64) #[] #[.pointer (some ⟨W.heap.size,0,none⟩)]] W0 fun e' w'=>e'=.returned (.bool (CC.hasB e g))/\w'=W0 by
  clear EW0 HB0
  go_enter Tryz.func63,Tryz.ntmps63
  go_wp2_with fail
  refine(si HG0.out h2 H1.out (cell_of_one HC0.out) HI0.out).mono ?_
  rintro e' w' ⟨⟨z,rfl,hz⟩,e8⟩
  rw[e8]
  have HZ:=zH hz
  obtain⟨t,ht⟩:∃t,t=decide (0<=z):=⟨_,rfl⟩
  have HT:=zH (show CC.hasB e g=t by rw[ht];exact hz.symm)
  have ht':=ht.symm
  clear hz e8 ht
  cases t
  ·have hz0:decide (0<=z)=false:=ht'
   clear ht'
   go_wp2_with fail
   go_ret
   exact⟨by rw[HT.out];rfl,rfl⟩
  ·have hz0:decide (0<=z)=true:=ht'
   clear ht'
   go_wp2_with fail
   go_ret
   exact⟨by rw[HT.out];rfl,rfl⟩)
 refine HCF.out.mono ?_
 rintro e' w' ⟨rfl,e8⟩
 rw[e8]
 clear e8
 go_wp2_with fail
 go_ret
 exact⟨rfl,HB0.out⟩
end
section
open Go.RowKit CC
def jO(vs us:List Value)(p:Nat):Prop:=us.length=vs.length/\∀k,k<vs.length->us[k]?=if k<p∨vs.length-p<=k then vs[vs.length-1-k]? else vs[k]?
theorem sj(vs:List Value):jO vs vs 0:=⟨rfl,fun k hk=>by rw[if_neg (by omega)]⟩
theorem turn_step{vs us:List Value}{p:Nat}(h:jO vs us p)(hp:p<vs.length-1-p){x y:Value}(hx:vs[p]?=some x)(hy:vs[vs.length-1-p]?=some y):jO vs ((us.set p y).set (vs.length-1-p) x) (p+1):=by
 obtain⟨hl,h⟩:=h
 refine⟨by simp [hl],fun k hk=>?_⟩
 rw[List.getElem?_set,List.length_set,hl,List.getElem?_set,hl]
 by_cases e1:vs.length-1-p=k
 ·rw[if_pos e1,if_pos (by omega),if_pos (by omega),<-e1,show vs.length-1-(vs.length-1-p)=p by omega,hx]
 ·rw[if_neg e1]
  by_cases e2:p=k
  ·rw[if_pos e2,if_pos (by omega),if_pos (by omega),<-e2,hy]
  ·rw[if_neg e2,h k hk]
   by_cases e3:k<p∨vs.length-p<=k
   ·rw[if_pos e3,if_pos (by omega)]
   ·rw[if_neg e3,if_neg (by omega)]
theorem turn_end{vs us:List Value}{p:Nat}(h:jO vs us p)(hp:vs.length<=2*p+1):us=vs.reverse:=by
 apply List.ext_getElem?
 intro k
 by_cases hk:k<vs.length
 ·rw[h.2 k hk,List.getElem?_reverse hk]
  by_cases e:k<p∨vs.length-p<=k
  ·rw[if_pos e]
  ·rw[if_neg e,show vs.length-1-k=k by omega]
 ·rw[List.getElem?_eq_none (by rw[h.1];omega),List.getElem?_eq_none (by rw[List.length_reverse];omega)]
theorem jx{W:World}{B e n cap g:Nat}{xs:List Value}(h:W.ownsRow B e 1 (.slice (some ⟨g,0,none⟩) n cap) n xs){k:Nat}{u:Value}(hk:xs[k]?=some u):W.cell? ⟨g,k,none⟩=some u:=by
 rcases aM h with⟨⟨a,c,e1,_⟩,e2⟩ | ⟨b,off,c,e1,_,_,hc⟩
 ·rw[e2] at hk;cases hk
 ·cases e1
  simpa using hc k u hk
theorem qh{W:World}{B e size n cap g:Nat}{xs:List Value}(h:W.ownsRow B e size (.slice (some ⟨g,0,none⟩) n cap) n xs)(k:Nat):W.frozen? ⟨g,k,none⟩=false:=by
 rcases h.2 with⟨e1,_⟩ | ⟨g',cap',cur,e1,_,hg,_⟩
 ·cases e1
 ·cases e1
  simp [World.frozen?,hg]
set_option maxRecDepth 100000 in
set_option maxHeartbeats 3200000 in
theorem oA{B n:Nat}{W:World}{v:Value}{vs:List Value}(h:W.ownsRow B 54 1 v n vs)(hn:n<=4294967296)(hv:∀k,k<n->∃a l c,vs[k]?=some (.slice a l c)) :
 Calls Tryz.prog 36 #[v] W fun e W'=>e=.returned (.tuple #[])/\W'.ownsRow B 54 1 v n vs.reverse/\W.grownBy W' v.ownBlock:=by
 have hvl:vs.length=n:=by have:=h.1;omega
 obtain⟨va,vc,rfl⟩:=CC.ownOf h
 have H:=zH h
 have HV:=zH hv
 have HL:=zH hvl
 clear h hv hvl
 go_enter Tryz.func36,Tryz.ntmps36
 go_wp2_with fail
 go_loopw [2,3] (fun i j wr=>∃(p:Nat) (us:List Value),2*p<=n/\i=.int .i64 (p:Int)/\j=.int .i64 ((n:Int)-1-p)/\RowKit.Hid (wr.ownsRow B 54 1 (.slice va n vc) n us/\W.grownBy wr (Value.slice va n vc).ownBlock/\jO vs us p)) (fun i _ _=>n-(intOf i).toNat)
 case atStart=>exact⟨0,vs,by omega,rfl,by go_num,zH ⟨H.out,⟨rfl,rfl,rfl,Nat.le_refl _,fun _ _ _=>rfl⟩,sj vs⟩⟩
 case round =>
  obtain⟨p,us,hp,rfl,rfl,HH⟩:=hrel
  by_cases hlt:2*p+1<n
  ·have j1:decide ((p:Int)<(n:Int)-1-p)=true:=decide_eq_true (by omega)
   obtain⟨ax,lx,cx,hx⟩:=HV.out p (by omega)
   obtain⟨ay,ly,cy,hy⟩:=HV.out (n-1-p) (by omega)
   have hq:(n:Int)-1-p=((n-1-p:Nat):Int):=by omega
   rw[hq] at j1
   rw[hq]
   obtain⟨q,eq⟩:∃q,q=n-1-p:=⟨_,rfl⟩
   have HQ:=zH eq
   rw[<-eq] at j1 hy
   rw[<-eq]
   have j2:decide (p<q)=true:=decide_eq_true (by omega)
   clear hq
   have hux:us[p]?=some (.slice ax lx cx):=by rw[HH.out.2.2.2 p (by rw[HL.out];omega),if_neg (by rw[HL.out];omega)];exact hx
   have huy:us[q]?=some (.slice ay ly cy):=by rw[HH.out.2.2.2 q (by rw[HL.out];omega),if_neg (by rw[HL.out];omega)];exact hy
   obtain⟨g,e1⟩:∃g,va=some ⟨g,0,none⟩:=by
    rcases HH.out.1.2 with⟨_,e2⟩ | ⟨g,cap,cur,e2,_⟩
    ·omega
    ·cases e2;exact⟨g,rfl⟩
   subst e1
   have hcx:=jx HH.out.1 hux
   have hcy:=jx HH.out.1 huy
   have i1:(0:Int)<=p/\(p:Int)<n:=by omega
   have i2:(0:Int)<=q/\(q:Int)<n:=by omega
   have hf1:=qh HH.out.1 p
   have HS1:=zH (World.ownsRow.stored HH.out.1 p (.slice ay ly cy))
   have HS2:=zH (World.ownsRow.stored HS1.out.1 q (.slice ax lx cx))
   have hf2:=qh HS1.out.1 q
   have HT:=zH (show jO vs ((us.set p (.slice ay ly cy)).set q (.slice ax lx cx)) (p+1) by
    have h1:=turn_step HH.out.2.2 (by rw[HL.out];omega) hx (by rw[HL.out,<-eq];exact hy)
    rwa [HL.out,<-eq] at h1)
   have HR:=zH hux
   have hcq:(wr.setCell ⟨g,p,none⟩ (.slice ay ly cy)).cell? ⟨g,q,none⟩=some (.slice ay ly cy):=jx HS1.out.1 (by rw[List.getElem?_set,if_neg (by omega)];exact huy)
   clear eq hx hy hux huy
   have hfA:wr.drew.frozen? ⟨g,p,none⟩=false:=hf1
   have hfB:(wr.drew.setCell ⟨g,p,none⟩ (.slice ay ly cy)).frozen? ⟨g,q,none⟩=false:=hf2
   have hcA:wr.drew.cell? ⟨g,p,none⟩=some (.slice ax lx cx):=hcx
   have hcB:(wr.drew.setCell ⟨g,p,none⟩ (.slice ay ly cy)).cell? ⟨g,q,none⟩=some (.slice ay ly cy):=hcq
   have HF:=zH (show ((wr.drew.setCell ⟨g,p,none⟩ (.slice ay ly cy)).setCell ⟨g,q,none⟩ (.slice ax lx cx)).ownsRow B 54 1 (.slice (some ⟨g,0,none⟩) n vc) n ((us.set p (.slice ay ly cy)).set q (.slice ax lx cx))/\W.grownBy ((wr.drew.setCell ⟨g,p,none⟩ (.slice ay ly cy)).setCell ⟨g,q,none⟩ (.slice ax lx cx)) (some g) by
    have h0:=HH.out.2.1
    have h1:=HS1.out.2
    have h2:=HS2.out.2
    exact⟨own_of_block HS2.out.1 (fun k e=>rfl),⟨h2.os.trans (h1.os.trans h0.os),h2.tape.trans (h1.tape.trans h0.tape),h2.output.trans (h1.output.trans h0.output),Nat.le_trans h0.size (Nat.le_trans h1.size h2.size),fun k hk hn=>(h2.block k (Nat.lt_of_lt_of_le hk (Nat.le_trans h0.size h1.size)) hn).trans ((h1.block k (Nat.lt_of_lt_of_le hk h0.size) hn).trans (h0.block k hk hn))⟩⟩)
   go_upto_region 3 with fail
   refine wp_region_held_drew (S:=(fun _=>True)) (by kernel_rfl) ?_ (fun hHeld=>?_)
   ·trivial
   refine tkV 0 (.slice (some ⟨g,0,none⟩) n vc) rfl (fun W hSW=>?_) hHeld ?_
   ·((try dsimp only at hSW);go_split_ands;go_simp <;> with_reducible rfl)
   try simp only[zA,zB,zC,Act.put,zD,zE,zF]
   refine tkV 1 (.int .i64 p) rfl (fun W hSW=>?_) hHeld ?_
   ·((try dsimp only at hSW);go_split_ands;go_simp <;> with_reducible rfl)
   try simp only[zA,zB,zC,Act.put,zD,zE,zF]
   refine tkV 2 (.slice (some ⟨g,0,none⟩) n vc) rfl (fun W hSW=>?_) hHeld ?_
   ·((try dsimp only at hSW);go_split_ands;go_simp <;> with_reducible rfl)
   try simp only[zA,zB,zC,Act.put,zD,zE,zF]
   refine tkV 3 (.int .i64 q) rfl (fun W hSW=>?_) hHeld ?_
   ·((try dsimp only at hSW);go_split_ands;go_simp <;> with_reducible rfl)
   try simp only[zA,zB,zC,Act.put,zD,zE,zF]
   refine tkV 4 (.slice (some ⟨g,0,none⟩) n vc) rfl (fun W hSW=>?_) hHeld ?_
   ·((try dsimp only at hSW);go_split_ands;go_simp <;> with_reducible rfl)
   try simp only[zA,zB,zC,Act.put,zD,zE,zF]
   refine tkV 5 (.int .i64 q) rfl (fun W hSW=>?_) hHeld ?_
   ·((try dsimp only at hSW);go_split_ands;go_simp <;> with_reducible rfl)
   try simp only[zA,zB,zC,Act.put,zD,zE,zF]
   refine tkV 6 (.pointer (some ⟨g,q,none⟩)) rfl (fun W hSW=>?_) hHeld ?_
   ·((try dsimp only at hSW);go_split_ands;go_simp <;> with_reducible rfl)
   try simp only[zA,zB,zC,Act.put,zD,zE,zF]
   refine tkV 8 (.slice (some ⟨g,0,none⟩) n vc) rfl (fun W hSW=>?_) hHeld ?_
   ·((try dsimp only at hSW);go_split_ands;go_simp <;> with_reducible rfl)
   try simp only[zA,zB,zC,Act.put,zD,zE,zF]
   refine tkV 9 (.int .i64 p) rfl (fun W hSW=>?_) hHeld ?_
   ·((try dsimp only at hSW);go_split_ands;go_simp <;> with_reducible rfl)
   try simp only[zA,zB,zC,Act.put,zD,zE,zF]
   refine tkV 10 (.pointer (some ⟨g,p,none⟩)) rfl (fun W hSW=>?_) hHeld ?_
   ·((try dsimp only at hSW);go_split_ands;go_simp <;> with_reducible rfl)
   try simp only[zA,zB,zC,Act.put,zD,zE,zF]
   refine wpAnyH_ready (rs:=[7,11]) (by kernel_rfl) (by simp) ?_
   refine AllReadyH.cons rfl (fun K hK=>?_) (AllReadyH.cons rfl (fun K hK=>?_) AllReadyH.nil)
   ·skip
    try simp only[zA,zB,zC]
    go_simp
    try go_wp2_with fail
    refine hK.out _ _ ?_ (fun hHeld=>?_)
    ·trivial
    clear hK K
    try simp only[zA,zB,zC,Act.put,zD,zE,zF]
    refine wpAnyH_ready (rs:=[11]) (by kernel_rfl) (by simp) ?_
    refine AllReadyH.cons rfl (fun K hK=>?_) AllReadyH.nil
    try simp only[zA,zB,zC]
    go_simp
    try go_wp2_with fail
    refine hK.out _ _ ?_ (fun hHeld=>?_)
    ·trivial
    clear hK K
    try simp only[zA,zB,zC,Act.put,zD,zE,zF]
    refine tkV 12 (.pointer (some ⟨g,p,none⟩)) rfl (fun W hSW=>?_) hHeld ?_
    ·((try dsimp only at hSW);go_split_ands;go_simp <;> with_reducible rfl)
    try simp only[zA,zB,zC,Act.put,zD,zE,zF]
    refine wpAnyH_ready (rs:=[13]) (by kernel_rfl) (by simp) ?_
    refine AllReadyH.cons rfl (fun K hK=>?_) AllReadyH.nil
    try simp only[zA,zB,zC]
    go_simp
    try go_wp2_with fail
    refine hK.out _ _ ?_ (fun hHeld=>?_)
    ·trivial
    clear hK K
    try simp only[zA,zB,zC,Act.put,zD,zE,zF]
    refine tkV 14 (.pointer (some ⟨g,q,none⟩)) rfl (fun W hSW=>?_) hHeld ?_
    ·((try dsimp only at hSW);go_split_ands;go_simp <;> with_reducible rfl)
    try simp only[zA,zB,zC,Act.put,zD,zE,zF]
    refine wpAnyH_ready (rs:=[15]) (by kernel_rfl) (by simp) ?_
    refine AllReadyH.cons rfl (fun K hK=>?_) AllReadyH.nil
    try simp only[zA,zB,zC]
    go_simp
    try go_wp2_with fail
    refine hK.out _ _ ?_ (fun hHeld=>?_)
    ·trivial
    clear hK K
    try simp only[zA,zB,zC,Act.put,zD,zE,zF]
    refine wpAnyH_done (by kernel_rfl) ?_ _
    clear hHeld
    go_wp2_with fail
    go_roundw
    case rel=>exact⟨p+1,_,by omega,by go_num,by have:=HQ.out;go_num,zH ⟨HF.out.1,HF.out.2,HT.out⟩⟩
    case measure=>simp [intOf];omega
   ·skip
    try simp only[zA,zB,zC]
    go_simp
    try go_wp2_with fail
    refine hK.out _ _ ?_ (fun hHeld=>?_)
    ·trivial
    clear hK K
    try simp only[zA,zB,zC,Act.put,zD,zE,zF]
    refine wpAnyH_ready (rs:=[7]) (by kernel_rfl) (by simp) ?_
    refine AllReadyH.cons rfl (fun K hK=>?_) AllReadyH.nil
    try simp only[zA,zB,zC]
    go_simp
    try go_wp2_with fail
    refine hK.out _ _ ?_ (fun hHeld=>?_)
    ·trivial
    clear hK K
    try simp only[zA,zB,zC,Act.put,zD,zE,zF]
    refine tkV 12 (.pointer (some ⟨g,p,none⟩)) rfl (fun W hSW=>?_) hHeld ?_
    ·((try dsimp only at hSW);go_split_ands;go_simp <;> with_reducible rfl)
    try simp only[zA,zB,zC,Act.put,zD,zE,zF]
    refine wpAnyH_ready (rs:=[13]) (by kernel_rfl) (by simp) ?_
    refine AllReadyH.cons rfl (fun K hK=>?_) AllReadyH.nil
    try simp only[zA,zB,zC]
    go_simp
    try go_wp2_with fail
    refine hK.out _ _ ?_ (fun hHeld=>?_)
    ·trivial
    clear hK K
    try simp only[zA,zB,zC,Act.put,zD,zE,zF]
    refine tkV 14 (.pointer (some ⟨g,q,none⟩)) rfl (fun W hSW=>?_) hHeld ?_
    ·((try dsimp only at hSW);go_split_ands;go_simp <;> with_reducible rfl)
    try simp only[zA,zB,zC,Act.put,zD,zE,zF]
    refine wpAnyH_ready (rs:=[15]) (by kernel_rfl) (by simp) ?_
    refine AllReadyH.cons rfl (fun K hK=>?_) AllReadyH.nil
    try simp only[zA,zB,zC]
    go_simp
    try go_wp2_with fail
    refine hK.out _ _ ?_ (fun hHeld=>?_)
    ·trivial
    clear hK K
    try simp only[zA,zB,zC,Act.put,zD,zE,zF]
    refine wpAnyH_done (by kernel_rfl) ?_ _
    clear hHeld
    go_wp2_with fail
    go_roundw
    case rel=>exact⟨p+1,_,by omega,by go_num,by have:=HQ.out;go_num,zH ⟨HF.out.1,HF.out.2,HT.out⟩⟩
    case measure=>simp [intOf];omega
  ·have j1:decide ((p:Int)<(n:Int)-1-p)=false:=decide_eq_false (by omega)
   have HE:=zH (turn_end HH.out.2.2 (by rw[HL.out];omega))
   go_wp2_with fail
   go_end0
   exact⟨rfl,by rw[<-HE.out];exact HH.out.1,HH.out.2.1⟩
end
section
open Go.RowKit CC
theorem CC.leadF_snoc(e:Nat->Int)(i:Nat)(l:List Nat)(j:Nat):CC.aU e i (l ++ [j])=CC.cY (CC.aU e i l) i j:=by unfold CC.aU;rw[List.foldl_append];rfl
theorem CC.leadS_bd{e:Nat->Int}{n i j:Nat}{M:Int}(hi:i<n)(h:∀x,x<n->-1<=e x/\e x<=M)(hM:0<=M):∀x,x<n->-1<=CC.cY e i j x/\CC.cY e i j x<=M+1:=by
 intro x hx
 rw[CC.gO]
 have h1:=h x hx
 have h2:=h i hi
 by_cases e1:x=j
 ·rw[if_pos e1,<-e1]
  unfold CC.comb
  by_cases c1:e i=0∨e x = -1
  ·rw[if_pos c1];omega
  ·rw[if_neg c1]
   by_cases c2:e i = -1
   ·rw[if_pos c2];omega
   ·rw[if_neg c2];omega
 ·rw[if_neg e1];omega
theorem CC.leadF_bd{e:Nat->Int}{n i:Nat}{M:Int}(hi:i<n)(hM:0<=M)(h:∀x,x<n->-1<=e x/\e x<=M):∀(l:List Nat) (x:Nat),x<n->-1<=CC.aU e i l x/\CC.aU e i l x<=M+l.length:=by
 intro l
 induction l generalizing e M with
 | nil=>intro x hx;have:=h x hx;show -1<=e x/\e x<=M+(0:Nat);omega
 | cons j t ih =>
   intro x hx
   have:=ih (e:=CC.cY e i j) (M:=M+1) (by omega) (CC.leadS_bd hi h hM) x hx
   rw[List.length_cons]
   show -1<=CC.aU (CC.cY e i j) i t x/\CC.aU (CC.cY e i j) i t x<=M+((t.length+1:Nat):Int)
   omega
set_option maxRecDepth 100000 in
set_option maxHeartbeats 6400000 in
theorem jP{n₀:Nat}{W:World}{eb n i:Nat}{e:Nat->Int}{M:Int}{rv:Value}{row:List Int}(h:bj W eb n e)(hi:i<n)(hrow:Row n₀ W rv row)(hn0:n₀<=eb)(hr:∀x∈row,0<=x/\x<n)(hl:row.length<=256)(hn:n<=256)(hb:∀x,x<n->-1<=e x/\e x<=M)(hM0:0<=M)(hM:M<=1099511627776) :
 Calls Tryz.prog 39 #[.slice (some ⟨eb,0,none⟩) n n,.int .i64 i,rv] W fun e' W'=>e'=.returned (.tuple #[])/\bj W' eb n (CC.aU e i (row.map Int.toNat))/\Kept eb W W':=by
 have HRW:=zH hrow
 have HB:=zH (fun(l:List Nat)=>CC.leadF_bd hi hM0 hb l)
 have HR:=zH hr
 have HI:=zH h
 have heb:=World.rowIs.lt h
 obtain⟨ra,rc,rfl⟩:=hrow.form
 clear h hrow hr hb
 go_enter Tryz.func39,Tryz.ntmps39
 go_wp2_with fail
 go_loopw [10] (fun k wr=>∃q:Nat,q<=row.length/\k=.int .i64 (q:Int)/\RowKit.Hid (bj wr eb n (CC.aU e i ((row.take q).map Int.toNat))/\Kept eb W wr)) (fun k _=>row.length-(intOf k).toNat)
 case atStart=>exact⟨0,by omega,rfl,zH ⟨HI.out,Kept.refl _ _⟩⟩
 case round =>
  obtain⟨q,hq,rfl,HH⟩:=hrel
  by_cases hlt:q<row.length
  ·have HW:=zH (HRW.out.below (HH.out.2.below (Below.refl n₀ W) hn0 (by omega)))
   obtain⟨rb,rf,e1,hrc⟩:=HW.out.cellAt hlt
   cases e1
   have hrin:=HR.out _ (GG.bB (d:=0) hlt)
   have htk:(row.take (q+1)).map Int.toNat=(row.take q).map Int.toNat ++ [(row[q]?.getD 0).toNat]:=by
    rw[List.take_succ_eq_append_getElem hlt,List.map_append,List.getElem?_eq_getElem hlt];rfl
   obtain⟨x,ex⟩:∃x,x=row[q]?.getD 0:=⟨_,rfl⟩
   rw[<-ex] at hrc hrin htk
   obtain⟨j,rfl⟩:∃j:Nat,x=(j:Int):=⟨x.toNat,by omega⟩
   have hjn:j<n:=by omega
   have HN:=zH (show CC.aU e i ((row.take (q+1)).map Int.toNat)=CC.cY (CC.aU e i ((row.take q).map Int.toNat)) i j by rw[htk,CC.leadF_snoc];rfl)
   obtain⟨E,hE⟩:∃E,E=CC.aU e i ((row.take q).map Int.toNat):=⟨_,rfl⟩
   have hbj:=HB.out ((row.take q).map Int.toNat)
   rw[<-hE] at HN HH hbj
   have hbi:=hbj i hi
   have hbj:=hbj j hjn
   rw[List.length_map,List.length_take] at hbi hbj
   clear hE ex htk hrin
   have hci:=World.rowIs.cell HH.out.1 hi
   have hcj:=World.rowIs.cell HH.out.1 hjn
   obtain⟨z,hz⟩:∃z,z=E i:=⟨_,rfl⟩
   obtain⟨y,hy⟩:∃y,y=E j:=⟨_,rfl⟩
   rw[<-hz] at hci hbi
   rw[<-hy] at hcj hbj
   have i1:(0:Int)<=i/\(i:Int)<n:=by omega
   have i2:(0:Int)<=j/\(j:Int)<n:=by omega
   have i3:(0:Int)<=q/\(q:Int)<row.length:=by omega
   by_cases c1:z=0
   ·have HE:=zH (show bj wr eb n (CC.aU e i ((row.take (q+1)).map Int.toNat)) by rw[HN.out];unfold CC.cY;rw[if_pos (.inl (by rw[<-hz];exact c1))];exact HH.out.1)
    subst c1
    clear hz hy
    go_wp2_with fail
    go_roundw
    case rel=>exact⟨q+1,by omega,by go_num,zH ⟨HE.out,HH.out.2⟩⟩
    case measure=>simp [intOf];omega
   ·have t1:(z == (0:Int))=false:=beq_eq_false_iff_ne.2 c1
    by_cases c2:y = -1
    ·have HE:=zH (show bj wr eb n (CC.aU e i ((row.take (q+1)).map Int.toNat)) by rw[HN.out];unfold CC.cY;rw[if_pos (.inr (by rw[<-hy];exact c2))];exact HH.out.1)
     subst c2
     clear hz hy c1
     go_wp2_with fail
     go_roundw
     case rel=>exact⟨q+1,by omega,by go_num,zH ⟨HE.out,HH.out.2⟩⟩
     case measure=>simp [intOf];omega
    ·have t2:(y == (-1:Int))=false:=beq_eq_false_iff_ne.2 c2
     have hfj:=World.rowIs.frozen HH.out.1 j
     by_cases c3:z = -1
     ·have HE:=zH (show bj (wr.setCell ⟨eb,j,none⟩ (.int .i64 (-1))) eb n (CC.aU e i ((row.take (q+1)).map Int.toNat)) from HH.out.1.set j (-1) (fun k=>by
       rw[HN.out];unfold CC.cY
       rw[if_neg (by rw[<-hz,<-hy];omega),if_pos (by rw[<-hz];exact c3)]))
      have HK:=zH (HH.out.2.set j (.int .i64 (-1)))
      subst c3
      clear hz hy c1 c2
      go_wp2_with fail
      go_roundw
      case rel=>exact⟨q+1,by omega,by go_num,zH ⟨HE.out,HK.out⟩⟩
      case measure=>simp [intOf];omega
     ·have t3:(z == (-1:Int))=false:=beq_eq_false_iff_ne.2 c3
      have HE:=zH (show bj (wr.drew.setCell ⟨eb,j,none⟩ (.int .i64 (max y (z+1)))) eb n (CC.aU e i ((row.take (q+1)).map Int.toNat)) from(show bj wr.drew eb n E from HH.out.1.of rfl).set j _ (fun k=>by
       rw[HN.out];unfold CC.cY
       rw[if_neg (by rw[<-hz,<-hy];omega),if_neg (by rw[<-hz];exact c3),<-hz,<-hy]))
      have HK:=zH (HH.out.2.drew.set j (.int .i64 (max y (z+1))))
      have hcA:wr.drew.cell? ⟨eb,i,none⟩=some (.int .i64 z):=hci
      have hcB:wr.drew.cell? ⟨eb,j,none⟩=some (.int .i64 y):=hcj
      have hfA:wr.drew.frozen? ⟨eb,j,none⟩=false:=hfj
      have hw:IntKind.i64.wrap (z+1)=z+1:=by rw[IntKind.wrap_i64];omega
      have hw2:wrap64 (z+1)=z+1:=by unfold wrap64;omega
      clear hz hy c1 c2 c3
      go_upto_region 3 with fail
      refine wp_region_held_drew (S:=(fun _=>True)) (by kernel_rfl) ?_ (fun hHeld=>?_)
      ·trivial
      refine tkV 0 (.slice (some ⟨eb,0,none⟩) n n) rfl (fun W hSW=>?_) hHeld ?_
      ·((try dsimp only at hSW);go_split_ands;go_simp <;> with_reducible rfl)
      try simp only[zA,zB,zC,Act.put,zD,zE,zF]
      refine tkV 1 (.int .i64 j) rfl (fun W hSW=>?_) hHeld ?_
      ·((try dsimp only at hSW);go_split_ands;go_simp <;> with_reducible rfl)
      try simp only[zA,zB,zC,Act.put,zD,zE,zF]
      refine tkV 2 (.slice (some ⟨eb,0,none⟩) n n) rfl (fun W hSW=>?_) hHeld ?_
      ·((try dsimp only at hSW);go_split_ands;go_simp <;> with_reducible rfl)
      try simp only[zA,zB,zC,Act.put,zD,zE,zF]
      refine tkV 3 (.int .i64 j) rfl (fun W hSW=>?_) hHeld ?_
      ·((try dsimp only at hSW);go_split_ands;go_simp <;> with_reducible rfl)
      try simp only[zA,zB,zC,Act.put,zD,zE,zF]
      refine tkV 4 (.pointer (some ⟨eb,j,none⟩)) rfl (fun W hSW=>?_) hHeld ?_
      ·((try dsimp only at hSW);go_split_ands;go_simp <;> with_reducible rfl)
      try simp only[zA,zB,zC,Act.put,zD,zE,zF]
      refine tkV 6 (.slice (some ⟨eb,0,none⟩) n n) rfl (fun W hSW=>?_) hHeld ?_
      ·((try dsimp only at hSW);go_split_ands;go_simp <;> with_reducible rfl)
      try simp only[zA,zB,zC,Act.put,zD,zE,zF]
      refine tkV 7 (.int .i64 i) rfl (fun W hSW=>?_) hHeld ?_
      ·((try dsimp only at hSW);go_split_ands;go_simp <;> with_reducible rfl)
      try simp only[zA,zB,zC,Act.put,zD,zE,zF]
      refine tkV 8 (.pointer (some ⟨eb,i,none⟩)) rfl (fun W hSW=>?_) hHeld ?_
      ·((try dsimp only at hSW);go_split_ands;go_simp <;> with_reducible rfl)
      try simp only[zA,zB,zC,Act.put,zD,zE,zF]
      refine wpAnyH_ready (rs:=[5,9]) (by kernel_rfl) (by simp) ?_
      refine AllReadyH.cons rfl (fun K hK=>?_) (AllReadyH.cons rfl (fun K hK=>?_) AllReadyH.nil)
      ·skip
       try simp only[zA,zB,zC]
       go_simp
       try go_wp2_with fail
       refine hK.out _ _ ?_ (fun hHeld=>?_)
       ·trivial
       clear hK K
       try simp only[zA,zB,zC,Act.put,zD,zE,zF]
       refine wpAnyH_ready (rs:=[9]) (by kernel_rfl) (by simp) ?_
       refine AllReadyH.cons rfl (fun K hK=>?_) AllReadyH.nil
       try simp only[zA,zB,zC]
       go_simp
       try go_wp2_with fail
       refine hK.out _ _ ?_ (fun hHeld=>?_)
       ·trivial
       clear hK K
       try simp only[zA,zB,zC,Act.put,zD,zE,zF]
       refine tkV 10 (.int .i64 (z+1)) rfl (fun W hSW=>?_) hHeld ?_
       ·((try dsimp only at hSW);go_split_ands;go_simp <;> with_reducible rfl)
       try simp only[zA,zB,zC,Act.put,zD,zE,zF]
       refine tkV 11 (.int .i64 (max y (z+1))) rfl (fun W hSW=>?_) hHeld ?_
       ·((try dsimp only at hSW);go_split_ands;go_simp <;> with_reducible rfl)
       try simp only[zA,zB,zC,Act.put,zD,zE,zF]
       refine tkV 12 (.pointer (some ⟨eb,j,none⟩)) rfl (fun W hSW=>?_) hHeld ?_
       ·((try dsimp only at hSW);go_split_ands;go_simp <;> with_reducible rfl)
       try simp only[zA,zB,zC,Act.put,zD,zE,zF]
       refine wpAnyH_ready (rs:=[13]) (by kernel_rfl) (by simp) ?_
       refine AllReadyH.cons rfl (fun K hK=>?_) AllReadyH.nil
       try simp only[zA,zB,zC]
       go_simp
       try go_wp2_with fail
       refine hK.out _ _ ?_ (fun hHeld=>?_)
       ·trivial
       clear hK K
       try simp only[zA,zB,zC,Act.put,zD,zE,zF]
       refine wpAnyH_done (by kernel_rfl) ?_ _
       clear hHeld
       go_wp2_with fail
       go_roundw
       case rel=>exact⟨q+1,by omega,by go_num,zH ⟨HE.out,HK.out⟩⟩
       case measure=>simp [intOf];omega
      ·skip
       try simp only[zA,zB,zC]
       go_simp
       try go_wp2_with fail
       refine hK.out _ _ ?_ (fun hHeld=>?_)
       ·trivial
       clear hK K
       try simp only[zA,zB,zC,Act.put,zD,zE,zF]
       refine tkV 10 (.int .i64 (z+1)) rfl (fun W hSW=>?_) hHeld ?_
       ·((try dsimp only at hSW);go_split_ands;go_simp <;> with_reducible rfl)
       try simp only[zA,zB,zC,Act.put,zD,zE,zF]
       refine wpAnyH_ready (rs:=[5]) (by kernel_rfl) (by simp) ?_
       refine AllReadyH.cons rfl (fun K hK=>?_) AllReadyH.nil
       try simp only[zA,zB,zC]
       go_simp
       try go_wp2_with fail
       refine hK.out _ _ ?_ (fun hHeld=>?_)
       ·trivial
       clear hK K
       try simp only[zA,zB,zC,Act.put,zD,zE,zF]
       refine tkV 11 (.int .i64 (max y (z+1))) rfl (fun W hSW=>?_) hHeld ?_
       ·((try dsimp only at hSW);go_split_ands;go_simp <;> with_reducible rfl)
       try simp only[zA,zB,zC,Act.put,zD,zE,zF]
       refine tkV 12 (.pointer (some ⟨eb,j,none⟩)) rfl (fun W hSW=>?_) hHeld ?_
       ·((try dsimp only at hSW);go_split_ands;go_simp <;> with_reducible rfl)
       try simp only[zA,zB,zC,Act.put,zD,zE,zF]
       refine wpAnyH_ready (rs:=[13]) (by kernel_rfl) (by simp) ?_
       refine AllReadyH.cons rfl (fun K hK=>?_) AllReadyH.nil
       try simp only[zA,zB,zC]
       go_simp
       try go_wp2_with fail
       refine hK.out _ _ ?_ (fun hHeld=>?_)
       ·trivial
       clear hK K
       try simp only[zA,zB,zC,Act.put,zD,zE,zF]
       refine wpAnyH_done (by kernel_rfl) ?_ _
       clear hHeld
       go_wp2_with fail
       go_roundw
       case rel=>exact⟨q+1,by omega,by go_num,zH ⟨HE.out,HK.out⟩⟩
       case measure=>simp [intOf];omega
  ·have HE:=zH (show bj wr eb n (CC.aU e i (row.map Int.toNat)) by
    have h1:=HH.out.1
    rwa [List.take_of_length_le (by omega)] at h1)
   go_wp2_with fail
   go_end0
   exact⟨rfl,HE.out,HH.out.2⟩
end
section
open Go.RowKit CC
theorem CC.groups_grp{L:Nat->Nat->Bool}{n:Nat}:∀(f:Nat) (T:Nat->Bool),∀g∈CC.be L n f T,∃a,a<n/\g=CC.grp L n a:=by
 intro f
 induction f with
 | zero=>intro T g hg;simp [CC.be] at hg
 | succ f ih =>
   intro T g hg
   cases e:CC.bN L n T with
   | none=>rw[CC.eY _ e] at hg;simp at hg
   | some a =>
     have e1:CC.be L n (f+1) T=CC.grp L n a :: CC.be L n f (CC.putM L T a n):=by
      show (match CC.bN L n T with | none=>[] | some a=>CC.grp L n a :: CC.be L n f (CC.putM L T a n))=_
      rw[e]
     rw[e1] at hg
     rcases List.mem_cons.1 hg with h | h
     ·exact⟨a,(CC.im e).1,h⟩
     ·exact ih _ g h
theorem CC.groups_len{L:Nat->Nat->Bool}{n:Nat}(hp:CC.Pre n L):∀(f:Nat) (T:Nat->Bool),(CC.be L n f T).length<=GG.unv n T:=by
 intro f
 induction f with
 | zero=>intro T;simp [CC.be]
 | succ f ih =>
   intro T
   cases e:CC.bN L n T with
   | none=>rw[CC.eY _ e];simp
   | some a =>
     have e1:CC.be L n (f+1) T=CC.grp L n a :: CC.be L n f (CC.putM L T a n):=by
      show (match CC.bN L n T with | none=>[] | some a=>CC.grp L n a :: CC.be L n f (CC.putM L T a n))=_
      rw[e]
     have:=ih (CC.putM L T a n)
     have:=CC.jv hp e
     rw[e1,List.length_cons]
     omega
theorem qi{to9:List (List Int)}(h:GG.am to9=true){g:List Nat}(hg:g∈aR to9):0<g.length/\g.length<=256/\∀x∈g,x<to9.length:=by
 unfold aR at hg
 rw[if_pos h] at hg
 obtain⟨a,ha,rfl⟩:=CC.groups_grp _ _ g hg
 have hl:=GG.aB h
 refine⟨List.length_pos_of_mem (CC.qb (gN h) ha),?_,fun x hx=>(CC.eW.1 hx).1⟩
 have:=GG.pigeon to9.length (CC.grp (aZ to9) to9.length a) (fun x hx=>(CC.eW.1 hx).1) (CC.mR _ _ _)
 omega
theorem qj{to9:List (List Int)}(h:GG.am to9=true):(aR to9).length<=256:=by
 have hl:=GG.aB h
 unfold aR
 rw[if_pos h]
 have h1:=CC.groups_len (gN h) to9.length (fun _=>false)
 have h2:=GG.iB to9.length (fun _=>false)
 omega
def entT(to9:List (List Int))(main t:Nat):Nat->Int:=((aR to9).reverse.take t).foldl (CC.bV (GG.an to9)) (CC.eK main)
theorem mW(to9:List (List Int))(main:Nat):entT to9 main 0=CC.eK main:=by simp [entT]
theorem mX{to9:List (List Int)}(main:Nat){t:Nat}(ht:t<(aR to9).reverse.length):entT to9 main (t+1)=CC.bV (GG.an to9) (entT to9 main t) ((aR to9).reverse[t]?.getD []):=by
 unfold entT
 rw[List.take_succ_eq_append_getElem ht,List.foldl_append,List.getElem?_eq_getElem ht]
 rfl
theorem entT_all(to9:List (List Int))(main:Nat){t:Nat}(ht:(aR to9).reverse.length<=t):entT to9 main t=bE to9 main:=by
 unfold entT
 rw[List.take_of_length_le ht]
 rfl
def inT(adj:Nat->List Nat)(e:Nat->Int)(g:List Nat)(q:Nat):Nat->Int:=(g.take q).foldl (fun e i=>CC.aU e i (adj i)) (if CC.eJ adj g && CC.hasB e g then CC.iz e g else e)
theorem lL(adj:Nat->List Nat)(e:Nat->Int){g:List Nat}{q:Nat}(hq:q<g.length):inT adj e g (q+1)=CC.aU (inT adj e g q) (g[q]?.getD 0) (adj (g[q]?.getD 0)):=by
 unfold inT
 rw[List.take_succ_eq_append_getElem hq,List.foldl_append,List.getElem?_eq_getElem hq]
 rfl
theorem ky(adj:Nat->List Nat)(e:Nat->Int){g:List Nat}{q:Nat}(hq:g.length<=q):inT adj e g q=CC.bV adj e g:=by
 unfold inT
 rw[List.take_of_length_le hq]
 rfl
theorem fold_bd{to9:List (List Int)}(hr:GG.am to9=true){M:Int}(hM:0<=M):∀(l:List Nat) (e:Nat->Int) (k:Nat),(∀x∈l,x<to9.length)->(∀x,x<to9.length->-1<=e x/\e x<=M+256*k)->∀x,x<to9.length->-1<=l.foldl (fun e i=>CC.aU e i (GG.an to9 i)) e x/\l.foldl (fun e i=>CC.aU e i (GG.an to9 i)) e x<=M+256*((k+l.length:Nat):Int):=by
 intro l
 induction l with
 | nil=>intro e k _ h x hx;have:=h x hx;show -1<=e x/\e x<=_;rw[List.length_nil];omega
 | cons a t ih =>
   intro e k hl h x hx
   have hlen:=GG.aB hr
   have ha:=hl a List.mem_cons_self
   have hrl:=GG.fF (GG.bF hr ha)
   have h1:=CC.leadF_bd (n:=to9.length) ha (M:=M+256*k) (by omega) h (GG.an to9 a)
   rw[GG.adj_len] at h1
   have:=ih (CC.aU e a (GG.an to9 a)) (k+1) (fun y hy=>hl y (List.mem_cons_of_mem _ hy)) (fun y hy=>by have:=h1 y hy;omega) x hx
   rw[List.length_cons]
   show -1<=t.foldl _ (CC.aU e a (GG.an to9 a)) x/\t.foldl _ (CC.aU e a (GG.an to9 a)) x<=_
   omega
theorem inT_bd{to9:List (List Int)}(hr:GG.am to9=true){e:Nat->Int}{g:List Nat}{M:Int}(hM:0<=M)(hg:∀x∈g,x<to9.length)(h:∀x,x<to9.length->-1<=e x/\e x<=M)(q:Nat):∀x,x<to9.length->-1<=inT (GG.an to9) e g q x/\inT (GG.an to9) e g q x<=M+256*(q:Int):=by
 intro x hx
 have h0:∀x,x<to9.length->-1<=(if CC.eJ (GG.an to9) g && CC.hasB e g then CC.iz e g else e) x/\(if CC.eJ (GG.an to9) g && CC.hasB e g then CC.iz e g else e) x<=M+256*((0:Nat):Int):=by
  intro x hx
  have:=h x hx
  split
  ·unfold CC.iz
   split <;> omega
  ·omega
 have:=fold_bd hr hM (g.take q) _ 0 (fun y hy=>hg y (List.mem_of_mem_take hy)) h0 x hx
 have hq:(g.take q).length<=q:=by rw[List.length_take];omega
 unfold inT
 omega
theorem entT_bd{to9:List (List Int)}(hr:GG.am to9=true)(main:Nat):∀(t:Nat),t<=(aR to9).reverse.length->∀x,x<to9.length->-1<=entT to9 main t x/\entT to9 main t x<=1+65536*(t:Int):=by
 intro t
 induction t with
 | zero =>
   intro _ x hx
   rw[mW]
   unfold CC.eK
   split <;> omega
 | succ t ih =>
   intro ht x hx
   have hg:(aR to9).reverse[t]?.getD []∈aR to9:=List.mem_reverse.1 (GG.bB (by omega))
   obtain⟨_,h2,h3⟩:=qi hr hg
   rw[mX main (by omega),<-ky (GG.an to9) _ (Nat.le_refl _)]
   have:=inT_bd hr (by omega) h3 (ih (by omega)) ((aR to9).reverse[t]?.getD []).length x hx
   omega
def entL(to9:List (List Int))(main:Int):List Int:=if GG.am to9=true/\GG.inB to9.length main=true then (List.range to9.length).map (bE to9 main.toNat) else []
theorem bj.row{W:World}{g n:Nat}{f:Nat->Int}(h:bj W g n f):Row W.heap.size W (.slice (some ⟨g,0,none⟩) n n) ((List.range n).map f):=by
 have hl:(ao ((List.range n).map f)).length=n:=by simp [ao]
 refine .inr ⟨g,0,n,by rw[hl],World.rowIs.lt h,by rw[hl];exact Nat.le_refl _,fun j u hj=>?_⟩
 have hjn:j<n:=by
  have:=(List.getElem?_eq_some_iff.1 hj).1
  omega
 have hu:u=.int .i64 (f j):=by
  have:(ao ((List.range n).map f))[j]?=some (.int .i64 (f j)):=by simp [ao,hjn]
  rw[this] at hj
  exact(Option.some.inj hj).symm
 rw[hu,Nat.zero_add]
 exact World.rowIs.cell h hjn
end
end Go.Proofs.YtjngffgkllakaaaGreatDoor
