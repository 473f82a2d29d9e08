/- A part of a proof: laws that the last text uses. -/
import Derived.Test.YtjngffgkllakaaaGreatDoorY01
import Derived.Test.YtjngffgkllakaaaGreatDoorY02
import Derived.Deep.Light
import Derived.WalkSmall
import Derived.Laws.OwnMore
import Derived.Laws.AppendOwn
import Derived.Lib.OthersKept
import Derived.Deep.AppendLies
import Derived.Maps.Own
import Derived.Maps.OwnOps
import Derived.Maps.Views
import Derived.Deep.OwnRows
import Derived.RegionTactic
import Derived.ChangeAlike
import Derived.BigRegion
import Derived.Deep.QuietTactic
import Derived.BigQuiet
import Derived.ChangeKeysEq
import Derived.Laws.StructEq
import Derived.Laws.CopyOwn
import Derived.Lib.DecodeN
import Derived.Lib.TrimU
set_option linter.unusedSimpArgs false
set_option linter.unusedVariables false
namespace Go.Proofs.YtjngffgkllakaaaGreatDoor
open List renaming getElem_toArray → zA, getElem_cons_succ → zB, getElem_cons_zero → zC, setIfInBounds_toArray → zD, set_cons_zero → zE, set_cons_succ → zF
open Lib renaming hid → zH
section
open Go.RowKit
def Strs(n₀:Nat)(W:World)(v:Value)(ss:List ByteArray):Prop :=
 ((∃a cap,v=.slice a 0 cap/\(a=none->cap=0))/\ss=[])∨∃b off cap,v=.slice (some ⟨b,off,none⟩) ss.length cap/\b<n₀/\ss.length<=cap/\∀j,j<ss.length->W.cell? ⟨b,off+j,none⟩=some (.string (ss[j]?.getD ⟨#[]⟩))
theorem Strs.below{n₀:Nat}{A B:World}(h:Below n₀ A B){v:Value}{ss:List ByteArray}:Strs n₀ A v ss->Strs n₀ B v ss
 | .inl e=>.inl e
 | .inr ⟨b,off,cap,e,hb,hl,hc⟩=>.inr ⟨b,off,cap,e,hb,hl,fun j hj=>(h.cell (p:=⟨b,off+j,none⟩) hb).trans (hc j hj)⟩
theorem Strs.mono{n n':Nat}(h:n<=n'){A:World}{v:Value}{ss:List ByteArray}:Strs n A v ss->Strs n' A v ss
 | .inl e=>.inl e
 | .inr ⟨b,off,cap,e,hb,hl,hc⟩=>.inr ⟨b,off,cap,e,by omega,hl,hc⟩
theorem Strs.form{n₀:Nat}{A:World}{v:Value}{ss:List ByteArray}(h:Strs n₀ A v ss):∃a cap,v=.slice a ss.length cap:=by
 rcases h with⟨⟨_,_,rfl,_⟩,rfl⟩ | ⟨b,off,cap,rfl,_⟩
 ·exact⟨_,_,rfl⟩
 ·exact⟨_,_,rfl⟩
def dM(n₀:Nat)(W:World)(v:Value)(cs:List (ByteArray × Int)):Prop :=
 ((∃a cap,v=.slice a 0 cap/\(a=none->cap=0))/\cs=[])∨∃b off cap,v=.slice (some ⟨b,off,none⟩) cs.length cap/\b<n₀/\cs.length<=cap/\∀j,j<cs.length->W.cell? ⟨b,off+j*2,none⟩=some (.string (cs[j]?.getD (⟨#[]⟩,0)).1)/\W.cell? ⟨b,off+j*2+1,none⟩=some (.int .i64 (cs[j]?.getD (⟨#[]⟩,0)).2)
theorem dM.below{n₀:Nat}{A B:World}(h:Below n₀ A B){v:Value}{cs:List (ByteArray × Int)}:dM n₀ A v cs->dM n₀ B v cs
 | .inl e=>.inl e
 | .inr ⟨b,off,cap,e,hb,hl,hc⟩=>.inr ⟨b,off,cap,e,hb,hl,fun j hj=>⟨(h.cell (p:=⟨b,off+j*2,none⟩) hb).trans (hc j hj).1,(h.cell (p:=⟨b,off+j*2+1,none⟩) hb).trans (hc j hj).2⟩⟩
theorem dM.mono{n n':Nat}(h:n<=n'){A:World}{v:Value}{cs:List (ByteArray × Int)}:dM n A v cs->dM n' A v cs
 | .inl e=>.inl e
 | .inr ⟨b,off,cap,e,hb,hl,hc⟩=>.inr ⟨b,off,cap,e,by omega,hl,hc⟩
theorem dM.form{n₀:Nat}{A:World}{v:Value}{cs:List (ByteArray × Int)}(h:dM n₀ A v cs):∃a cap,v=.slice a cs.length cap:=by
 rcases h with⟨⟨_,_,rfl,_⟩,rfl⟩ | ⟨b,off,cap,rfl,_⟩
 ·exact⟨_,_,rfl⟩
 ·exact⟨_,_,rfl⟩
def idxFrom(p:Nat->Bool):Nat->Nat->Int
 | 0,_=>-1
 | f+1,k=>if p k=true then (k:Int) else idxFrom p f (k+1)
def lg(ss:List ByteArray)(s:ByteArray)(k:Nat):Bool:=(ss[k]?.getD ⟨#[]⟩).toList == s.toList
def namedAt(cs:List (ByteArray × Int))(s:ByteArray)(k:Nat):Bool:=(cs[k]?.getD (⟨#[]⟩,0)).1.toList == s.toList
def cB(ss:List ByteArray)(s:ByteArray):Int:=idxFrom (lg ss s) ss.length 0
def chanI(cs:List (ByteArray × Int))(s:ByteArray):Int:=idxFrom (namedAt cs s) cs.length 0
end
section
open Go.RowKit
end
section
open Go.RowKit
set_option maxRecDepth 100000 in
set_option maxHeartbeats 1600000 in
theorem index_q(v:Value)(ss:List ByteArray)(s:ByteArray)(n:Nat)(w:World)(hv:Strs n w v ss)(hx:ss.length<=9223372036854775807) :
 Calls Tryz.prog 175 #[v,.string s] w fun e w'=>e=.returned (.int .i64 (cB ss s))/\w'=w:=by
 obtain⟨a,cap,rfl⟩:=hv.form
 have HV:=zH hv
 clear hv
 go_enter Tryz.func175,Tryz.ntmps175
 go_wp2_with fail
 go_loop [8] (fun k=>∃j:Nat,j<=ss.length/\k=.int .i64 (j:Int)/\RowKit.Hid (cB ss s=idxFrom (lg ss s) (ss.length-j) j)) (fun k=>ss.length-(intOf k).toNat)
 case atStart=>exact⟨0,Nat.zero_le _,rfl,rfl⟩
 case round =>
  obtain⟨j,hj,rfl,HP⟩:=hrel
  by_cases hlt:j<ss.length
  ·have hs:∃b off,a=some ⟨b,off,none⟩/\w.cell? ⟨b,off+j,none⟩=some (.string (ss[j]?.getD ⟨#[]⟩)):=by
    rcases HV.out with⟨_,h⟩ | ⟨b,off,cap',he,_,_,hc⟩
    ·rw[h] at hlt;exact absurd hlt (by simp)
    ·injection he with h1 h2 h3
     exact⟨b,off,h1,hc j hlt⟩
   obtain⟨b,off,rfl,hc⟩:=hs
   have ht':lg ss s j=(s.toList == (ss[j]?.getD ⟨#[]⟩).toList):=by unfold lg;rw[Bool.eq_iff_iff,beq_iff_eq,beq_iff_eq];exact eq_comm
   generalize ss[j]?.getD ⟨#[]⟩=q at hc ht'
   cases ht:(s.toList == q.toList)
   ·have HN:=zH (show cB ss s=idxFrom (lg ss s) (ss.length-(j+1)) (j+1) by
     rw[HP.out,show ss.length-j=(ss.length-(j+1))+1 by omega];simp only[idxFrom];rw[if_neg (by rw[ht',ht];decide)])
    clear ht'
    go_wp2_with fail
    go_round
    case rel=>exact⟨j+1,by omega,by go_num,HN⟩
    case measure=>simp [intOf];omega
   ·have HN:=zH (show cB ss s=(j:Int) by
     rw[HP.out,show ss.length-j=(ss.length-(j+1))+1 by omega];simp only[idxFrom];rw[if_pos (by rw[ht',ht])])
    clear ht'
    go_wp2_with fail
    go_ret
    exact⟨by rw[HN.out];rfl,rfl⟩
  ·obtain rfl:j=ss.length:=by omega
   go_wp2_with fail
   go_ret
   exact⟨by rw[HP.out,Nat.sub_self];rfl,rfl⟩
end
section
open Go.RowKit
section
variable {P:Program} {w:World}
theorem wpList_append_any{ops:Array Oper}{rest:List Oper}{o:Oper}{a:Act}{Q:Exit->Act->World->Prop}(hgd:o.guard=none)(s x:Operand)(t:TypeId)
 (ho:o.op=.call { callee:=.builtin .append,args:=#[s,x],argTypes:=#[t,t] })
 (base:Nat) (e:TypeId) (i:TypeInfo) (z:Value) (size bytes:Nat) (ht:P.underlying t=some (.slice e)) (hi:P.info? e=some i) (hz:i.zero=some z)
 (hsize:i.size=size) (hby:i.bytes=bytes) (hzs:z.cells.size=size) (hsz:0<size)
 (v:Value) (n:Nat) (xs:List Value) (hs:a.eval s=v) (hown:w.ownsRow base e size v n xs)
 (xv:Value) (m:Nat) (news:List Value) (hx:a.eval x=xv) (hl:news.length=m*size)
 (hsrc:xv=.slice none 0 0/\m=0∨∃ad c,xv=.slice (some ad) m c/\∀j u,news[j]?=some u->w.cell? (ad.add j)=some u) (h1:∀u∈news,u.oneCell'=true)
 (h63:n+m<=maxLen) (hbytes:(n+m)*bytes<=140737488355328) (hbase:base<=w.heap.size)
 (h:∀v' w',w'.ownsRow base e size v' (n+m) (xs ++ news)->w.grownBy w' v.ownBlock->wpList P ops Q rest (a.put o.dst v') w') :
 wpList P ops Q (o :: rest) a w:=by
 rcases hsrc with⟨rfl,rfl⟩ | ⟨ad,c,rfl,hn⟩
 ·have hn:news=[]:=List.eq_nil_of_length_eq_zero (by simpa using hl)
  subst hn
  have hr:=run_append_owned_none (P:=P) (w:=w) base t o.type e i size ht hi v n xs hown
  refine wpList_plain hgd fun K hK=>?_
  unfold Oper.wp execOp
  simp only[ho,resolve,invoke,builtin,Sem.run_bind,Sem.run_pure,Result.andThen_ok,List.map_toArray,List.map_cons,List.map_nil,hs,hx,hr]
  exact hK _ _ (h v w (by simpa using hown) ⟨rfl,rfl,rfl,Nat.le_refl _,fun _ _ _=>rfl⟩)
 ·exact wpList_append_own w hgd s x t ho base e i z size bytes ht hi hz hsize hby hzs hsz v n xs hs hown ad m c news hx hl hn h1 h63 hbytes hbase (fun v' w' p1 p2 _=>h v' w' p1 p2)
end
theorem pC{W:World}{base:Nat}{e:TypeId}{v:Value}{l:List ByteArray}(h:W.ownsRow base e 1 v l.length (l.map Value.string)):Strs W.heap.size W v l:=by
 have hlt:=h.lt
 obtain⟨_,⟨rfl,h0⟩ | ⟨g,cap,cur,rfl,hb,hg,hn,hm,hs,hx⟩⟩:=h
 ·exact .inl ⟨⟨_,_,rfl,fun _=>rfl⟩,List.length_eq_zero_iff.1 h0⟩
 ·refine .inr ⟨g,0,cap,rfl,(hlt g rfl).2,hn,fun j hj=>?_⟩
  have hx':cur.toList[j]?=some (.string (l[j]?.getD ⟨#[]⟩)):=by
   have:(cur.toList.take (l.length*1))[j]?=(l.map Value.string)[j]?:=by rw[hx]
   rw[List.getElem?_take_of_lt (by omega),List.getElem?_map] at this
   rw[this,List.getElem?_eq_getElem hj];rfl
  simp only[World.cell?,hg,Nat.zero_add]
  simpa using hx'
end
section
open Go.RowKit
theorem Tryz.infoStr6:(Tryz.prog.info? 9).map (fun i=>(i.zero,i.size,i.bytes))=some (some (.string ⟨#[]⟩),1,16):=by kernel_rfl
theorem Tryz.infoChan6:(Tryz.prog.info? 196).map (fun i=>(i.zero,i.size,i.bytes))=some (some (.agg #[.string ⟨#[]⟩,.int .i64 0]),2,24):=by kernel_rfl
theorem pD{W:World}{g:Nat}{v0 v1 v2 v3 v4:Value}{t:TypeId}(hg:W.heap[g]?=some (.cells #[v0,v1,v2,v3,v4] t)) :
 W.cell? ⟨g,0,none⟩=some v0/\W.cell? ⟨g,1,none⟩=some v1/\W.cell? ⟨g,2,none⟩=some v2/\W.cell? ⟨g,3,none⟩=some v3/\W.cell? ⟨g,4,none⟩=some v4:=by
 refine⟨?_,?_,?_,?_,?_⟩ <;> (simp only[World.cell?,hg];rfl)
theorem aj{W:World}{g k:Nat}{cs:Array Value}{t:TypeId}(hg:W.heap[g]?=some (.cells cs t)):W.frozen? ⟨g,k,none⟩=false:=by
 simp [World.frozen?,hg]
end
section
open Go.RowKit
structure PSt where
 L:List ByteArray
 I:List (ByteArray × Int)
 O:List (ByteArray × Int)
 D:Int
 F:List (Int × Int)
theorem own_of_block{w w':World}{B e n size:Nat}{v:Value}{xs:List Value}(h:w.ownsRow B e size v n xs)(hk:∀k,v.ownBlock=some k->w'.heap[k]?=w.heap[k]?):w'.ownsRow B e size v n xs:=by
 refine⟨h.1,?_⟩
 rcases h.2 with hn | ⟨g,cap,cur,rfl,hb,hgg,rest⟩
 ·exact .inl hn
 ·exact .inr ⟨g,cap,cur,rfl,hb,(hk g rfl).trans hgg,rest⟩
theorem own_block{w:World}{B e n size:Nat}{v:Value}{xs:List Value}(h:w.ownsRow B e size v n xs){k:Nat}(hk:v.ownBlock=some k):B<=k/\k<w.heap.size/\∃cur,w.heap[k]?=some (.cells cur e (0,0)):=by
 rcases h.2 with⟨rfl,_⟩ | ⟨g,cap,cur,rfl,hb,hgg,_⟩
 ·simp [Value.ownBlock] at hk
 ·simp only[Value.ownBlock,Option.some.injEq] at hk
  subst hk
  exact⟨hb,(Array.getElem?_eq_some_iff.1 hgg).1,cur,hgg⟩
theorem own_types{w:World}{B e n size B' e' n' size':Nat}{v v':Value}{xs xs':List Value}(h:w.ownsRow B e size v n xs)(h':w.ownsRow B' e' size' v' n' xs')(hne:e≠e'){k:Nat}(hk:v.ownBlock=some k):v'.ownBlock≠some k:=by
 intro hk'
 obtain⟨_,_,c,hc⟩:=own_block h hk
 obtain⟨_,_,c',hc'⟩:=own_block h' hk'
 rw[hc] at hc'
 simp only[Option.some.injEq,Obj.cells.injEq] at hc'
 exact hne hc'.2.1
theorem aV{w:World}{B e n size r T:Nat}{v:Value}{xs:List Value}{cs:Array Value}(h:w.ownsRow B e size v n xs)(hr:w.heap[r]?=some (.cells cs T))(hne:e≠T):v.ownBlock≠some r:=by
 intro hk
 obtain⟨_,_,c,hc⟩:=own_block h hk
 rw[hr] at hc
 simp only[Option.some.injEq,Obj.cells.injEq] at hc
 exact hne hc.2.1.symm
theorem set_obj{w:World}{r c:Nat}{cs:Array Value}{T:TypeId}(v:Value)(h:w.heap[r]?=some (.cells cs T)):(w.setCell ⟨r,c,none⟩ v).heap[r]?=some (.cells (cs.setIfInBounds c v) T):=by
 simp only[World.setCell,Array.getElem?_modify,if_pos rfl,h,Option.map_some]
 rfl
end
section
open Go.RowKit
end
section
open Go.RowKit
def wordW(k:Nat):ByteArray :=
 match k with
 | 0=>⟨#[97,114,114,97,121]⟩
 | 1=>⟨#[102,110]⟩
 | 2=>⟨#[99,111,110,115,116]⟩
 | 3=>⟨#[112,104,105]⟩
 | 4=>⟨#[108,111,97,100]⟩
 | 5=>⟨#[119,114,97,112]⟩
 | 6=>⟨#[115,116,111,114,101]⟩
 | 7=>⟨#[99,97,108,108]⟩
 | 8=>⟨#[105,110,112,117,116]⟩
 | 9=>⟨#[111,117,116,112,117,116]⟩
 | 10=>⟨#[114,101,108,101,97,115,101]⟩
 | 11=>⟨#[106,117,109,112]⟩
 | 12=>⟨#[98,114,97,110,99,104]⟩
 | 13=>⟨#[114,101,116,117,114,110]⟩
 | 14=>⟨#[97,100,100]⟩
 | 15=>⟨#[115,117,98]⟩
 | 16=>⟨#[109,117,108]⟩
 | 17=>⟨#[100,105,118]⟩
 | 18=>⟨#[109,111,100]⟩
 | 19=>⟨#[97,110,100]⟩
 | 20=>⟨#[111,114]⟩
 | 21=>⟨#[120,111,114]⟩
 | 22=>⟨#[115,104,108]⟩
 | 23=>⟨#[115,104,114]⟩
 | 24=>⟨#[101,113]⟩
 | 25=>⟨#[108,101,115,115]⟩
 | _=>⟨#[]⟩
def dC(s:ByteArray):Nat->Nat->Bool
 | 0,_=>false
 | f+1,k=>if ((wordW k).toList == s.toList)=true then true else dC s f (k+1)
def wordB(s:ByteArray):Bool:=dC s 26 0
end
section
open Go.RowKit
open Go.Maps (Keyed int_keyed keyOf_int_mk)
def gB(v:Value):Option (DataW Unit × List MemPlace) :=
 match v with
 | .func (.func g) f c=>match f.toList,c.toList with
   | [],[]=>some (.lit (.int .i64 (g:Int)),[])
   | _,_=>none
 | .nilFunc=>some (.nil,[])
 | _=>none
theorem bm{v:Value}{g:Nat}{ps:List MemPlace}(h:gB v=some (.lit (.int .i64 (g:Int)),ps)):v=.func (.func g) #[] #[]:=by
 unfold gB at h
 split at h
 ·rename_i g' f c
  split at h
  ·rename_i hf hc
   simp only[Option.some.injEq,Prod.mk.injEq,DataW.lit.injEq,Lit.int.injEq] at h
   have e:g'=g:=by
    obtain⟨⟨_,e⟩,_⟩:=h
    exact Int.ofNat.inj e
   subst e
   obtain⟨f⟩:=f
   obtain⟨c⟩:=c
   simp only at hf hc
   subst hf
   subst hc
   rfl
  ·cases h
 ·cases h
 ·cases h
theorem ru{v:Value}{ps:List MemPlace}(h:gB v=some (.nil,ps)):v=.nilFunc:=by
 unfold gB at h
 split at h
 ·split at h <;> cases h
 ·rfl
 ·cases h
theorem jg{H:Type}{P:Program}(w:World){ops:Array Oper}{rest:List Oper}{o:Oper}{a:Act}{Q:Exit->Act->World->Prop}
 (hg:o.guard=none) (m x:Operand) (t:TypeId) (hop:o.op=Op.lookup t m x false)
 (k e:TypeId) (K:Keyed P k) (ht:P.underlying t=some (.map k e)) (R:Value->Option (DataW H × List MemPlace)) (z:Value) (hz:(zeroValue e).run P w=.ok z w) (zd:DataW H) (zp:List MemPlace) (hzd:R z=some (zd,zp)) (b n:Nat) (D:DataW H)
 (hm:a.eval m=.map (some b)) (hown:w.ownsMap P k R b n D) (key:Value) (kl:Lit) (hx:a.eval x=key) (hkey:keyOf P k key=some kl)
 (hK:∀v ps,R v=some (D.atKey kl zd,ps)->wpList P ops Q rest (a.put o.dst v) w) :
 wpList P ops Q (o :: rest) a w:=by
 refine wpList_plain hg fun K' hK'=>?_
 obtain⟨v,ps,hrun,hv⟩:=hown.lookup K ht hz hzd hkey
 unfold Oper.wp
 simp [execOp,hop,hm,hx,hrun,Result.andThen]
 exact hK' _ _ (hK v ps hv)
theorem jh{H:Type}{P:Program}(w:World){ops:Array Oper}{rest:List Oper}{o:Oper}{a:Act}{Q:Exit->Act->World->Prop}
 (hg:o.guard=none) (m x v:Operand) (t:TypeId) (hop:o.op=Op.insert t m x v)
 (k e:TypeId) (K:Keyed P k) (ht:P.underlying t=some (.map k e)) (R:Value->Option (DataW H × List MemPlace)) (b n:Nat) (D:DataW H)
 (hm:a.eval m=.map (some b)) (hown:w.ownsMap P k R b n D) (hn:n<maxLen) (key val:Value) (kl:Lit) (hx:a.eval x=key) (hv:a.eval v=val) (hkey:keyOf P k key=some kl)
 (d:DataW H) (ps:List MemPlace) (hval:R val=some (d,ps))
 (hK:∀w',w'.ownsMap P k R b (n+1) (D.put kl d)->w.grownBy w' (some b)->wpList P ops Q rest (a.put o.dst undef) w') :
 wpList P ops Q (o :: rest) a w:=by
 refine wpList_plain hg fun K' hK'=>?_
 obtain⟨w',hrun,r1,r2⟩:=hown.update K ht hn hkey hval
 unfold Oper.wp
 simp [execOp,hop,hm,hx,hv,hrun,Result.andThen]
 exact hK' _ _ (hK w' r1 r2)
def fnD(g:Nat):DataW Unit:=.lit (.int .i64 (g:Int))
end
section
open Go.RowKit
theorem Tryz.infoQInt:(Tryz.prog.info? 2).map (fun i=>(i.zero,i.size,i.bytes))=some (some (.int .i64 0),1,8):=by kernel_rfl
theorem Tryz.infoQRow:(Tryz.prog.info? 49).map (fun i=>(i.zero,i.size,i.bytes))=some (some (.slice none 0 0),1,24):=by kernel_rfl
theorem Tryz.infoQEvent:(Tryz.prog.info? 231).map (fun i=>(i.zero,i.size,i.bytes))=some (some (.agg #[.int .u8 0,.int .i64 0,.int .i64 0,.int .i64 0,.int .i64 0]),5,40):=by kernel_rfl
namespace QQ
theorem ownOf{w:World}{B e n size:Nat}{v:Value}{xs:List Value}(h:w.ownsRow B e size v n xs):∃a cap,v=.slice a n cap:=by
 rcases h.2 with⟨rfl,rfl⟩ | ⟨g,cap,cur,rfl,_⟩
 ·exact⟨_,_,rfl⟩
 ·exact⟨_,_,rfl⟩
theorem own00{W:World}{B e size n:Nat}{v:Value}{xs:List Value}(h:W.ownsRow B e size v (0+n) ([] ++ xs)):W.ownsRow B e size v n xs:=by
 rw[Nat.zero_add,List.nil_append] at h;exact h
theorem oneInts(xs:List Int):∀u∈ao xs,u.oneCell'=true:=by
 intro u hu
 obtain⟨q,_,rfl⟩:=List.mem_map.1 hu
 rfl
theorem step{A w w':World}(h:Below A.heap.size A w)(g:Below w.heap.size w w'):Below A.heap.size A w':=h.trans (g.mono h.size)
end QQ
def IRow(B:Nat)(W:World)(v:Value)(xs:List Int):Prop :=
 (∃a cap,v=.slice a 0 cap/\(a=none->cap=0)/\xs=[]) ∨
 ∃b off cap c fr,v=.slice (some ⟨b,off,none⟩) xs.length cap/\B<=b/\xs.length<=cap/\W.heap[b]?=some (.cells c 2 fr)/\∀j,j<xs.length->c[off+j]?=some (.int .i64 (xs[j]?.getD 0))
theorem IRow.nil(B:Nat)(W:World):IRow B W (.slice none 0 0) []:=.inl ⟨_,_,rfl,fun _=>rfl,rfl⟩
theorem IRow.form{B:Nat}{W:World}{v:Value}{xs:List Int}(h:IRow B W v xs):∃a cap,v=.slice a xs.length cap:=by
 rcases h with⟨_,_,rfl,_,rfl⟩ | ⟨b,off,cap,c,fr,rfl,_⟩
 ·exact⟨_,_,rfl⟩
 ·exact⟨_,_,rfl⟩
theorem IRow.kept{B:Nat}{W W':World}{v:Value}{xs:List Int}(h:IRow B W v xs)(hk:∀k c fr,B<=k->W.heap[k]?=some (.cells c 2 fr)->W'.heap[k]?=W.heap[k]?):IRow B W' v xs:=by
 rcases h with h | ⟨b,off,cap,c,fr,rfl,hb,hl,hg,hc⟩
 ·exact .inl h
 ·exact .inr ⟨b,off,cap,c,fr,rfl,hb,hl,(hk b c fr hb hg).trans hg,hc⟩
theorem heap_some_lt{W:World}{k:Nat}{o:Obj}(h:W.heap[k]?=some o):k<W.heap.size:=(Array.getElem?_eq_some_iff.1 h).1
theorem IRow.on{B:Nat}{W W':World}{v:Value}{xs:List Int}(h:IRow B W v xs)(hb:Below W.heap.size W W'):IRow B W' v xs :=
 h.kept fun k c fr _ hg=>hb.block k (heap_some_lt hg)
theorem IRow.grown{B e n size:Nat}{W W':World}{v u:Value}{xs:List Int}{us:List Value}{B':Nat}(h:IRow B W v xs)(ho:W.ownsRow B' e size u n us)(hne:e≠2)(hg:W.grownBy W' u.ownBlock):IRow B W' v xs :=
 h.kept fun k c fr _ hk=>hg.block k (heap_some_lt hk) (by
  intro e1
  rcases ho.2 with⟨rfl,_⟩ | ⟨g,cap,cur,rfl,_,hgg,_⟩
  ·cases e1
  ·cases e1
   rw[hk] at hgg
   cases hgg
   exact hne rfl)
theorem IRow.lower{B B':Nat}{W:World}{v:Value}{xs:List Int}(h:IRow B W v xs)(hB:B'<=B):IRow B' W v xs:=by
 rcases h with h | ⟨b,off,cap,c,fr,rfl,hb,rest⟩
 ·exact .inl h
 ·exact .inr ⟨b,off,cap,c,fr,rfl,Nat.le_trans hB hb,rest⟩
theorem IRow.of_own{B n:Nat}{W:World}{v:Value}{xs:List Int}(h:W.ownsRow B 2 1 v n (ao xs)):IRow B W v xs:=by
 obtain⟨hl,⟨rfl,h0⟩ | ⟨g,cap,cur,rfl,hb,hg,hn,hm,hs,hx⟩⟩:=h
 ·rw[aC] at hl
  have:xs=[]:=List.length_eq_zero_iff.1 (by omega)
  subst this
  exact .nil _ _
 ·rw[aC,Nat.mul_one] at hl
  subst hl
  refine .inr ⟨g,0,cap,cur,_,rfl,hb,hn,hg,fun j hj=>?_⟩
  have:(cur.toList.take (xs.length*1))[j]?=(ao xs)[j]?:=by rw[hx]
  rw[List.getElem?_take_of_lt (by omega),fk hj] at this
  rw[Nat.zero_add]
  simpa using this
namespace QQ
theorem ownTypes{w:World}{B e n size B' e' n' size':Nat}{v v':Value}{xs xs':List Value}(h:w.ownsRow B e size v n xs)(h':w.ownsRow B' e' size' v' n' xs')(hne:e≠e'):v.ownBlock=none∨v.ownBlock≠v'.ownBlock:=by
 cases hk:v.ownBlock with
 | none=>exact .inl rfl
 | some k=>exact .inr fun e=>own_types h h' hne hk e.symm
def Rows(B:Nat)(w:World)(vs:List Value)(to:List (List Int)):Prop :=
 vs.length=to.length/\∀j,j<to.length->∃r,vs[j]?=some r/\w.ownsRow B 2 1 r (to[j]?.getD []).length (ao (to[j]?.getD []))
theorem Rows.nil(B:Nat)(w:World):Rows B w [] []:=⟨rfl,fun j hj=>absurd hj (Nat.not_lt_zero _)⟩
theorem Rows.alloc{B:Nat}{w:World}{vs:List Value}{to:List (List Int)}(h:Rows B w vs to)(o:Obj):Rows B (w.alloc o) vs to :=
 ⟨h.1,fun j hj=>by obtain⟨r,e,g⟩:=h.2 j hj;exact⟨r,e,g.alloc o⟩⟩
theorem Rows.kept{B e n size B':Nat}{w w':World}{vs:List Value}{to:List (List Int)}{v:Value}{xs:List Value}(h:Rows B w vs to)(ho:w.ownsRow B' e size v n xs)(hne:2≠e)(hg:w.grownBy w' v.ownBlock):Rows B w' vs to :=
 ⟨h.1,fun j hj=>by obtain⟨r,e,g⟩:=h.2 j hj;exact⟨r,e,g.kept hg (ownTypes g ho hne)⟩⟩
theorem Rows.grown{B:Nat}{w w':World}{vs:List Value}{to:List (List Int)}{b:Option Nat}(h:Rows B w vs to)(hg:w.grownBy w' b)(hb:∀k,b=some k->w.heap.size<=k):Rows B w' vs to :=
 ⟨h.1,fun j hj=>by
  obtain⟨r,e,g⟩:=h.2 j hj
  refine⟨r,e,g.kept hg ?_⟩
  cases hk:r.ownBlock with
  | none=>exact .inl rfl
  | some k =>
    refine .inr fun e=>?_
    have:=hb k e.symm
    have:=(g.lt k hk).2
    omega⟩
theorem Rows.snoc{B:Nat}{w:World}{vs:List Value}{to:List (List Int)}{r:Value}{row:List Int}(h:Rows B w vs to)(g:w.ownsRow B 2 1 r row.length (ao row)):Rows B w (vs ++ [r]) (to ++ [row]):=by
 refine⟨by simp [h.1],fun j hj=>?_⟩
 by_cases e:j<to.length
 ·obtain⟨r',e1,g'⟩:=h.2 j e
  exact⟨r',by rw[List.getElem?_append_left (by rw[h.1];exact e)];exact e1,by rw[List.getElem?_append_left e];exact g'⟩
 ·have e2:j=to.length:=by simp at hj;omega
  subst e2
  exact⟨r,by rw[<-h.1];simp,by simpa using g⟩
theorem Rows.graph{B e:Nat}{w:World}{v:Value}{vs:List Value}{to:List (List Int)}(h:Rows B w vs to)(ho:w.ownsRow B e 1 v to.length vs):az w.heap.size w v to :=
 ⟨vs,aM ho,h.1,fun j hj=>by obtain⟨r,e,g⟩:=h.2 j hj;exact⟨r,e,aM g⟩⟩
end QQ
structure TabQ (B:Nat) (W:World) (rb n:Nat) (vs:Nat->Value) (rows:Nat->List Int):Prop where
 base:B<=rb
 tab:W.rowIs rb 49 n vs
 rows:∀j,j<n->IRow B W (vs j) (rows j)
theorem TabQ.lt{B:Nat}{W:World}{rb n:Nat}{vs:Nat->Value}{rows:Nat->List Int}(h:TabQ B W rb n vs rows):rb<W.heap.size:=World.rowIs.lt h.tab
theorem TabQ.on{B:Nat}{W W':World}{rb n:Nat}{vs:Nat->Value}{rows:Nat->List Int}(h:TabQ B W rb n vs rows)(hb:Below W.heap.size W W'):TabQ B W' rb n vs rows :=
 ⟨h.base,World.rowIs.of_block h.tab (hb.block _ h.lt),fun j hj=>(h.rows j hj).on hb⟩
theorem TabQ.congr{B:Nat}{W:World}{rb n:Nat}{vs:Nat->Value}{rows rows':Nat->List Int}(h:TabQ B W rb n vs rows)(e:∀j,j<n->rows j=rows' j):TabQ B W rb n vs rows' :=
 ⟨h.base,h.tab,fun j hj=>by rw[<-e j hj];exact h.rows j hj⟩
theorem TabQ.apart{B:Nat}{W:World}{rb n:Nat}{vs:Nat->Value}{rows:Nat->List Int}(h:TabQ B W rb n vs rows){k:Nat}{c:Array Value}{fr:Nat × Nat}(hk:W.heap[k]?=some (.cells c 2 fr)):k≠rb:=by
 intro e
 subst e
 obtain⟨c',h1,_⟩:=h.tab
 rw[hk] at h1
 cases h1
theorem IRow.set{B:Nat}{W:World}{rb n:Nat}{vs:Nat->Value}{rows:Nat->List Int}{v:Value}{xs:List Int}(g:IRow B W v xs)(h:TabQ B W rb n vs rows)(i:Nat)(u:Value):IRow B (W.setCell ⟨rb,i,none⟩ u) v xs :=
 g.kept fun k c fr _ hk=>Below.heap_setCell _ _ _ _ (h.apart hk)
theorem TabQ.set{B:Nat}{W:World}{rb n:Nat}{vs:Nat->Value}{rows:Nat->List Int}(h:TabQ B W rb n vs rows)(i:Nat){u:Value}{xs:List Int}(g:IRow B W u xs) :
 TabQ B (W.setCell ⟨rb,i,none⟩ u) rb n (fun j=>if j=i then u else vs j) (fun j=>if j=i then xs else rows j):=by
 refine⟨h.base,World.rowIs.set h.tab i u,fun j hj=>?_⟩
 by_cases e:j=i
 ·simp only[if_pos e];exact g.set h i u
 ·simp only[if_neg e];exact(h.rows j hj).set h i u
theorem TabQ.grown{B e m size B':Nat}{W W':World}{rb n:Nat}{vs:Nat->Value}{rows:Nat->List Int}{u:Value}{us:List Value}(h:TabQ B W rb n vs rows)(ho:W.ownsRow B' e size u m us)(hne:e≠2)(hne2:e≠49)(hg:W.grownBy W' u.ownBlock):TabQ B W' rb n vs rows:=by
 refine⟨h.base,World.rowIs.of_block h.tab (hg.block _ h.lt (fun e1=>?_)),fun j hj=>(h.rows j hj).grown ho hne hg⟩
 obtain⟨c',h1,_⟩:=h.tab
 rcases ho.2 with⟨rfl,_⟩ | ⟨g,cap,cur,rfl,_,hgg,_⟩
 ·cases e1
 ·cases e1
  rw[h1] at hgg
  cases hgg
  exact hne2 rfl
theorem TabQ.made{B:Nat}{W:World}(hB:B<=W.heap.size)(n:Nat):TabQ B (W.alloc (.cells (madeCells #[.slice none 0 0] n) 49)) W.heap.size n (fun _=>.slice none 0 0) (fun _=>[]) :=
 ⟨hB,World.rowIs_made W (.slice none 0 0) n 49,fun j _=>.nil _ _⟩
end
section
open Go.RowKit
theorem ret_vb{v u:Value}{x y:Bool}(h:v=u)(g:x=y):Ending.returned (.tuple #[v,.bool x])=Ending.returned (.tuple #[u,.bool y]):=by rw[h,g]
def inQ(n:Nat)(i:Int):Bool:=decide (0<=i/\i<n)
def rowV(n:Nat)(vs:Nat->Value)(i:Int):Value:=if 0<=i/\i<n then vs i.toNat else .slice none 0 0
theorem nV{rb n c:Nat}{vs:Nat->Value}(i:Int)(w:World)(h:w.rowIs rb 49 n vs)(hn:n<=4294967296) :
 Calls Tryz.prog 178 #[.slice (some ⟨rb,0,none⟩) n c,.int .i64 i] w fun e w'=>e=.returned (.tuple #[rowV n vs i,.bool (inQ n i)])/\w=w':=by
 by_cases h0:i<0
 ·have t1:decide (i<0)=true:=decide_eq_true h0
  have HE:=zH (show rowV n vs i=.slice none 0 0/\inQ n i=false from⟨if_neg (by omega),decide_eq_false (by omega)⟩)
  clear h h0
  go_enter Tryz.func178,Tryz.ntmps178
  go_wp2_with fail
  go_ret2
  exact⟨ret_vb HE.out.1.symm HE.out.2.symm,rfl⟩
 ·have t1:decide (i<0)=false:=decide_eq_false h0
  by_cases h1:(n:Int)<=i
  ·have t2:decide ((n:Int)<=i)=true:=decide_eq_true h1
   have HE:=zH (show rowV n vs i=.slice none 0 0/\inQ n i=false from⟨if_neg (by omega),decide_eq_false (by omega)⟩)
   clear h h0 h1
   go_enter Tryz.func178,Tryz.ntmps178
   go_wp2_with fail
   go_ret2
   exact⟨ret_vb HE.out.1.symm HE.out.2.symm,rfl⟩
  ·have t2:decide ((n:Int)<=i)=false:=decide_eq_false h1
   obtain⟨q,rfl⟩:∃q:Nat,i=q:=⟨i.toNat,by omega⟩
   have HE:=zH (show rowV n vs (q:Int)=vs q/\inQ n (q:Int)=true from⟨by unfold rowV;rw[if_pos (by omega)];rfl,decide_eq_true (by omega)⟩)
   have hc:=World.rowIs.cell h (show q<n by omega)
   have i1:(0:Int)<=q/\(q:Int)<n:=by omega
   clear h h0 h1
   go_enter Tryz.func178,Tryz.ntmps178
   go_wp2_with fail
   go_ret2
   exact⟨ret_vb HE.out.1.symm HE.out.2.symm,rfl⟩
theorem nW(a0 a3:Option Addr)(n0 c0 n3 c3:Nat)(v1 v2 v4:Value)(w:World) :
 Calls Tryz.prog 53 #[.agg #[.slice a0 n0 c0,v1,v2,.slice a3 n3 c3,v4]] w fun e w'=>e=.returned (.agg #[.int .i64 n3,.int .i64 n0])/\Below w.heap.size w w':=by
 go_enter Tryz.func53,Tryz.ntmps53
 go_wp2_with fail
 refine bodyPost_ret (v:=.agg #[.int .i64 n3,.int .i64 n0]) (by simp [results,Tryz.results53,go_sem]) rfl ?_
 exact⟨rfl,((Below.refl _ _).alloc (Nat.le_refl _) _).alloc (by simp) _⟩
def gC(o l k r f a:Int):Bool:=decide (0<=r) && decide (r<(if k=1 then o else if k=2 then l else 0)) && decide (0<=f) && decide (0<=a)
set_option maxHeartbeats 1600000 in
theorem mG(o l k r v f a:Int)(w:World) :
 Calls Tryz.prog 179 #[.agg #[.int .i64 o,.int .i64 l],.agg #[.int .u8 k,.int .i64 r,.int .i64 v,.int .i64 f,.int .i64 a]] w fun e w'=>e=.returned (.bool (gC o l k r f a))/\Below w.heap.size w w':=by
 have HB:=zH (show Below w.heap.size w ((w.alloc (.cells #[.int .i64 o,.int .i64 l] 110)).alloc (.cells #[.int .u8 k,.int .i64 r,.int .i64 v,.int .i64 f,.int .i64 a] 231)) from((Below.refl _ _).alloc (Nat.le_refl _) _).alloc (by simp) _)
 obtain⟨m,hm⟩:∃m,m=(if k=1 then o else if k=2 then l else 0):=⟨_,rfl⟩
 have hk:(k == 1)=true/\m=o∨(k == 1)=false/\(k == 2)=true/\m=l∨(k == 1)=false/\(k == 2)=false/\m=0:=by
  by_cases e1:k=1
  ·exact .inl ⟨beq_iff_eq.2 e1,by rw[hm,if_pos e1]⟩
  ·by_cases e2:k=2
   ·exact .inr (.inl ⟨beq_eq_false_iff_ne.2 e1,beq_iff_eq.2 e2,by rw[hm,if_neg e1,if_pos e2]⟩)
   ·exact .inr (.inr ⟨beq_eq_false_iff_ne.2 e1,beq_eq_false_iff_ne.2 e2,by rw[hm,if_neg e1,if_neg e2]⟩)
 have hv:decide (0<=r)=false/\gC o l k r f a=false∨decide (0<=r)=true/\decide (r<m)=false/\gC o l k r f a=false∨decide (0<=r)=true/\decide (r<m)=true/\decide (0<=f)=false/\gC o l k r f a=false∨decide (0<=r)=true/\decide (r<m)=true/\decide (0<=f)=true/\gC o l k r f a=decide (0<=a):=by
  unfold gC
  rw[<-hm]
  cases decide (0<=r) <;> cases decide (r<m) <;> cases decide (0<=f) <;> simp
 clear hm
 rcases hk with⟨k1,rfl⟩ | ⟨k1,k2,rfl⟩ | ⟨k1,k2,rfl⟩ <;> rcases hv with⟨t1,hv⟩ | ⟨t1,t2,hv⟩ | ⟨t1,t2,t3,hv⟩ | ⟨t1,t2,t3,hv⟩
 all_goals
  have HV:=zH hv
  clear hv
  go_enter Tryz.func179,Tryz.ntmps179
  go_wp2_with fail
  go_ret
  exact⟨af HV.out.symm,HB.out⟩
def BoxB(W:World)(kb rb n o l:Nat)(ve:Value):Prop:=W.heap[kb]?=some (.cells #[.slice (some ⟨rb,0,none⟩) n n,.int .i64 o,.int .i64 l,ve] 113)
theorem BoxB.cells{W:World}{kb rb n o l:Nat}{ve:Value}(h:BoxB W kb rb n o l ve):W.cell? ⟨kb,0,none⟩=some (.slice (some ⟨rb,0,none⟩) n n)/\W.cell? ⟨kb,1,none⟩=some (.int .i64 o)/\W.cell? ⟨kb,2,none⟩=some (.int .i64 l)/\W.cell? ⟨kb,3,none⟩=some ve:=by
 unfold BoxB at h
 simp [World.cell?,h]
theorem BoxB.lt{W:World}{kb rb n o l:Nat}{ve:Value}(h:BoxB W kb rb n o l ve):kb<W.heap.size:=heap_some_lt h
end
section
open Go.RowKit
def cO(to:List (List Int))(j:Nat):List Int:=to[j]?.getD []
def cK(n:Nat)(to:List (List Int)):Bool:=decide (to.length<=n) && to.all (fun l=>decide (l.length<=4096))
def iH(to:List (List Int))(i j:Nat):List Int:=if j<i then cO to j else []
theorem fill_no{n:Nat}{to:List (List Int)}{i:Nat}(hi:i<to.length)(h:4096<(cO to i).length):cK n to=false:=by
 cases e:cK n to with
 | false=>rfl
 | true =>
   unfold cK at e
   rw[Bool.and_eq_true,List.all_eq_true] at e
   have h2:=of_decide_eq_true (e.2 _ (List.getElem_mem hi))
   unfold cO at h
   rw[List.getElem?_eq_getElem hi,Option.getD_some] at h
   omega
theorem fill_yes{n:Nat}{to:List (List Int)}(hn:to.length<=n)(h:∀j,j<to.length->(cO to j).length<=4096):cK n to=true:=by
 unfold cK
 rw[Bool.and_eq_true,List.all_eq_true]
 refine⟨decide_eq_true hn,fun x hx=>decide_eq_true ?_⟩
 obtain⟨j,hj,rfl⟩:=List.getElem_of_mem hx
 have:=h j hj
 unfold cO at this
 rwa [List.getElem?_eq_getElem hj,Option.getD_some] at this
theorem part_set(to:List (List Int))(i j:Nat):(if j=i then cO to i else iH to i j)=iH to (i+1) j:=by
 unfold iH
 by_cases e:j=i
 ·subst e;rw[if_pos rfl,if_pos (by omega)]
 ·rw[if_neg e]
  by_cases e2:j<i
  ·rw[if_pos e2,if_pos (by omega)]
  ·rw[if_neg e2,if_neg (by omega)]
theorem part_all(to:List (List Int))(j:Nat):iH to to.length j=cO to j:=by
 unfold iH cO
 split
 ·rfl
 ·rw[List.getElem?_eq_none (by omega)];rfl
def FillE(n:Nat)(to:List (List Int))(e:Ending)(w w':World):Prop :=
 Below w.heap.size w w'/\((cK n to=true/\∃rb vs,e=.returned (.tuple #[.slice (some ⟨rb,0,none⟩) n n,.bool true])/\TabQ w.heap.size w' rb n vs (cO to))∨(cK n to=false/\e=.returned (.tuple #[.slice none 0 0,.bool false])))
theorem fill_step{B:Nat}{W wr w1:World}{rb n m i:Nat}{vs:Nat->Value}{rows:Nat->List Int}{v:Value}{r:List Int}(hT:TabQ B wr rb n vs rows)(hB:Below B W wr)(hs:B<=wr.heap.size)(hi:i<n)(ho:w1.ownsRow B 2 1 v (0+m) ([] ++ ao r))(hg:wr.grownBy w1 (Value.slice none 0 0).ownBlock) :
 w1.cell? ⟨rb,i,none⟩=some (vs i)/\w1.frozen? ⟨rb,i,none⟩=false/\TabQ B (w1.setCell ⟨rb,i,none⟩ v) rb n (fun j=>if j=i then v else vs j) (fun j=>if j=i then r else rows j)/\Below B W (w1.setCell ⟨rb,i,none⟩ v):=by
 have hb:Below wr.heap.size wr w1:=⟨hg.os,hg.tape,hg.output,hg.size,fun k hk=>hg.block k hk (fun e=>by cases e)⟩
 have h1:=hT.on hb
 exact⟨World.rowIs.cell h1.tab hi,World.rowIs.frozen h1.tab i,h1.set i (IRow.of_own (QQ.own00 ho)),(hB.trans (hb.mono hs)).setCell hT.base _⟩
set_option maxRecDepth 100000 in
set_option maxHeartbeats 3200000 in
theorem pE(v0 v1 v3 v4:Value)(a2:Option Addr)(n c2:Nat)(a:Value)(to:List (List Int))(w:World)(hn:n<=4294967296)(ha:az w.heap.size w a to)(hx:cd to) :
 Calls Tryz.prog 52 #[.agg #[v0,v1,.slice a2 n c2,v3,v4],a] w fun e w'=>FillE n to e w w':=by
 obtain⟨aa,ca,rfl⟩:=ha.form
 obtain⟨i0,hi,hz0,hz1,hz2⟩:=info_parts Tryz.infoQInt
 have HA:=zH ha
 have HX:=zH hx
 have hx0:=hx.1
 have HB0:=zH ((Below.refl w.heap.size w).alloc (Nat.le_refl _) (.cells #[v0,v1,.slice a2 n c2,v3,v4] 26))
 clear ha hx
 by_cases h0:n<to.length
 ·have t1:decide (n<to.length)=true:=decide_eq_true h0
  have HF:=zH (show cK n to=false by unfold cK;rw[decide_eq_false (by omega)];rfl)
  clear h0
  go_enter Tryz.func52,Tryz.ntmps52
  go_wp2_with fail
  go_ret2
  exact⟨HB0.out,.inr ⟨HF.out,rfl⟩⟩
 ·have t1:decide (n<to.length)=false:=decide_eq_false h0
  have h0':to.length<=n:=by omega
  have hmk:=run_make_row' (P:=Tryz.prog) 106 49 (.slice none 0 0) 24 (by kernel_rfl) Tryz.infoQRow rfl .i64 .i64 n (by omega) (by omega)
  have H1:=zH (show TabQ w.heap.size ((w.alloc (.cells #[v0,v1,.slice a2 n c2,v3,v4] 26)).alloc (.cells (madeCells #[.slice none 0 0] n) 49)) (w.heap.size+1) n (fun _=>.slice none 0 0) (fun _=>[]) by
   have h:=TabQ.made (B:=w.heap.size) (W:=w.alloc (.cells #[v0,v1,.slice a2 n c2,v3,v4] 26)) (by simp) n
   have e:(w.alloc (.cells #[v0,v1,.slice a2 n c2,v3,v4] 26)).heap.size=w.heap.size+1:=by simp
   rw[e] at h
   exact h)
  have HB1:=zH (HB0.out.alloc HB0.out.size (.cells (madeCells #[.slice none 0 0] n) 49))
  clear h0
  go_enter Tryz.func52,Tryz.ntmps52
  go_wp2_with fail
  clear hmk
  go_loopw [21] (fun k wr=>∃(i:Nat) (vs:Nat->Value),i<=to.length/\k=.int .i64 (i:Int)/\TabQ w.heap.size wr (w.heap.size+1) n vs (iH to i)/\Below w.heap.size w wr/\RowKit.Hid (∀j,j<i->(cO to j).length<=4096)) (fun k _=>to.length-(intOf k).toNat)
  case atStart=>exact⟨0,_,by omega,rfl,H1.out.congr (fun j _=>by unfold iH;rw[if_neg (Nat.not_lt_zero _)]),HB1.out,zH (fun j hj=>absurd hj (Nat.not_lt_zero _))⟩
  case round =>
   obtain⟨i,vs,hi',rfl,hT,hB,HS⟩:=hrel
   have HT:=zH hT
   have HB:=zH hB
   clear hT hB H1 HB1
   by_cases hlt:i<to.length
   ·obtain⟨xb,xo,xc,e1⟩:=HA.out.addr (by omega)
    cases e1
    obtain⟨ra,rac,hx1,hrx⟩:=(HA.out.below HB.out).at hlt
    have i1:(0:Int)<=i/\(i:Int)<to.length:=by omega
    have i2:(0:Int)<=i/\(i:Int)<n:=by omega
    have HNO:=zH (fun h=>fill_no (n:=n) hlt h)
    have HP:=zH (part_set to i)
    have HSN:=zH (fun(h:(cO to i).length<=4096) (j:Nat) (hj:j<i+1)=>(Nat.lt_succ_iff_lt_or_eq.1 hj).elim (HS.out j) (fun e=>by rw[e];exact h))
    obtain⟨r,er⟩:∃r,r=cO to i:=⟨_,rfl⟩
    change wr.cell? _=some (.slice ra (cO to i).length rac) at hx1
    change Row w.heap.size wr (.slice ra (cO to i).length rac) (cO to i) at hrx
    rw[<-er] at hx1 hrx HNO HP HSN
    have HRX:=zH (bM.src (show bM w.heap.size wr (.slice ra r.length rac) (ao r) from hrx))
    clear er hrx
    by_cases hr:4096<r.length
    ·have t2:decide (4096<r.length)=true:=decide_eq_true hr
     have t3:decide ((4096:Int)<(r.length:Int))=true:=decide_eq_true (by omega)
     have HN:=zH (HNO.out hr)
     clear hr
     go_wp2_with fail
     go_ret2
     exact⟨HB.out,.inr ⟨HN.out,rfl⟩⟩
    ·have t2:decide (4096<r.length)=false:=decide_eq_false hr
     have t3:decide ((4096:Int)<(r.length:Int))=false:=decide_eq_false (by omega)
     have hr':r.length<=4096:=by omega
     have HSS:=zH (HSN.out hr')
     clear hr
     go_wp2_with (first
      | (at_builtin
         go_loud (
         refine wpList_append_any rfl _ _ 49 rfl w.heap.size 2 i0 (.int .i64 0) 1 8 Tryz.underlying49 hi hz0 hz1 hz2 rfl (by decide) (.slice none 0 0) 0 [] rfl (World.ownsRow_nil _ _ _ _) (.slice ra r.length rac) r.length (ao r) rfl (by rw[aC,Nat.mul_one]) (by have h:=HRX.out;rw[aC] at h;exact h) (QQ.oneInts r) (by unfold maxLen;omega) (by omega) (by have:=HB.out.size;omega) ?_
         intro v1 w1 ho hg
         obtain⟨va,vc,rfl⟩:=QQ.ownOf (QQ.own00 ho)
         have HD:=zH (fill_step (i:=i) HT.out HB.out HB.out.size (by omega) ho hg)
         have hcw:=HD.out.1
         have hfw:=HD.out.2.1
         clear ho hg)))
     go_roundw
     case rel=>exact⟨i+1,_,by omega,by go_num,HD.out.2.2.1.congr (fun j _=>HP.out j),HD.out.2.2.2,HSS⟩
     case measure=>simp [intOf];omega
   ·have HF:=zH (show cK n to=true from fill_yes h0' (fun j hj=>HS.out j (by omega)))
    have HE:=zH (show TabQ w.heap.size wr (w.heap.size+1) n vs (cO to) from HT.out.congr (fun j _=>by rw[show i=to.length by omega];exact part_all to j))
    go_wp2_with fail
    go_ret2
    exact⟨HB.out,.inl ⟨HF.out,_,_,rfl,HE.out⟩⟩
end
section
open Go.RowKit
theorem IRow.at{B:Nat}{W:World}{v:Value}{xs:List Int}(h:IRow B W v xs)(h0:0<xs.length) :
 ∃b off cap,v=.slice (some ⟨b,off,none⟩) xs.length cap/\xs.length<=cap/\(∃c fr,W.heap[b]?=some (.cells c 2 fr))/\W.cell? ⟨b,off,none⟩=some (.int .i64 (xs[0]?.getD 0)) /\
  IRow B W (.slice (if cap=1 then some ⟨b,off,none⟩ else some ⟨b,off+1,none⟩) (xs.length-1) (cap-1)) xs.tail:=by
 rcases h with⟨_,_,rfl,_,rfl⟩ | ⟨b,off,cap,c,fr,rfl,hb,hl,hg,hc⟩
 ·simp at h0
 ·refine⟨b,off,cap,rfl,hl,⟨c,fr,hg⟩,?_,?_⟩
  ·have:=hc 0 h0
   simp [World.cell?,hg]
   simpa using this
  ·by_cases h1:cap=1
   ·have h2:xs.length=1:=by omega
    rw[if_pos h1,h2]
    exact .inl ⟨_,_,rfl,(fun e=>by cases e),List.eq_nil_of_length_eq_zero (by rw[List.length_tail];omega)⟩
   rw[if_neg h1]
   refine .inr ⟨b,off+1,cap-1,c,fr,by rw[List.length_tail],hb,by rw[List.length_tail];omega,hg,fun j hj=>?_⟩
   rw[List.length_tail] at hj
   have:=hc (j+1) (by omega)
   rw[show off+1+j=off+(j+1) by omega,this,List.getElem?_tail]
theorem TabQ.drew{B:Nat}{W:World}{rb n:Nat}{vs:Nat->Value}{rows:Nat->List Int}(h:TabQ B W rb n vs rows):TabQ B W.drew rb n vs rows:=⟨h.base,h.tab,h.rows⟩
def tailAt(rows:Nat->List Int)(q j:Nat):List Int:=if j=q then (rows q).tail else rows j
def iu(B:Nat)(kb rb n o l:Nat)(ve:Value)(rows:Nat->List Int)(i:Int)(e:Ending)(w w':World):Prop :=
 if 0<=i/\i<n then
  if (rows i.toNat).length=0 then e=.returned (.tuple #[.int .i64 0,.int .i64 23])/\w'=w
  else e=.returned (.tuple #[.int .i64 ((rows i.toNat)[0]?.getD 0),.int .i64 0])/\w.grownBy w' (some rb)/\w'.heap.size=w.heap.size/\BoxB w' kb rb n o l ve/\∃vs,TabQ B w' rb n vs (tailAt rows i.toNat)
 else e=.returned (.tuple #[.int .i64 0,.int .i64 1])/\w'=w
set_option maxRecDepth 100000 in
set_option maxHeartbeats 1600000 in
theorem take_any{B kb rb n o l:Nat}{ve:Value}{vs:Nat->Value}{rows:Nat->List Int}(i:Int)(w:World)(hb:BoxB w kb rb n o l ve)(ht:TabQ B w rb n vs rows)(hn:n<=4294967296) :
 Calls Tryz.prog 129 #[.pointer (some ⟨kb,0,none⟩),.int .i64 i] w fun e w'=>iu B kb rb n o l ve rows i e w w':=by
 obtain⟨c0,_,_,_⟩:=hb.cells
 have HT:=zH ht
 have HBX:=zH hb
 clear hb ht
 by_cases hi:0<=i/\i<n
 ·obtain⟨q,rfl⟩:∃q:Nat,i=q:=⟨i.toNat,by omega⟩
  have hq:q<n:=by omega
  by_cases h0:(rows q).length=0
  ·obtain⟨a,cap,hv⟩:=(HT.out.rows q hq).form
   have HE:=zH (fun e w'=>show iu B kb rb n o l ve rows (q:Int) e w w'↔e=.returned (.tuple #[.int .i64 0,.int .i64 23])/\w'=w by unfold iu;rw[if_pos hi,if_pos (by simpa using h0)])
   have HV:=zH (show rowV n vs q=.slice a 0 cap/\inQ n q=true from⟨by unfold rowV;rw[if_pos hi,<-h0];exact hv,decide_eq_true hi⟩)
   clear hi hv h0
   go_enter Tryz.func129,Tryz.ntmps129
   go_wp2_with (refine(nV q _ HT.out.tab hn).mono ?_;rintro e w1 ⟨rfl,rfl⟩;rw[HV.out.1,HV.out.2])
   go_ret2
   exact(HE.out _ _).2 ⟨rfl,rfl⟩
  ·obtain⟨b,off,cap,hv,hcap,⟨cb,fr,hgb⟩,hcell,htl⟩:=(HT.out.rows q hq).at (by omega)
   have HNE:=zH (HT.out.apart hgb)
   have HKB:=zH (show kb≠rb from fun e=>by
    obtain⟨c',h1,_⟩:=HT.out.tab
    have h2:=HBX.out
    unfold BoxB at h2
    rw[e,h1] at h2
    cases h2)
   have HE:=zH (fun e w'=>show iu B kb rb n o l ve rows (q:Int) e w w'↔e=.returned (.tuple #[.int .i64 ((rows q)[0]?.getD 0),.int .i64 0])/\w.grownBy w' (some rb)/\w'.heap.size=w.heap.size/\BoxB w' kb rb n o l ve/\∃vs,TabQ B w' rb n vs (tailAt rows q) by unfold iu;rw[if_pos hi,if_neg (by simpa using h0)];rfl)
   obtain⟨m,hm⟩:∃m,m=(rows q).length:=⟨_,rfl⟩
   have hm0:0<m:=by omega
   rw[<-hm] at hv hcap htl
   have HV:=zH (show rowV n vs q=.slice (some ⟨b,off,none⟩) m cap/\inQ n q=true from⟨by unfold rowV;rw[if_pos hi];exact hv,decide_eq_true hi⟩)
   have t0:((m:Int) == 0)=false:=by rw[beq_eq_false_iff_ne];omega
   have i1:(0:Int)<=q/\(q:Int)<n:=hi
   have i2:(0:Int)<m:=by omega
   have hcq:=World.rowIs.cell HT.out.tab hq
   have hfq:=World.rowIs.frozen HT.out.tab q
   obtain⟨u,hu⟩:∃u,u=Value.slice (if cap=1 then some (⟨b,off,none⟩:Addr) else some ⟨b,off+1,none⟩) (m-1) (cap-1):=⟨_,rfl⟩
   rw[<-hu] at htl
   have HU:=zH hu
   have HTL:=zH htl
   have HC:=zH hcell
   have hcw:(w.setCell ⟨rb,q,none⟩ u).drew.cell? ⟨b,off,none⟩=some (.int .i64 ((rows q)[0]?.getD 0)):=(World.cell?_of_block (a:=⟨b,off,none⟩) (Below.heap_setCell _ _ _ _ HNE.out)).trans HC.out
   have HN:=zH (show w.grownBy (w.setCell ⟨rb,q,none⟩ u).drew (some rb)/\(w.setCell ⟨rb,q,none⟩ u).drew.heap.size=w.heap.size/\BoxB (w.setCell ⟨rb,q,none⟩ u).drew kb rb n o l ve/\∃vs,TabQ B (w.setCell ⟨rb,q,none⟩ u).drew rb n vs (tailAt rows q) from
    ⟨⟨rfl,rfl,rfl,by simp,fun k hk hne=>Below.heap_setCell _ _ _ _ (fun e=>hne (by rw[e]))⟩,by simp,(Below.heap_setCell _ _ _ _ HKB.out).trans HBX.out,_,((HT.out.set q HTL.out).congr fun j hj=>rfl).drew⟩)
   clear hi h0 hm hu htl hcell hgb
   go_enter Tryz.func129,Tryz.ntmps129
   go_wp2_with (refine(nV q _ HT.out.tab hn).mono ?_;rintro e w1 ⟨rfl,rfl⟩;rw[HV.out.1,HV.out.2])
   go_region
   rw[<-HU.out]
   generalize (w.setCell ⟨rb,q,none⟩ u).drew=W1 at hcw HN ⊢
   go_wp2_with fail
   go_ret2
   exact(HE.out _ _).2 ⟨rfl,HN.out⟩
 ·have HE:=zH (fun e w'=>show iu B kb rb n o l ve rows i e w w'↔e=.returned (.tuple #[.int .i64 0,.int .i64 1])/\w'=w by unfold iu;rw[if_neg hi])
  have HV:=zH (show rowV n vs i=.slice none 0 0/\inQ n i=false from⟨if_neg hi,decide_eq_false hi⟩)
  clear hi
  go_enter Tryz.func129,Tryz.ntmps129
  go_wp2_with (refine(nV i _ HT.out.tab hn).mono ?_;rintro e w1 ⟨rfl,rfl⟩;rw[HV.out.1,HV.out.2])
  go_ret2
  exact(HE.out _ _).2 ⟨rfl,rfl⟩
end
end Go.Proofs.YtjngffgkllakaaaGreatDoor
namespace Go.Proofs.YtjngffgkllakaaaGreatDoor.QQ
open List renaming getElem_toArray → zA, getElem_cons_succ → zB, getElem_cons_zero → zC, setIfInBounds_toArray → zD, set_cons_zero → zE, set_cons_succ → zF
open Lib renaming hid → zH
section
theorem take_same{α:Type}{d:α}{xs ys:List α}{j:Nat}(h1:j<xs.length)(h2:j<ys.length)(h:xs.take j=ys.take j)(e:xs[j]?.getD d=ys[j]?.getD d):xs.take (j+1)=ys.take (j+1):=by
 rw[List.getElem?_eq_getElem h1,List.getElem?_eq_getElem h2] at e
 simp only[Option.getD_some] at e
 rw[List.take_succ_eq_append_getElem h1,List.take_succ_eq_append_getElem h2,h,e]
theorem take_whole{α:Type}{xs ys:List α}{j:Nat}(h1:xs.length<=j)(h2:ys.length<=j)(h:xs.take j=ys.take j):xs=ys:=by
 rwa [List.take_of_length_le h1,List.take_of_length_le h2] at h
end
end Go.Proofs.YtjngffgkllakaaaGreatDoor.QQ
namespace Go.Proofs.YtjngffgkllakaaaGreatDoor
open List renaming getElem_toArray → zA, getElem_cons_succ → zB, getElem_cons_zero → zC, setIfInBounds_toArray → zD, set_cons_zero → zE, set_cons_succ → zF
open Lib renaming hid → zH
section
open Go.RowKit
end
section
open Go.RowKit
structure Ev where
 k:Int
 r:Int
 v:Int
 f:Int
 a:Int
def evC(e:Ev):List Value:=[.int .u8 e.k,.int .i64 e.r,.int .i64 e.v,.int .i64 e.f,.int .i64 e.a]
def ev0:Ev:=⟨0,0,0,0,0⟩
def lh(n₀:Nat)(W:World)(v:Value)(es:List Ev):Prop :=
 ((∃a cap,v=.slice a 0 cap/\(a=none->cap=0))/\es=[])∨∃b off cap,v=.slice (some ⟨b,off,none⟩) es.length cap/\b<n₀/\es.length<=cap/\∀j,j<es.length->∀k u,(evC (es[j]?.getD ev0))[k]?=some u->W.cell? ⟨b,off+j*5+k,none⟩=some u
theorem lh.form{n₀:Nat}{A:World}{v:Value}{es:List Ev}(h:lh n₀ A v es):∃a cap,v=.slice a es.length cap:=by
 rcases h with⟨⟨_,_,rfl,_⟩,rfl⟩ | ⟨b,off,cap,rfl,_⟩
 ·exact⟨_,_,rfl⟩
 ·exact⟨_,_,rfl⟩
def aY(es:List Ev):List Value:=es.flatMap evC
theorem kf(es:List Ev):(aY es).length=es.length*5:=by
 induction es with
 | nil=>rfl
 | cons e es ih=>simp [aY,evC,List.flatMap_cons] at ih ⊢;omega
theorem li(es:List Ev)(j k:Nat)(hj:j<es.length)(u:Value)(h:(evC (es[j]?.getD ev0))[k]?=some u):(aY es)[j*5+k]?=some u:=by
 have hk:k<5:=(List.getElem?_eq_some_iff.1 h).1
 induction es generalizing j with
 | nil=>simp at hj
 | cons e es ih =>
   unfold aY
   rw[List.flatMap_cons]
   cases j with
   | zero =>
     rw[List.getElem?_append_left (by simp [evC];omega)]
     simpa using h
   | succ j =>
     have hl:(evC e).length=5:=rfl
     rw[List.getElem?_append_right (by rw[hl];omega),hl,show (j+1)*5+k-5=j*5+k by omega]
     exact ih j (by simpa using hj) (by simpa using h)
theorem mH{W:World}{base:Nat}{v:Value}{es:List Ev}(h:W.ownsRow base 231 5 v es.length (aY es)):lh W.heap.size W v es:=by
 have hlt:=h.lt
 obtain⟨hl,⟨rfl,h0⟩ | ⟨g,cap,cur,rfl,hb,hg,hn,hm,hs,hx⟩⟩:=h
 ·have:es=[]:=List.length_eq_zero_iff.1 h0
  subst this
  exact .inl ⟨⟨_,_,rfl,fun _=>rfl⟩,rfl⟩
 ·refine .inr ⟨g,0,cap,rfl,(hlt g rfl).2,hn,fun j hj k u hk=>?_⟩
  have hk5:k<5:=(List.getElem?_eq_some_iff.1 hk).1
  have h1:=li es j k hj u hk
  rw[<-hx,List.getElem?_take_of_lt (by omega)] at h1
  simp only[World.cell?,hg,Nat.zero_add]
  simpa using h1
theorem nX(e:Ev):∀u∈evC e,u.oneCell'=true:=by
 intro u hu
 simp only[evC,List.mem_cons,List.mem_nil_iff,or_false] at hu
 rcases hu with rfl | rfl | rfl | rfl | rfl <;> rfl
theorem nY(es:List Ev)(e:Ev):aY (es ++ [e])=aY es ++ evC e:=by simp [aY]
theorem pF(es:List Ev):∀u∈aY es,u.oneCell'=true:=by
 intro u hu
 obtain⟨e,_,h⟩:=List.mem_flatMap.1 hu
 exact nX e u h
theorem lh.src{n₀:Nat}{W:World}{v:Value}{es:List Ev}(h:lh n₀ W v es) :
 v=.slice none 0 0/\es.length=0∨∃ad c,v=.slice (some ad) es.length c/\∀j u,(aY es)[j]?=some u->W.cell? (ad.add j)=some u:=by
 rcases h with⟨⟨a,cap,rfl,hn⟩,rfl⟩ | ⟨b,off,cap,rfl,_,_,hc⟩
 ·cases a with
  | none=>rw[hn rfl];exact .inl ⟨rfl,rfl⟩
  | some x=>exact .inr ⟨x,cap,rfl,fun j u hj=>by simp [aY] at hj⟩
 ·refine .inr ⟨_,cap,rfl,fun j u hj=>?_⟩
  have hjl:j<es.length*5:=by
   have:=(List.getElem?_eq_some_iff.1 hj).1
   rwa [kf] at this
  have hq:j / 5<es.length:=by omega
  have hk:∃u',(evC (es[j / 5]?.getD ev0))[j % 5]?=some u':=⟨_,List.getElem?_eq_getElem (show j % 5<5 by omega)⟩
  obtain⟨u',hu'⟩:=hk
  have h1:=li es (j / 5) (j % 5) hq u' hu'
  rw[show j / 5*5+j % 5=j by omega,hj] at h1
  cases h1
  have h2:=hc (j / 5) hq (j % 5) u hu'
  rw[Addr.add_lit]
  rwa [Nat.add_assoc,show j / 5*5+j % 5=j by omega] at h2
end
section
open Go.RowKit
end
section
open Go.RowKit
end
end Go.Proofs.YtjngffgkllakaaaGreatDoor
namespace Go.Proofs.YtjngffgkllakaaaGreatDoor.IP
open List renaming getElem_toArray → zA, getElem_cons_succ → zB, getElem_cons_zero → zC, setIfInBounds_toArray → zD, set_cons_zero → zE, set_cons_succ → zF
open Lib renaming hid → zH
section
open Go.RowKit
open CD (OpP BodyP CodeP ae blAt fnAt)
def I64(o:Obj):Prop:=∃c fr,o=.cells c 2 fr
structure Chg (X:Nat->Prop) (A B:World):Prop where
 os:B.os=A.os
 tape:B.tape=A.tape
 output:B.output=A.output
 size:A.heap.size<=B.heap.size
 rest:∀(b:Nat) (o:Obj),A.heap[b]?=some o->¬X b->¬I64 o->B.heap[b]?=some o
 ints:∀(b:Nat) (c:Array Value) (fr:Nat × Nat),A.heap[b]?=some (.cells c 2 fr)->∃c':Array Value,B.heap[b]?=some (.cells c' 2 fr)/\c'.size=c.size/\∀(j:Nat) (z:Int),c[j]?=some (.int .i64 z)->∃z':Int,c'[j]?=some (.int .i64 z')
theorem Chg.refl(X:Nat->Prop)(A:World):Chg X A A:=⟨rfl,rfl,rfl,Nat.le_refl _,fun _ _ h _ _=>h,fun _ c _ h=>⟨c,h,rfl,fun _ z h=>⟨z,h⟩⟩⟩
theorem Chg.trans{X:Nat->Prop}{A B C:World}(h:Chg X A B)(g:Chg X B C):Chg X A C :=
 ⟨g.os.trans h.os,g.tape.trans h.tape,g.output.trans h.output,Nat.le_trans h.size g.size,fun b o e hx hi=>g.rest b o (h.rest b o e hx hi) hx hi,fun b c fr e=>by
  obtain⟨c1,e1,s1,z1⟩:=h.ints b c fr e
  obtain⟨c2,e2,s2,z2⟩:=g.ints b c1 fr e1
  exact⟨c2,e2,s2.trans s1,fun j z hj=>by obtain⟨z',hz⟩:=z1 j z hj;exact z2 j z' hz⟩⟩
theorem Chg.wide{X Y:Nat->Prop}{A B:World}(h:Chg X A B)(hs:∀b,X b->Y b):Chg Y A B :=
 ⟨h.os,h.tape,h.output,h.size,fun b o e hy hi=>h.rest b o e (fun hx=>hy (hs b hx)) hi,h.ints⟩
theorem Chg.of_below{X:Nat->Prop}{A B:World}(h:Below A.heap.size A B):Chg X A B :=
 ⟨h.os,h.tape,h.output,h.size,fun b o e _ _=>(h.block b (Array.getElem?_eq_some_iff.1 e).1).trans e,fun b c fr e=>⟨c,(h.block b (Array.getElem?_eq_some_iff.1 e).1).trans e,rfl,fun _ z h=>⟨z,h⟩⟩⟩
theorem Chg.drewN{X:Nat->Prop}(A:World)(n:Nat):Chg X A (A.drewN n):=Chg.of_below ⟨rfl,rfl,rfl,Nat.le_refl _,fun _ _=>rfl⟩
theorem Chg.drew{X:Nat->Prop}(A:World):Chg X A A.drew:=Chg.of_below ⟨rfl,rfl,rfl,Nat.le_refl _,fun _ _=>rfl⟩
theorem Chg.alloc{X:Nat->Prop}(A:World)(o:Obj):Chg X A (A.alloc o):=Chg.of_below ((Below.refl _ _).alloc (Nat.le_refl _) _)
theorem Chg.but{A B:World}{k:Nat}(h1:B.os=A.os)(h2:B.tape=A.tape)(h3:B.output=A.output)(h4:A.heap.size<=B.heap.size)(hb:∀b,b<A.heap.size->b≠k->B.heap[b]?=A.heap[b]?)(hk:∀o,A.heap[k]?=some o->¬I64 o):Chg (fun b=>b=k) A B :=
 ⟨h1,h2,h3,h4,fun b o e hx _=>(hb b (Array.getElem?_eq_some_iff.1 e).1 hx).trans e,fun b c fr e=>⟨c,(hb b (Array.getElem?_eq_some_iff.1 e).1 (fun x=>by subst x;exact hk _ e ⟨c,fr,rfl⟩)).trans e,rfl,fun _ z h=>⟨z,h⟩⟩⟩
theorem Chg.set{A:World}{k c:Nat}{o:Obj}(ho:A.heap[k]?=some o)(hi:¬I64 o)(v:Value):Chg (fun b=>b=k) A (A.setCell ⟨k,c,none⟩ v) :=
 Chg.but rfl rfl rfl (by simp) (fun b _ hb=>Below.heap_setCell _ _ _ _ hb) (fun o' e=>by rw[ho] at e;cases e;exact hi)
theorem aO{c:Array Value}{t:TypeId}{fr:Nat × Nat}(h:t≠2):¬I64 (.cells c t fr):=fun⟨_,_,e⟩=>by cases e;exact h rfl
theorem Chg.grown{A B:World}{b0 e size n:Nat}{v:Value}{xs:List Value}(ho:A.ownsRow b0 e size v n xs)(he:e≠2)(hg:A.grownBy B v.ownBlock):Chg (fun b=>v.ownBlock=some b) A B :=
 ⟨hg.os,hg.tape,hg.output,hg.size,fun b o eb hx _=>(hg.block b (Array.getElem?_eq_some_iff.1 eb).1 (fun x=>hx x.symm)).trans eb,fun b c fr eb=>⟨c,(hg.block b (Array.getElem?_eq_some_iff.1 eb).1 (fun x=>by
  obtain⟨_,_,c',hc⟩:=GG.own_block ho x.symm
  rw[hc] at eb
  cases eb
  exact he rfl)).trans eb,rfl,fun _ z h=>⟨z,h⟩⟩⟩
theorem Chg.setInt{X:Nat->Prop}{A:World}{k i:Nat}{c:Array Value}(hk:A.heap[k]?=some (.cells c 2 (0,0)))(z:Int):Chg X A (A.setCell ⟨k,i,none⟩ (.int .i64 z)):=by
 refine⟨rfl,rfl,rfl,by simp,fun b o e _ hi=>?_,fun b c' fr e=>?_⟩
 ·by_cases hb:b=k
  ·subst hb;rw[hk] at e;cases e;exact absurd ⟨_,_,rfl⟩ hi
  ·exact(Below.heap_setCell _ _ _ _ hb).trans e
 ·by_cases hb:b=k
  ·subst hb
   rw[hk] at e
   cases e
   refine⟨_,set_obj (c:=i) (.int .i64 z) hk,by simp,fun j z' hj=>?_⟩
   by_cases hj2:i=j
   ·subst hj2
    have hl:=(Array.getElem?_eq_some_iff.1 hj).1
    exact⟨z,by simp [hl]⟩
   ·exact⟨z',by rw[Array.getElem?_setIfInBounds_ne hj2];exact hj⟩
  ·exact⟨c',(Below.heap_setCell _ _ _ _ hb).trans e,rfl,fun _ z h=>⟨z,h⟩⟩
theorem Chg.own{X:Nat->Prop}{A B:World}(h:Chg X A B){b0 e size n:Nat}{v:Value}{xs:List Value}(he:e≠2)(ho:A.ownsRow b0 e size v n xs)(hx:∀k,v.ownBlock=some k->¬X k):B.ownsRow b0 e size v n xs :=
 own_of_block ho fun k hk=>by
  obtain⟨_,_,c,hc⟩:=GG.own_block ho hk
  rw[hc]
  exact h.rest k _ hc (hx k hk) (aO he)
def NumV(B0:Nat)(W:World)(v:Value)(s:Nat):Prop:=∃g c,v=.slice (some ⟨g,0,none⟩) s s/\B0<=g/\W.heap[g]?=some (.cells c 2 (0,0))/\c.size=s/\∀j,j<s->∃z:Int,c[j]?=some (.int .i64 z)
theorem NumV.chg{X:Nat->Prop}{A B:World}(h:Chg X A B){B0 s:Nat}{v:Value}:NumV B0 A v s->NumV B0 B v s
 | ⟨g,c,e,hb,hg,hs,hz⟩=>by
   obtain⟨c',hg',hs',hz'⟩:=h.ints g c _ hg
   exact⟨g,c',e,hb,hg',hs'.trans hs,fun j hj=>by obtain⟨z,hz⟩:=hz j hj;exact hz' j z hz⟩
theorem NumV.cell{B0:Nat}{W:World}{g s cap:Nat}(h:NumV B0 W (.slice (some ⟨g,0,none⟩) s cap) s){j:Nat}(hj:j<s):∃z,W.cell? ⟨g,j,none⟩=some (.int .i64 z):=by
 obtain⟨g',c,e,_,hg,hs,hz⟩:=h
 cases e
 obtain⟨z,hz⟩:=hz j hj
 exact⟨z,by simp only[World.cell?,hg];simpa using hz⟩
theorem NumV.frozen{B0:Nat}{W:World}{g s cap:Nat}(h:NumV B0 W (.slice (some ⟨g,0,none⟩) s cap) s)(j:Nat):W.frozen? ⟨g,j,none⟩=false:=by
 obtain⟨g',c,e,_,hg,hs,hz⟩:=h
 cases e
 exact aj hg
theorem NumV.form{B0:Nat}{W:World}{v:Value}{s:Nat}(h:NumV B0 W v s):∃g,v=.slice (some ⟨g,0,none⟩) s s/\B0<=g/\g<W.heap.size:=by
 obtain⟨g,c,e,hb,hg,_⟩:=h
 exact⟨g,e,hb,(Array.getElem?_eq_some_iff.1 hg).1⟩
theorem NumV.set{X:Nat->Prop}{B0:Nat}{W:World}{g s cap:Nat}(h:NumV B0 W (.slice (some ⟨g,0,none⟩) s cap) s)(j:Nat)(z:Int):Chg X W (W.setCell ⟨g,j,none⟩ (.int .i64 z)):=by
 obtain⟨g',c,e,_,hg,hs,hz⟩:=h
 cases e
 exact Chg.setInt hg z
structure WayV (va nb:Nat) (W:World) (bl fi:Nat) (v:Value):Prop where
 bl:bl<nb
 own:∃zs:List Int,W.ownsRow 0 3 1 v zs.length (ao zs)/\fi+zs.length<=va/\∀j,j<zs.length->0<=zs[j]?.getD 0/\zs[j]?.getD 0<va
theorem WayV.chg{X:Nat->Prop}{A B:World}(h:Chg X A B)(hx:∀(k:Nat) (c:Array Value),A.heap[k]?=some (.cells c 3 (0,0))->¬X k){va nb bl fi:Nat}{v:Value}(g:WayV va nb A bl fi v):WayV va nb B bl fi v:=by
 obtain⟨zs,h1,h2,h3⟩:=g.own
 exact⟨g.bl,zs,h.own (by decide) h1 (fun k hk=>by obtain⟨_,_,c,hc⟩:=GG.own_block h1 hk;exact hx k c hc),h2,h3⟩
inductive InsV (nf na va nb:Nat) (refs:List Int) (B0:Nat) (W:World):Bool->Value->Prop
 | konst (d:Nat) (z:Int) (hd:d<va):InsV nf na va nb refs B0 W false (.iface 198 (.agg #[.int .i64 d,.int .i64 z]))
 | bin (d a b:Nat) (o:Int) (ho:1<=o/\o<=12) (hd:d<va) (ha:a<va) (hb:b<va):InsV nf na va nb refs B0 W false (.iface 200 (.agg #[.int .i64 d,.int .u8 o,.int .i64 a,.int .i64 b]))
 | load (d r a:Nat) (hd:d<va) (hr:r<na) (ha:a<va):InsV nf na va nb refs B0 W false (.iface 202 (.agg #[.int .i64 d,.int .i64 r,.int .i64 a]))
 | wrap (d r a:Nat) (hd:d<va) (hr:r<na) (ha:a<va):InsV nf na va nb refs B0 W false (.iface 204 (.agg #[.int .i64 d,.int .i64 r,.int .i64 a]))
 | store (r a b:Nat) (hr:r<na) (ha:a<va) (hb:b<va):InsV nf na va nb refs B0 W false (.iface 206 (.agg #[.int .i64 r,.int .i64 a,.int .i64 b]))
 | call (d r:Nat) (xa:Option Addr) (xc:Nat) (xs:List Int) (hd:d<va) (hr:r<nf) (hm:(r:Int)∈refs) (hx:Row B0 W (.slice xa xs.length xc) xs) (hl:xs.length<=100000) (hi:∀j,j<xs.length->0<=xs[j]?.getD 0/\xs[j]?.getD 0<va):InsV nf na va nb refs B0 W false (.iface 208 (.agg #[.int .i64 d,.int .i64 r,.slice xa xs.length xc]))
 | input (d:Nat) (r:Int) (hd:d<va):InsV nf na va nb refs B0 W false (.iface 210 (.agg #[.int .i64 d,.int .i64 r]))
 | output (r:Int) (a:Nat) (t:Int) (ha:a<va):InsV nf na va nb refs B0 W false (.iface 212 (.agg #[.int .i64 r,.int .i64 a,.int .i64 t]))
 | release (d:Nat) (r:Int) (a:Nat) (t:Int) (hd:d<va) (ha:a<va):InsV nf na va nb refs B0 W false (.iface 214 (.agg #[.int .i64 d,.int .i64 r,.int .i64 a,.int .i64 t]))
 | jump (bl fi:Nat) (v:Value) (h:WayV va nb W bl fi v):InsV nf na va nb refs B0 W true (.iface 216 (.agg #[.int .i64 bl,.int .i64 fi,v]))
 | branch (a bl fi bl' fi':Nat) (v v':Value) (ha:a<va) (h:WayV va nb W bl fi v) (h':WayV va nb W bl' fi' v'):InsV nf na va nb refs B0 W true (.iface 218 (.agg #[.int .i64 a,.int .i64 bl,.int .i64 fi,v,.int .i64 bl',.int .i64 fi',v']))
 | leave (a:Nat) (ha:a<va):InsV nf na va nb refs B0 W true (.iface 220 (.agg #[.int .i64 a]))
theorem InsV.chg{X:Nat->Prop}{A B:World}{B0:Nat}(h:Chg X A B)(hb:Below B0 A B)(hx:∀(k:Nat) (c:Array Value),A.heap[k]?=some (.cells c 3 (0,0))->¬X k){nf na va nb:Nat}{refs:List Int}{z:Bool}{v:Value}(g:InsV nf na va nb refs B0 A z v):InsV nf na va nb refs B0 B z v:=by
 cases g with
 | konst d z hd=>exact .konst d z hd
 | bin d a b o ho hd ha hb=>exact .bin d a b o ho hd ha hb
 | load d r a hd hr ha=>exact .load d r a hd hr ha
 | wrap d r a hd hr ha=>exact .wrap d r a hd hr ha
 | store r a b hr ha hb=>exact .store r a b hr ha hb
 | call d r xa xc xs hd hr hm h1 hl hi=>exact .call d r xa xc xs hd hr hm (h1.below hb) hl hi
 | input d r hd=>exact .input d r hd
 | output r a t ha=>exact .output r a t ha
 | release d r a t hd ha=>exact .release d r a t hd ha
 | jump bl fi v h1=>exact .jump bl fi v (h1.chg h hx)
 | branch a bl fi bl' fi' v v' ha h1 h2=>exact .branch a bl fi bl' fi' v v' ha (h1.chg h hx) (h2.chg h hx)
 | leave a ha=>exact .leave a ha
structure Kst where
 (B0 B1 Rb kb rb ni no nl nf na D most:Nat)
 (fuel:Int)
 (fv av rv tv:Value)
 (nb va:Nat->Nat)
 (len:Nat->Nat->Nat)
 (sz:Nat->Nat)
 (us:Nat->Value)
 (bs:Nat->Nat->Value)
 (xs:Nat->Nat->Nat->Value)
 (ar rs:Nat->Value)
 (refs:Nat->List Int)
def tabV(n:Nat)(f:Nat->Value):List Value:=(List.range n).map f
theorem tabV_at{n i:Nat}(f:Nat->Value)(h:i<n):(tabV n f)[i]?=some (f i):=by unfold tabV;rw[List.getElem?_map,List.getElem?_range h];rfl
theorem ji{W:World}{B e n i:Nat}{v:Value}{f:Nat->Value}(h:W.ownsRow B e 1 v n (tabV n f))(hi:i<n):∃g cap,v=.slice (some ⟨g,0,none⟩) n cap/\W.cell? ⟨g,i,none⟩=some (f i):=by
 rcases h.2 with⟨_,h0⟩ | ⟨g,cap,cur,e,_⟩
 ·omega
 ·subst e
  exact⟨g,cap,rfl,by rw[h.cellAt i (by omega)];exact tabV_at f hi⟩
structure FunM (K:Kst) (W:World):Prop where
 f:W.ownsRow 0 115 1 K.fv K.nf (tabV K.nf K.us)
 b:∀f,f<K.nf->W.ownsRow 0 116 1 (K.us f) (K.nb f) (tabV (K.nb f) (K.bs f))/\0<K.nb f/\K.va f<=K.most
 i:∀f b,f<K.nf->b<K.nb f->W.ownsRow 0 150 1 (K.bs f b) (K.len f b) (tabV (K.len f b) (K.xs f b))/\1<=K.len f b/\K.len f b<=100000
 v:∀f b k,f<K.nf->b<K.nb f->k<K.len f b->InsV K.nf K.na (K.va f) (K.nb f) (K.refs f) K.B0 W (decide (k+1=K.len f b)) (K.xs f b k)
def Code(t:TypeId):Prop:=t=115∨t=116∨t=150∨t=3∨t=33
theorem FunM.chg{X:Nat->Prop}{A B:World}{K:Kst}(h:Chg X A B)(hb:Below K.B0 A B)(hx:∀(k:Nat) (c:Array Value) (t:TypeId),A.heap[k]?=some (.cells c t (0,0))->Code t->¬X k)(g:FunM K A):FunM K B:=by
 refine⟨?_,fun f hf=>⟨?_,(g.b f hf).2⟩,fun f b hf hbn=>⟨?_,(g.i f b hf hbn).2⟩,fun f b k hf hbn hk=>?_⟩
 ·exact h.own (by decide) g.f (fun k hk=>by obtain⟨_,_,c,hc⟩:=GG.own_block g.f hk;exact hx k c _ hc (.inl rfl))
 ·have g1:=(g.b f hf).1
  exact h.own (by decide) g1 (fun k hk=>by obtain⟨_,_,c,hc⟩:=GG.own_block g1 hk;exact hx k c _ hc (.inr (.inl rfl)))
 ·have g1:=(g.i f b hf hbn).1
  exact h.own (by decide) g1 (fun k hk=>by obtain⟨_,_,c,hc⟩:=GG.own_block g1 hk;exact hx k c _ hc (.inr (.inr (.inl rfl))))
 ·exact(g.v f b k hf hbn hk).chg h hb (fun k c hc=>hx k c _ hc (.inr (.inr (.inr (.inl rfl)))))
end
section
open Go.RowKit
open CD (OpP BodyP CodeP ae blAt fnAt)
theorem IRow.chg{X:Nat->Prop}{A B:World}(h:Chg X A B){b0:Nat}{v:Value}{xs:List Int}(g:IRow b0 A v xs):∃ys,IRow b0 B v ys:=by
 rcases g with⟨a,cap,e,h0,rfl⟩ | ⟨b,off,cap,c,fr,e,hb,hl,hc,hz⟩
 ·exact⟨[],.inl ⟨a,cap,e,h0,rfl⟩⟩
 ·obtain⟨c',hc',hs,hz'⟩:=h.ints b c fr hc
  refine⟨(List.range xs.length).map fun j=>match c'[off+j]? with | some (.int .i64 z)=>z | _=>0,.inr ⟨b,off,cap,c',fr,by rw[List.length_map,List.length_range];exact e,hb,by rw[List.length_map,List.length_range];exact hl,hc',fun j hj=>?_⟩⟩
  rw[List.length_map,List.length_range] at hj
  obtain⟨z',hz2⟩:=hz' _ _ (hz j hj)
  rw[List.getElem?_map,List.getElem?_range hj,hz2]
  simp [hz2]
theorem TabQ.chg{X:Nat->Prop}{A B:World}(h:Chg X A B){b0 rb n:Nat}{vs:Nat->Value}{rows:Nat->List Int}(hx:¬X rb)(g:TabQ b0 A rb n vs rows):∃rows',TabQ b0 B rb n vs rows':=by
 have:∀j,∃ys,j<n->IRow b0 B (vs j) ys:=fun j=>by
  by_cases hj:j<n
  ·obtain⟨ys,hy⟩:=IRow.chg h (g.rows j hj)
   exact⟨ys,fun _=>hy⟩
  ·exact⟨[],fun h=>absurd h hj⟩
 obtain⟨c,hc,hs,hz⟩:=g.tab
 exact⟨fun j=>(this j).choose,g.base,⟨c,h.rest _ _ hc hx (aO (by decide)),hs,hz⟩,fun j hj=>(this j).choose_spec hj⟩
structure FrS where
 (num bl pl fb:Nat)
def ptrs(fs:List FrS):List Value:=fs.map fun f=>.pointer (some ⟨f.fb,0,none⟩)
theorem ptrs_len(fs:List FrS):(ptrs fs).length=fs.length:=by simp [ptrs]
structure Core (K:Kst) (W0 W:World):Prop where
 below:Below K.B0 W0 W
 fn:FunM K W
 ars:W.ownsRow K.B1 49 1 K.av K.na (tabV K.na K.ar)
 arn:∀i,i<K.na->NumV K.B0 W (K.ar i) (K.sz i)/\1<=K.sz i
 rms:W.ownsRow K.B1 49 1 K.rv K.D (tabV K.D K.rs)
 rmn:∀i,i<K.D->NumV K.B0 W (K.rs i) K.most
 tkn:NumV K.B0 W K.tv K.most
 ret:∀(b:Nat) (c:Array Value),W0.heap[b]?=some (.cells c 33 (0,0))->W.heap[b]?=some (.cells c 33 (0,0))
def Apart(K:Kst)(X:Nat->Prop)(A:World):Prop:=(∀(k:Nat) (c:Array Value) (t:TypeId),A.heap[k]?=some (.cells c t (0,0))->Code t∨t=49/\K.B1<=k->¬X k)
theorem Core.chg{X:Nat->Prop}{A B:World}{K:Kst}{W0:World}(h:Chg X A B)(hb:Below K.B0 A B)(hx:Apart K X A)(g:Core K W0 A):Core K W0 B:=by
 refine⟨g.below.trans hb,g.fn.chg h hb (fun k c t e ht=>hx k c t e (.inl ht)),?_,fun i hi=>⟨(g.arn i hi).1.chg h,(g.arn i hi).2⟩,?_,fun i hi=>(g.rmn i hi).chg h,g.tkn.chg h,fun b c e=>h.rest b _ (g.ret b c e) (hx b c _ (g.ret b c e) (.inl (.inr (.inr (.inr (.inr rfl)))))) (aO (by decide))⟩
 ·exact h.own (by decide) g.ars (fun k hk=>by obtain⟨hb',_,c,hc⟩:=GG.own_block g.ars hk;exact hx k c _ hc (.inr ⟨rfl,hb'⟩))
 ·exact h.own (by decide) g.rms (fun k hk=>by obtain⟨hb',_,c,hc⟩:=GG.own_block g.rms hk;exact hx k c _ hc (.inr ⟨rfl,hb'⟩))
def FrM(K:Kst)(W:World)(i:Nat)(f:FrS):Prop:=W.heap[f.fb]?=some (.cells #[.int .i64 f.num,K.us f.num,K.rs i,.int .i64 f.bl,.int .i64 f.pl] 124)
theorem FrM.chg{X:Nat->Prop}{A B:World}{K:Kst}(h:Chg X A B){i:Nat}{f:FrS}(hx:¬X f.fb)(g:FrM K A i f):FrM K B i f:=h.rest _ _ g hx (aO (by decide))
def RunM(K:Kst)(W:World)(frv:Value)(st:Int):Prop:=W.heap[K.Rb]?=some (.cells #[K.fv,K.av,.pointer (some ⟨K.kb,0,none⟩),frv,K.rv,K.tv,.int .i64 K.fuel,.int .i64 st] 81)
def BoxI(K:Kst)(W:World)(m:Nat):Prop:=∃(ve:Value) (es:List Ev) (vs:Nat->Value) (rows:Nat->List Int),BoxB W K.kb K.rb K.ni K.no K.nl ve/\TabQ K.B0 W K.rb K.ni vs rows/\W.ownsRow K.B0 231 5 ve es.length (aY es)/\es.length<=m
theorem BoxI.chg{X:Nat->Prop}{A B:World}{K:Kst}(h:Chg X A B){m:Nat}(h1:¬X K.kb)(h2:¬X K.rb)(h3:∀(k:Nat) (c:Array Value),A.heap[k]?=some (.cells c 231 (0,0))->¬X k):BoxI K A m->BoxI K B m
 | ⟨ve,es,vs,rows,hb,ht,ho,hm⟩=>by
   obtain⟨rows',ht'⟩:=TabQ.chg h h2 ht
   exact⟨ve,es,vs,rows',h.rest _ _ hb h1 (aO (by decide)),ht',h.own (by decide) ho (fun k hk=>by obtain⟨_,_,c,hc⟩:=GG.own_block ho hk;exact h3 k c hc),hm⟩
theorem BoxI.more{K:Kst}{W:World}{m m':Nat}(hm:m<=m'):BoxI K W m->BoxI K W m'
 | ⟨ve,es,vs,rows,hb,ht,ho,h⟩=>⟨ve,es,vs,rows,hb,ht,ho,Nat.le_trans h hm⟩
def iw(K:Kst)(f:FrS):Prop:=f.num<K.nf/\f.bl<K.nb f.num/\f.pl<K.len f.num f.bl
def insK(K:Kst)(f:FrS):Value:=K.xs f.num f.bl f.pl
def fQ(K:Kst)(f:FrS)(n:Nat):Prop:=∃(d:Nat) (v:Value),d<K.va f.num/\insK K f=.iface 208 (.agg #[.int .i64 d,.int .i64 n,v])
structure FrP (K:Kst) (mf:Nat) (fs:List FrS):Prop where
 pos:∀f,f∈fs->iw K f
 few:fs.length<=K.D
 first:∀(f:FrS),fs[0]?=some f->f.num=mf
 calls:∀(i:Nat) (f g:FrS),fs[i]?=some f->fs[i+1]?=some g->fQ K f g.num
structure Mach (K:Kst) (mf:Nat) (W0 W:World) (fs:List FrS) (st:Int) (m:Nat):Prop where
 core:Core K W0 W
 run:∃frv,RunM K W frv st/\W.ownsRow K.B0 122 1 frv fs.length (ptrs fs)
 frm:∀(i:Nat) (f:FrS),fs[i]?=some f->FrM K W i f
 dis:∀(i j:Nat) (f g:FrS),fs[i]?=some f->fs[j]?=some g->f.fb=g.fb->i=j
 pl:FrP K mf fs
 box:BoxI K W m
 base:K.B0<=K.Rb/\K.B0<=K.kb/\K.rb<K.B1/\K.B0<=K.rb/\∀f,f∈fs->K.B0<=f.fb
theorem aP{W:World}{a b:Nat}{c d:Array Value}{t u:TypeId}{fr fr':Nat × Nat}(h:W.heap[a]?=some (.cells c t fr))(g:W.heap[b]?=some (.cells d u fr'))(hn:t≠u):a≠b:=fun e=>by
 subst e;rw[h] at g;cases g;exact hn rfl
theorem Mach.num{K:Kst}{mf m:Nat}{W0 A B:World}{fs:List FrS}{st:Int}(g:Mach K mf W0 A fs st m)(h:Chg (fun _=>False) A B)(hb:Below K.B0 A B):Mach K mf W0 B fs st m:=by
 obtain⟨frv,hr,ho⟩:=g.run
 exact⟨g.core.chg h hb (fun _ _ _ _ _ e=>e),⟨frv,h.rest _ _ hr (fun e=>e) (aO (by decide)),h.own (by decide) ho (fun _ _ e=>e)⟩,fun i f e=>(g.frm i f e).chg h (fun e=>e),g.dis,g.pl,g.box.chg h (fun e=>e) (fun e=>e) (fun _ _ _ e=>e),g.base⟩
theorem Mach.drewN{K:Kst}{mf m:Nat}{W0 A:World}{fs:List FrS}{st:Int}(g:Mach K mf W0 A fs st m)(n:Nat):Mach K mf W0 (A.drewN n) fs st m:=g.num (Chg.drewN A n) ⟨rfl,rfl,rfl,Nat.le_refl _,fun _ _=>rfl⟩
theorem Mach.on{K:Kst}{mf m:Nat}{W0 A B:World}{fs:List FrS}{st:Int}(g:Mach K mf W0 A fs st m)(h:Below A.heap.size A B):Mach K mf W0 B fs st m:=g.num (Chg.of_below h) (h.mono (by
 have h1:=g.base.1
 obtain⟨frv,hr,_⟩:=g.run
 have:=(Array.getElem?_eq_some_iff.1 hr).1
 omega))
theorem fw{K:Kst}{A:World}{k:Nat}{c:Array Value}{t:TypeId}{fr:Nat × Nat}(h:A.heap[k]?=some (.cells c t fr))(ht:¬Code t/\(t=49->k<K.B1)):Apart K (fun b=>b=k) A:=fun k' c' t' e hc he=>by
 subst he
 rw[h] at e
 cases e
 rcases hc with hc | ⟨hc,hb⟩
 ·exact ht.1 hc
 ·have:=ht.2 hc;omega
theorem jj:¬Code 81:=by unfold Code;decide
theorem lj:¬Code 124:=by unfold Code;decide
theorem nZ:¬Code 122:=by unfold Code;decide
theorem od:¬Code 113:=by unfold Code;decide
theorem ll:¬Code 231:=by unfold Code;decide
theorem lU:¬Code 49:=by unfold Code;decide
theorem Mach.steps{K:Kst}{mf m:Nat}{W0 A:World}{fs:List FrS}{st:Int}(g:Mach K mf W0 A fs st m)(st':Int):Mach K mf W0 (A.setCell ⟨K.Rb,7,none⟩ (.int .i64 st')) fs st' m:=by
 obtain⟨frv,hr,ho⟩:=g.run
 have h:=Chg.set (c:=7) hr (aO (by decide)) (.int .i64 st')
 have hb:Below K.B0 A (A.setCell ⟨K.Rb,7,none⟩ (.int .i64 st')):=(Below.refl _ _).setCell (p:=⟨K.Rb,7,none⟩) g.base.1 _
 obtain⟨ve,es,vs,rows,hb1,ht1,ho1,hm1⟩:=g.box
 have hrb:∃c,A.heap[K.rb]?=some (.cells c 49 (0,0)):=by obtain⟨c,hc,_⟩:=ht1.tab;exact⟨c,hc⟩
 obtain⟨cr,hcr⟩:=hrb
 refine⟨g.core.chg h hb (fw hr ⟨jj,fun e=>absurd e (by decide)⟩),⟨frv,set_obj (c:=7) (.int .i64 st') hr,h.own (by decide) ho (fun k hk e=>?_)⟩,fun i f e=>(g.frm i f e).chg h (fun e2=>aP (g.frm i f e) hr (by decide) e2),g.dis,g.pl,g.box.chg h (fun e=>aP hb1 hr (by decide) e) (fun e=>aP hcr hr (by decide) e) (fun k c hc e=>aP hc hr (by decide) e),g.base⟩
 obtain⟨_,_,c,hc⟩:=GG.own_block ho hk
 exact aP hc hr (by decide) e
theorem df{α:Type}{l:List α}{a b:α}{i:Nat}{x:α}(h:(l ++ [b])[i]?=some x):(l ++ [a])[i]?=some x/\i<l.length∨i=l.length/\x=b:=by
 by_cases hi:i<l.length
 ·rw[List.getElem?_append_left hi] at h
  exact .inl ⟨by rw[List.getElem?_append_left hi];exact h,hi⟩
 ·right
  rw[List.getElem?_append_right (by omega)] at h
  have:i-l.length=0:=by
   have:=(List.getElem?_eq_some_iff.1 h).1
   simp at this
   omega
  rw[this] at h
  exact⟨by omega,(Option.some.inj h).symm⟩
theorem aQ{α:Type}(l:List α)(a:α):(l ++ [a])[l.length]?=some a:=by simp
theorem FrP.move{K:Kst}{mf:Nat}{fs:List FrS}{f:FrS}(h:FrP K mf (fs ++ [f])){bl pl:Nat}(hp:iw K ⟨f.num,bl,pl,f.fb⟩):FrP K mf (fs ++ [⟨f.num,bl,pl,f.fb⟩]):=by
 refine⟨fun x hx=>?_,by simpa using h.few,fun x hx=>?_,fun i x y hx hy=>?_⟩
 ·rcases List.mem_append.1 hx with h1 | h1
  ·exact h.pos x (List.mem_append_left _ h1)
  ·rw[List.mem_singleton.1 h1];exact hp
 ·rcases df (a:=f) hx with⟨h1,_⟩ | ⟨h1,rfl⟩
  ·exact h.first x h1
  ·have:=h.first f (by rw[h1];exact aQ _ _)
   exact this
 ·rcases df (a:=f) hx with⟨h1,h2⟩ | ⟨h1,rfl⟩
  ·rcases df (a:=f) hy with⟨h3,_⟩ | ⟨h3,rfl⟩
   ·exact h.calls i x y h1 h3
   ·have:=h.calls i x f h1 (by rw[h3];exact aQ _ _)
    exact this
  ·have:=(List.getElem?_eq_some_iff.1 hy).1
   simp at this
   omega
theorem Mach.moved{K:Kst}{mf m:Nat}{W0 A B:World}{fs:List FrS}{f:FrS}{st:Int}(g:Mach K mf W0 A (fs ++ [f]) st m){bl pl:Nat}(hp:iw K ⟨f.num,bl,pl,f.fb⟩)(h:Chg (fun b=>b=f.fb) A B)(hb:Below K.B0 A B)(hf2:FrM K B fs.length ⟨f.num,bl,pl,f.fb⟩):Mach K mf W0 B (fs ++ [⟨f.num,bl,pl,f.fb⟩]) st m:=by
 have hf:=g.frm fs.length f (aQ _ _)
 have hfb:=g.base.2.2.2.2 f (by simp)
 obtain⟨frv,hr,ho⟩:=g.run
 obtain⟨ve,es,vs,rows,hb1,ht1,ho1,hm1⟩:=g.box
 have hrb:∃c,A.heap[K.rb]?=some (.cells c 49 (0,0)):=by obtain⟨c,hc,_⟩:=ht1.tab;exact⟨c,hc⟩
 obtain⟨cr,hcr⟩:=hrb
 have hp':ptrs (fs ++ [⟨f.num,bl,pl,f.fb⟩])=ptrs (fs ++ [f]):=by simp [ptrs]
 refine⟨g.core.chg h hb (fw hf ⟨lj,fun e=>absurd e (by decide)⟩),⟨frv,h.rest _ _ hr (fun e=>aP hr hf (by decide) e) (aO (by decide)),?_⟩,fun i x hx=>?_,fun i j x y hx hy e=>?_,g.pl.move hp,g.box.chg h (fun e=>aP hb1 hf (by decide) e) (fun e=>aP hcr hf (by decide) e) (fun k c hc e=>aP hc hf (by decide) e),⟨g.base.1,g.base.2.1,g.base.2.2.1,g.base.2.2.2.1,fun x hx=>?_⟩⟩
 ·rw[hp']
  have:=h.own (by decide) ho (fun k hk e=>by obtain⟨_,_,c,hc⟩:=GG.own_block ho hk;exact aP hc hf (by decide) e)
  simpa using this
 ·rcases df (a:=f) hx with⟨h3,h4⟩ | ⟨h3,rfl⟩
  ·refine(g.frm i x h3).chg h (fun e=>?_)
   have:=g.dis i fs.length x f h3 (aQ _ _) e
   omega
  ·subst h3;exact hf2
 ·rcases df (a:=f) hx with⟨h3,h4⟩ | ⟨h3,rfl⟩ <;> rcases df (a:=f) hy with⟨h5,h6⟩ | ⟨h5,rfl⟩
  ·exact g.dis i j x y h3 h5 e
  ·have:=g.dis i fs.length x f h3 (aQ _ _) e;omega
  ·have:=g.dis fs.length j f y (aQ _ _) h5 e;omega
  ·omega
 ·rcases List.mem_append.1 hx with h1 | h1
  ·exact g.base.2.2.2.2 x (List.mem_append_left _ h1)
  ·rw[List.mem_singleton.1 h1];exact hfb
theorem Mach.goto{K:Kst}{mf m:Nat}{W0 A:World}{fs:List FrS}{f:FrS}{st:Int}(g:Mach K mf W0 A (fs ++ [f]) st m){bl pl:Nat}(hp:iw K ⟨f.num,bl,pl,f.fb⟩):Mach K mf W0 ((A.setCell ⟨f.fb,3,none⟩ (.int .i64 bl)).setCell ⟨f.fb,4,none⟩ (.int .i64 pl)) (fs ++ [⟨f.num,bl,pl,f.fb⟩]) st m:=by
 have hf:=g.frm fs.length f (aQ _ _)
 have hfb:=g.base.2.2.2.2 f (by simp)
 have h1:=Chg.set (c:=3) hf (aO (by decide)) (.int .i64 bl)
 have hf1:=set_obj (c:=3) (.int .i64 bl) hf
 have h2:=Chg.set (c:=4) hf1 (aO (by decide)) (.int .i64 pl)
 exact g.moved hp (h1.trans h2) (((Below.refl _ _).setCell (p:=⟨f.fb,3,none⟩) hfb _).setCell (p:=⟨f.fb,4,none⟩) hfb _) (set_obj (c:=4) (.int .i64 pl) hf1)
theorem Mach.place{K:Kst}{mf m:Nat}{W0 A:World}{fs:List FrS}{f:FrS}{st:Int}(g:Mach K mf W0 A (fs ++ [f]) st m){pl:Nat}(hp:iw K ⟨f.num,f.bl,pl,f.fb⟩):Mach K mf W0 (A.setCell ⟨f.fb,4,none⟩ (.int .i64 pl)) (fs ++ [⟨f.num,f.bl,pl,f.fb⟩]) st m:=by
 have hf:=g.frm fs.length f (aQ _ _)
 have hfb:=g.base.2.2.2.2 f (by simp)
 exact g.moved hp (Chg.set (c:=4) hf (aO (by decide)) (.int .i64 pl)) ((Below.refl _ _).setCell (p:=⟨f.fb,4,none⟩) hfb _) (set_obj (c:=4) (.int .i64 pl) hf)
end
section
open Go.RowKit
open CD (OpP BodyP CodeP ae blAt fnAt)
theorem FrP.push{K:Kst}{mf:Nat}{fs:List FrS}{f:FrS}(h:FrP K mf fs)(hp:iw K f)(hd:fs.length<K.D)(h0:fs=[]->f.num=mf)(hc:∀g,fs[fs.length-1]?=some g->fQ K g f.num):FrP K mf (fs ++ [f]):=by
 refine⟨fun x hx=>?_,by simp;omega,fun x hx=>?_,fun i x y hx hy=>?_⟩
 ·rcases List.mem_append.1 hx with h1 | h1
  ·exact h.pos x h1
  ·rw[List.mem_singleton.1 h1];exact hp
 ·cases fs with
  | nil=>simp at hx;subst hx;exact h0 rfl
  | cons z l=>exact h.first x (by simpa using hx)
 ·by_cases hi:i+1<fs.length
  ·rw[List.getElem?_append_left (by omega)] at hx
   rw[List.getElem?_append_left hi] at hy
   exact h.calls i x y hx hy
  ·have hl:=(List.getElem?_eq_some_iff.1 hy).1
   simp at hl
   have e:i+1=fs.length:=by omega
   rw[e,aQ] at hy
   cases hy
   rw[List.getElem?_append_left (by omega)] at hx
   exact hc x (by rw[<-e];exact hx)
theorem FrP.pop{K:Kst}{mf:Nat}{fs:List FrS}{f:FrS}(h:FrP K mf (fs ++ [f])):FrP K mf fs:=by
 refine⟨fun x hx=>h.pos x (List.mem_append_left _ hx),?_,fun x hx=>h.first x ?_,fun i x y hx hy=>h.calls i x y ?_ ?_⟩
 ·have:=h.few;simp at this;omega
 ·rw[List.getElem?_append_left (List.getElem?_eq_some_iff.1 hx).1];exact hx
 ·rw[List.getElem?_append_left (List.getElem?_eq_some_iff.1 hx).1];exact hx
 ·rw[List.getElem?_append_left (List.getElem?_eq_some_iff.1 hy).1];exact hy
theorem own_cut{W:World}{B e n m g cap:Nat}{xs ys:List Value}(h:W.ownsRow B e 1 (.slice (some ⟨g,0,none⟩) n cap) n (xs ++ ys))(hm:xs.length=m)(hmn:m<=n):W.ownsRow B e 1 (.slice (some ⟨g,0,none⟩) m cap) m xs:=by
 rcases h.2 with⟨h0,_⟩ | ⟨g',cap',cur,h0,hbase,hgb,r1,r2,r3,r4⟩
 ·cases h0
 ·cases h0
  refine⟨by rw[hm,Nat.mul_one],.inr ⟨g,cap,cur,rfl,hbase,hgb,by omega,r2,r3,?_⟩⟩
  have h1:cur.toList.take (n*1)=xs ++ ys:=r4
  have h2:cur.toList.take m=(cur.toList.take (n*1)).take m:=by rw[List.take_take,Nat.min_eq_left (by omega)]
  rw[Nat.mul_one,h2,h1,<-hm,List.take_left]
theorem Mach.refr{K:Kst}{mf m:Nat}{W0 A B:World}{fs gs:List FrS}{st:Int}{frv v':Value}(g:Mach K mf W0 A fs st m)(hr:RunM K B frv st)(hc:Chg (fun _=>False) A B∨∃k c,A.heap[k]?=some (.cells c 122 (0,0))/\Chg (fun b=>b=k) A B)(hb:Below K.B0 A B)
 (ho:B.ownsRow K.B0 122 1 v' gs.length (ptrs gs)) (hf:∀(i:Nat) (f:FrS),gs[i]?=some f->FrM K B i f) (hd:∀(i j:Nat) (f g:FrS),gs[i]?=some f->gs[j]?=some g->f.fb=g.fb->i=j) (hp:FrP K mf gs) (hbs:∀f,f∈gs->K.B0<=f.fb) :
 Mach K mf W0 (B.setCell ⟨K.Rb,3,none⟩ v') gs st m:=by
 have g2:Core K W0 B/\BoxI K B m:=by
  rcases hc with hc | ⟨k,c,hk,hc⟩
  ·exact⟨g.core.chg hc hb (fun _ _ _ _ _ e=>e),g.box.chg hc (fun e=>e) (fun e=>e) (fun _ _ _ e=>e)⟩
  ·obtain⟨ve,es,vs,rows,hb1,ht1,ho1,hm1⟩:=g.box
   have hrb:∃c,A.heap[K.rb]?=some (.cells c 49 (0,0)):=by obtain⟨c,hc,_⟩:=ht1.tab;exact⟨c,hc⟩
   obtain⟨cr,hcr⟩:=hrb
   exact⟨g.core.chg hc hb (fw hk ⟨nZ,fun e=>absurd e (by decide)⟩),g.box.chg hc (fun e=>aP hb1 hk (by decide) e) (fun e=>aP hcr hk (by decide) e) (fun k c hc e=>aP hc hk (by decide) e)⟩
 obtain⟨ve,es,vs,rows,hb1,ht1,ho1,hm1⟩:=g2.2
 have hrb:∃c,B.heap[K.rb]?=some (.cells c 49 (0,0)):=by obtain⟨c,hc,_⟩:=ht1.tab;exact⟨c,hc⟩
 obtain⟨cr,hcr⟩:=hrb
 have h:=Chg.set (c:=3) hr (aO (by decide)) v'
 have hb2:Below K.B0 B (B.setCell ⟨K.Rb,3,none⟩ v'):=(Below.refl _ _).setCell (p:=⟨K.Rb,3,none⟩) g.base.1 _
 refine⟨g2.1.chg h hb2 (fw hr ⟨jj,fun e=>absurd e (by decide)⟩),⟨v',set_obj (c:=3) v' hr,h.own (by decide) ho (fun k hk e=>?_)⟩,fun i f e=>(hf i f e).chg h (fun e2=>aP (hf i f e) hr (by decide) e2),hd,hp,g2.2.chg h (fun e=>aP hb1 hr (by decide) e) (fun e=>aP hcr hr (by decide) e) (fun k c hc e=>aP hc hr (by decide) e),⟨g.base.1,g.base.2.1,g.base.2.2.1,g.base.2.2.2.1,hbs⟩⟩
 obtain⟨_,_,c,hc⟩:=GG.own_block ho hk
 exact aP hc hr (by decide) e
theorem Mach.pop{K:Kst}{mf m:Nat}{W0 A:World}{fs:List FrS}{f:FrS}{st:Int}{g1 cap:Nat}(g:Mach K mf W0 A (fs ++ [f]) st m)(hr:RunM K A (.slice (some ⟨g1,0,none⟩) (fs.length+1) cap) st)(ho:A.ownsRow K.B0 122 1 (.slice (some ⟨g1,0,none⟩) (fs.length+1) cap) (fs.length+1) (ptrs (fs ++ [f]))) :
 Mach K mf W0 (A.setCell ⟨K.Rb,3,none⟩ (.slice (some ⟨g1,0,none⟩) fs.length cap)) fs st m:=by
 have hl:∀(i:Nat) (x:FrS),fs[i]?=some x->(fs ++ [f])[i]?=some x:=fun i x hx=>by rw[List.getElem?_append_left (List.getElem?_eq_some_iff.1 hx).1];exact hx
 refine g.refr hr (.inl (Chg.refl _ _)) (Below.refl _ _) (own_cut (xs:=ptrs fs) (ys:=ptrs [f]) (by rw[show ptrs fs ++ ptrs [f]=ptrs (fs ++ [f]) by simp [ptrs]];exact ho) (ptrs_len _) (by omega)) (fun i x hx=>g.frm i x (hl i x hx)) (fun i j x y hx hy e=>g.dis i j x y (hl i x hx) (hl j y hy) e) g.pl.pop (fun x hx=>g.base.2.2.2.2 x (List.mem_append_left _ hx))
theorem Mach.push{K:Kst}{mf m:Nat}{W0 A B:World}{fs:List FrS}{f:FrS}{st:Int}{frv v':Value}{o:Obj}(g:Mach K mf W0 A fs st m)(hF:FrM K A fs.length f)(hfb:K.B0<=f.fb)(hnew:∀x,x∈fs->x.fb≠f.fb)(hr:RunM K A frv st)(hO:A.ownsRow K.B0 122 1 frv fs.length (ptrs fs))
 (ho:B.ownsRow K.B0 122 1 v' (fs.length+1) (ptrs fs ++ [.pointer (some ⟨f.fb,0,none⟩)])) (hg:(A.alloc o).grownBy B frv.ownBlock) (hp:FrP K mf (fs ++ [f])):Mach K mf W0 (B.setCell ⟨K.Rb,3,none⟩ v') (fs ++ [f]) st m:=by
 have hs:K.B0<=A.heap.size:=by have:=g.base.1;have:=(Array.getElem?_eq_some_iff.1 hr).1;omega
 have h0:Chg (fun _=>False) A (A.alloc o):=Chg.alloc A o
 have hc:Chg (fun b=>frv.ownBlock=some b) A B:=(h0.wide (fun _ e=>e.elim)).trans (Chg.grown (hO.alloc o) (by decide) hg)
 have hb:Below K.B0 A B:=((Below.refl _ _).alloc hs o).grown hg (by simp;omega) (fun k e=>(hO.lt k e).1)
 have hk:∀b,frv.ownBlock=some b->∃c,A.heap[b]?=some (.cells c 122 (0,0)):=fun b e=>(GG.own_block hO e).2.2
 have hc2:Chg (fun _=>False) A B∨∃k c,A.heap[k]?=some (.cells c 122 (0,0))/\Chg (fun b=>b=k) A B:=by
  cases e:frv.ownBlock with
  | none=>exact .inl (hc.wide (fun b hb=>by rw[e] at hb;cases hb))
  | some k =>
    obtain⟨c,hkc⟩:=hk k e
    exact .inr ⟨k,c,hkc,hc.wide (fun b hb=>by rw[e] at hb;exact(Option.some.inj hb).symm)⟩
 have hfr:∀(i:Nat) (x:FrS),(fs ++ [f])[i]?=some x->FrM K A i x:=fun i x hx=>by
  rcases df (a:=f) hx with⟨h3,h4⟩ | ⟨h3,rfl⟩
  ·rw[List.getElem?_append_left h4] at hx;exact g.frm i x hx
  ·subst h3;exact hF
 refine g.refr (frv:=frv) (hc.rest _ _ hr (fun e=>by obtain⟨c,hkc⟩:=hk _ e;exact aP hr hkc (by decide) rfl) (aO (by decide))) hc2 hb (by rw[show ptrs (fs ++ [f])=ptrs fs ++ [.pointer (some ⟨f.fb,0,none⟩)] by simp [ptrs],show (fs ++ [f]).length=fs.length+1 by simp];exact ho) (fun i x hx=>(hfr i x hx).chg hc (fun e=>by obtain⟨c,hkc⟩:=hk _ e;exact aP (hfr i x hx) hkc (by decide) rfl)) (fun i j x y hx hy e=>?_) hp (fun x hx=>?_)
 ·rcases df (a:=f) hx with⟨h3,h4⟩ | ⟨h3,h4⟩ <;> rcases df (a:=f) hy with⟨h5,h6⟩ | ⟨h5,h6⟩
  ·rw[List.getElem?_append_left h4] at hx
   rw[List.getElem?_append_left h6] at hy
   exact g.dis i j x y hx hy e
  ·rw[List.getElem?_append_left h4] at hx
   exact absurd (e.trans (by rw[h6])) (hnew x (List.mem_of_getElem? hx))
  ·rw[List.getElem?_append_left h6] at hy
   exact absurd (e.symm.trans (by rw[h4])) (hnew y (List.mem_of_getElem? hy))
  ·omega
 ·rcases List.mem_append.1 hx with h1 | h1
  ·exact g.base.2.2.2.2 x h1
  ·rw[List.mem_singleton.1 h1];exact hfb
theorem Mach.took{K:Kst}{mf m:Nat}{W0 A B:World}{fs:List FrS}{st:Int}{ve:Value}{es:List Ev}{rows rows':Nat->List Int}{vs vs':Nat->Value}(g:Mach K mf W0 A fs st m)(ht:TabQ K.B0 A K.rb K.ni vs rows)(ho:A.ownsRow K.B0 231 5 ve es.length (aY es))(hm:es.length<=m)(hg:A.grownBy B (some K.rb))(hb:BoxB B K.kb K.rb K.ni K.no K.nl ve)(ht':TabQ K.B0 B K.rb K.ni vs' rows'):Mach K mf W0 B fs st m:=by
 obtain⟨c,hc,_⟩:=ht.tab
 have h:Chg (fun b=>b=K.rb) A B:=Chg.but hg.os hg.tape hg.output hg.size (fun b hb hne=>hg.block b hb (fun e=>hne (Option.some.inj e))) (fun o e=>by rw[hc] at e;cases e;exact aO (by decide))
 have hbl:Below K.B0 A B:=⟨hg.os,hg.tape,hg.output,hg.size,fun k hk=>hg.block k (by
  have:=(Array.getElem?_eq_some_iff.1 hc).1;have:=g.base.2.2.2.1;omega) (fun e=>by have:=Option.some.inj e;have:=g.base.2.2.2.1;omega)⟩
 obtain⟨frv,hr,hO⟩:=g.run
 refine⟨g.core.chg h hbl (fw hc ⟨lU,fun _=>g.base.2.2.1⟩),⟨frv,h.rest _ _ hr (fun e=>aP hr hc (by decide) e) (aO (by decide)),h.own (by decide) hO (fun k hk e=>by obtain⟨_,_,c',hc'⟩:=GG.own_block hO hk;exact aP hc' hc (by decide) e)⟩,fun i f e=>(g.frm i f e).chg h (fun e2=>aP (g.frm i f e) hc (by decide) e2),g.dis,g.pl,⟨ve,es,vs',rows',hb,ht',h.own (by decide) ho (fun k hk e=>by obtain⟨_,_,c',hc'⟩:=GG.own_block ho hk;exact aP hc' hc (by decide) e),hm⟩,g.base⟩
end
section
open Go.RowKit
open CD (OpP BodyP CodeP ae blAt fnAt)
theorem Tryz.infoIRow:(Tryz.prog.info? 49).map (fun i=>(i.zero,i.size,i.bytes))=some (some (.slice none 0 0),1,24):=by kernel_rfl
theorem fx(B:Nat)(w:World)(n:Nat)(hB:B<=w.heap.size):NumV B (w.alloc (.cells (madeCells #[.int .i64 0] n) 2)) (.slice (some ⟨w.heap.size,0,none⟩) n n) n:=by
 have hr:=World.rowIs_made w (.int .i64 0) n 2
 obtain⟨c,hc,hs,hz⟩:=hr
 exact⟨_,c,rfl,hB,hc,hs,fun j hj=>⟨0,hz j hj⟩⟩
def ix(B:Nat)(W:World)(v:Value)(ls:List Nat)(rs:Nat->Value):Prop:=W.ownsRow B 49 1 v ls.length (tabV ls.length rs)/\∀i,i<ls.length->NumV B W (rs i) (ls[i]?.getD 0)
def upd(rs:Nat->Value)(n:Nat)(v:Value)(i:Nat):Value:=if i=n then v else rs i
theorem hZ(n:Nat)(rs:Nat->Value)(v:Value):tabV (n+1) (upd rs n v)=tabV n rs ++ [v]:=by
 unfold tabV
 rw[List.range_succ,List.map_append]
 congr 1
 ·apply List.map_congr_left
  intro i hi
  have:=List.mem_range.1 hi
  simp [upd]
  omega
 ·simp [upd]
set_option maxRecDepth 100000 in
set_option maxHeartbeats 1600000 in
theorem rooms_any(D n:Nat)(hD:D<=1000)(hn:n<=100000)(W:World) :
 Calls Tryz.prog 28 #[.int .i64 D,.int .i64 n] W fun e w'=>∃v rs,e=.returned v/\ix W.heap.size w' v (List.replicate D n) rs/\Below W.heap.size W w':=by
 obtain⟨i0,hi0,hz0,hz1,hz2⟩:=info_parts Tryz.infoIRow
 have hmk:=run_make_row' (P:=Tryz.prog) 49 2 (.int .i64 0) 8 (by kernel_rfl) Tryz.infoQInt rfl .i64 .i64 n (by omega) (by omega)
 go_enter Tryz.func28,Tryz.ntmps28
 go_wp2_with fail
 go_loopw [5,7] (fun s5 s7 wr=>∃(i:Nat) (rs:Nat->Value),i<=D/\s7=.int .i64 (i:Int)/\RowKit.Hid (ix W.heap.size wr s5 (List.replicate i n) rs/\Below W.heap.size W wr)) (fun _ s7 _=>D-(intOf s7).toNat)
 case atStart=>exact⟨0,fun _=>.slice none 0 0,Nat.zero_le _,rfl,zH ⟨⟨World.ownsRow_nil _ _ _ _,fun i hi=>absurd hi (Nat.not_lt_zero _)⟩,Below.refl _ _⟩⟩
 case round =>
  obtain⟨w5,rfl⟩:∃w5,w5=wr:=⟨_,rfl⟩
  obtain⟨i,rs,hin,rfl,HO⟩:=hrel
  have ho5:=HO.out.1.1
  rw[List.length_replicate] at ho5
  obtain⟨oa,oc,rfl⟩:=GG.ap ho5
  have HO5:=zH ho5
  clear ho5
  by_cases hlt:i<D
  ·have HLT:=zH hlt
   obtain⟨w6,ew6⟩:∃w6,w6=w5.alloc (.cells (madeCells #[.int .i64 0] n) 2):=⟨_,rfl⟩
   have hm6:=hmk w5
   rw[<-ew6] at hm6
   have HN6:=zH (show NumV W.heap.size w6 (.slice (some ⟨w5.heap.size,0,none⟩) n n) n by rw[ew6];exact fx _ w5 n HO.out.2.size)
   have HB6:=zH (show Below w5.heap.size w5 w6 by rw[ew6];exact(Below.refl _ _).alloc (Nat.le_refl _) _)
   have HO6:=zH (own_of_block HO5.out (fun k e=>HB6.out.block k (HO5.out.lt k e).2))
   have HS:=zH (Nat.le_trans HO.out.2.size HB6.out.size)
   clear hmk ew6
   go_wp2_with
    (at_builtin
     refine GG.wpList_append_any rfl _ _ 46 rfl W.heap.size 49 i0 (.slice none 0 0) 1 24 Tryz.underlying46 hi0 hz0 hz1 hz2 rfl (by decide) (.slice oa i oc) i (tabV i rs) rfl (HO6.out.alloc _) (.slice (some ⟨_,0,none⟩) 1 1) 1 [.slice (some ⟨w5.heap.size,0,none⟩) n n] rfl rfl (.inr ⟨_,_,rfl,GG.aW _ _ _⟩) (by intro u hu;rw[List.mem_singleton.1 hu];rfl) (by unfold maxLen;omega) (by omega) (by have:=HS.out;simp;omega) ?_
     intro v1 w7 ho hg7
     have HC:=zH (show Chg (fun b=>(Value.slice oa i oc).ownBlock=some b) w6 w7 from((Chg.alloc (X:=fun b=>(Value.slice oa i oc).ownBlock=some b) w6 _).trans (Chg.grown (HO6.out.alloc _) (by decide) hg7)))
     have HN:=zH (show w7.ownsRow W.heap.size 49 1 v1 (i+1) (tabV (i+1) (upd rs i (.slice (some ⟨w5.heap.size,0,none⟩) n n)))/\Below W.heap.size W w7 from⟨by rw[hZ];exact ho,((HO.out.2.trans (HB6.out.mono HO.out.2.size)).alloc HS.out _).grown hg7 (by have:=HS.out;simp;omega) (fun k e=>(HO6.out.lt k e).1)⟩)
     clear ho hg7)
   go_roundw
   case rel =>
    refine⟨i+1,_,HLT.out,by go_num,zH ⟨⟨by rw[List.length_replicate];exact HN.out.1,fun k hk=>?_⟩,HN.out.2⟩⟩
    rw[List.length_replicate] at hk
    have e1:(List.replicate (i+1) n)[k]?.getD 0=n:=by rw[List.getElem?_replicate,if_pos hk];rfl
    rw[e1]
    unfold upd
    split
    ·exact HN6.out.chg HC.out
    ·have hk2:k<i:=by omega
     have h1:=HO.out.1.2 k (by rw[List.length_replicate];exact hk2)
     rw[List.getElem?_replicate,if_pos hk2] at h1
     exact(NumV.chg (X:=fun _=>False) (Chg.of_below HB6.out) h1).chg HC.out
   case measure=>have:=HLT.out;simp [intOf];omega
  ·have ei:i=D:=by omega
   subst ei
   clear hlt
   go_wp2_with fail
   go_ret
   exact⟨_,rs,rfl,HO.out.1,HO.out.2⟩
set_option maxRecDepth 100000 in
set_option maxHeartbeats 3200000 in
theorem jK(l:List (Int × Int))(hl:l.length<=1000)(hs:∀i,i<l.length->0<=(l[i]?.getD (0,0)).1/\(l[i]?.getD (0,0)).1<=1000000)(a:Option Addr)(n cap:Nat)(W:World)(hv:bK W.heap.size W (.slice a n cap) l) :
 Calls Tryz.prog 27 #[.slice a n cap] W fun e w'=>∃v rs,e=.returned v/\ix W.heap.size w' v (l.map fun p=>p.1.toNat) rs/\Below W.heap.size W w':=by
 obtain⟨i0,hi0,hz0,hz1,hz2⟩:=info_parts Tryz.infoIRow
 obtain⟨a',cap',ev⟩:=hv.form
 cases ev
 have HV:=zH hv
 have HL:=zH hs
 clear hv hs
 go_enter Tryz.func27,Tryz.ntmps27
 go_wp2_with fail
 go_loopw [3,8] (fun s5 s7 wr=>∃(i:Nat) (rs:Nat->Value),i<=l.length/\s7=.int .i64 (i:Int)/\RowKit.Hid (ix W.heap.size wr s5 ((l.take i).map fun p=>p.1.toNat) rs/\Below W.heap.size W wr)) (fun _ s7 _=>l.length-(intOf s7).toNat)
 case atStart=>exact⟨0,fun _=>.slice none 0 0,Nat.zero_le _,rfl,zH ⟨⟨World.ownsRow_nil _ _ _ _,fun i hi=>absurd hi (Nat.not_lt_zero _)⟩,Below.refl _ _⟩⟩
 case round =>
  obtain⟨w4,rfl⟩:∃w4,w4=wr:=⟨_,rfl⟩
  obtain⟨i,rs,hin,rfl,HO⟩:=hrel
  have hlen:((l.take i).map fun p=>p.1.toNat).length=i:=by rw[List.length_map,List.length_take];omega
  have ho5:=HO.out.1.1
  rw[hlen] at ho5
  obtain⟨oa,oc,rfl⟩:=GG.ap ho5
  have HO5:=zH ho5
  have HLN:=zH hlen
  clear ho5 hlen
  by_cases hlt:i<l.length
  ·have HLT:=zH hlt
   obtain⟨blk,off,ea,hblk,h0,h1⟩:=(HV.out.below HO.out.2).at hlt
   subst ea
   obtain⟨z0,z1⟩:=HL.out i hlt
   obtain⟨s,es⟩:∃s:Nat,(l[i]?.getD (0,0)).1=(s:Int):=⟨((l[i]?.getD (0,0)).1).toNat,by omega⟩
   have ES:=zH es
   rw[es] at h0 z0 z1
   have HZ:=zH z1
   generalize (l[i]?.getD (0,0)).2=lv at h1
   have i1:(0:Int)<=i/\(i:Int)<l.length:=by omega
   clear es z0 z1 hin
   go_upto_region 5 with fail
   obtain⟨w5,ew5⟩:∃w5,w5=w4.alloc (.cells #[.int .i64 s,.int .i64 lv] 119):=⟨_,rfl⟩
   rw[<-ew5]
   have HB5:=zH (show Below w4.heap.size w4 w5 by rw[ew5];exact(Below.refl _ _).alloc (Nat.le_refl _) _)
   have hx5:w5.heap[w4.heap.size]?=some (.cells #[.int .i64 s,.int .i64 lv] 119):=by rw[ew5];exact heap_alloc_new _ _
   have c0:=cell_of_row _ _ 0 _ _ _ hx5
   obtain⟨w6,ew6⟩:∃w6,w6=w5.alloc (.cells (madeCells #[.int .i64 0] s) 2):=⟨_,rfl⟩
   have hm6:=run_make_row' (P:=Tryz.prog) 49 2 (.int .i64 0) 8 (by kernel_rfl) Tryz.infoQInt rfl .i64 .i64 s (by have:=HZ.out;omega) (by have:=HZ.out;omega) w5
   rw[<-ew6] at hm6
   have hS5:W.heap.size<=w5.heap.size:=Nat.le_trans HO.out.2.size HB5.out.size
   have HN6:=zH (show NumV W.heap.size w6 (.slice (some ⟨w5.heap.size,0,none⟩) s s) s by rw[ew6];exact fx _ w5 s hS5)
   have HB6:=zH (show Below w4.heap.size w4 w6 by rw[ew6];exact HB5.out.alloc HB5.out.size _)
   have HO6:=zH (own_of_block HO5.out (fun k e=>HB6.out.block k (HO5.out.lt k e).2))
   have HS:=zH (Nat.le_trans HO.out.2.size HB6.out.size)
   clear ew6 ew5 hx5 h0 h1 hS5
   go_wp2_with
    (at_builtin
     refine GG.wpList_append_any rfl _ _ 46 rfl W.heap.size 49 i0 (.slice none 0 0) 1 24 Tryz.underlying46 hi0 hz0 hz1 hz2 rfl (by decide) (.slice oa i oc) i (tabV i rs) rfl (HO6.out.alloc _) (.slice (some ⟨_,0,none⟩) 1 1) 1 [.slice (some ⟨w5.heap.size,0,none⟩) s s] rfl rfl (.inr ⟨_,_,rfl,GG.aW _ _ _⟩) (by intro u hu;rw[List.mem_singleton.1 hu];rfl) (by unfold maxLen;have:=HLT.out;omega) (by have:=HLT.out;omega) (by have:=HS.out;simp;omega) ?_
     intro v1 w7 ho hg7
     have HC:=zH (show Chg (fun b=>(Value.slice oa i oc).ownBlock=some b) w6 w7 from((Chg.alloc (X:=fun b=>(Value.slice oa i oc).ownBlock=some b) w6 _).trans (Chg.grown (HO6.out.alloc _) (by decide) hg7)))
     have HN:=zH (show w7.ownsRow W.heap.size 49 1 v1 (i+1) (tabV (i+1) (upd rs i (.slice (some ⟨w5.heap.size,0,none⟩) s s)))/\Below W.heap.size W w7 from⟨by rw[hZ];exact ho,((HO.out.2.trans (HB6.out.mono HO.out.2.size)).alloc HS.out _).grown hg7 (by have:=HS.out;simp;omega) (fun k e=>(HO6.out.lt k e).1)⟩)
     clear ho hg7)
   go_roundw
   case rel =>
    have hl1:((l.take (i+1)).map fun p=>p.1.toNat).length=i+1:=by have:=HLT.out;rw[List.length_map,List.length_take];omega
    refine⟨i+1,_,HLT.out,by go_num,zH ⟨⟨by rw[hl1];exact HN.out.1,fun k hk=>?_⟩,HN.out.2⟩⟩
    rw[hl1] at hk
    have e1:((l.take (i+1)).map fun p=>p.1.toNat)[k]?.getD 0=(l[k]?.getD (0,0)).1.toNat:=by
     have hkl:k<l.length:=by have:=HLT.out;omega
     rw[List.getElem?_map,List.getElem?_take_of_lt hk,List.getElem?_eq_getElem hkl]
     rfl
    rw[e1]
    unfold upd
    split
    ·next e =>
     subst e
     rw[ES.out]
     exact HN6.out.chg HC.out
    ·have hk2:k<i:=by omega
     have h1:=HO.out.1.2 k (by rw[HLN.out];exact hk2)
     have e2:((l.take i).map fun p=>p.1.toNat)[k]?.getD 0=(l[k]?.getD (0,0)).1.toNat:=by
      have hkl:k<l.length:=by have:=HLT.out;omega
      rw[List.getElem?_map,List.getElem?_take_of_lt hk2,List.getElem?_eq_getElem hkl]
      rfl
     rw[e2] at h1
     exact(NumV.chg (X:=fun _=>False) (Chg.of_below HB6.out) h1).chg HC.out
   case measure=>have:=HLT.out;simp [intOf];omega
  ·have ei:i=l.length:=by omega
   subst ei
   clear hlt
   go_wp2_with fail
   go_ret
   refine⟨_,rs,rfl,?_,HO.out.2⟩
   have:=HO.out.1
   rw[List.take_length] at this
   exact this
end
section
open Go.RowKit
open CD (OpP BodyP CodeP ae blAt fnAt)
set_option maxRecDepth 100000 in
set_option maxHeartbeats 1600000 in
theorem rx(c:CodeP)(av fv:Value)(W:World)(hv:CodeF W.heap.size W av fv c)(hl:c.fs.length<=1000)(B:Nat)(hb:∀i,i<c.fs.length->(fnAt c i).va<=B) :
 Calls Tryz.prog 25 #[.agg #[av,fv,.int .i64 c.mn0]] W fun e w'=>∃M:Nat,e=.returned (.int .i64 M)/\M<=B/\(∀i,i<c.fs.length->(fnAt c i).va<=M)/\Below W.heap.size W w':=by
 obtain⟨aa,ac,rfl⟩:=hv.1.form
 obtain⟨fa,fc,rfl⟩:=hv.2.form
 obtain⟨W0,eW0⟩:∃W0,W0=W.alloc (.cells #[.slice aa c.ar.length ac,.slice fa c.fs.length fc,.int .i64 c.mn0] 30):=⟨_,rfl⟩
 have hx0:W0.heap[W.heap.size]?=some (.cells #[.slice aa c.ar.length ac,.slice fa c.fs.length fc,.int .i64 c.mn0] 30):=by rw[eW0];exact heap_alloc_new _ _
 have HB0:=zH (show Below W.heap.size W W0 by rw[eW0];exact(Below.refl _ _).alloc (Nat.le_refl _) _)
 have HV:=zH hv.2
 have HBD:=zH hb
 have EW:=zH eW0
 have c1:=cell_of_row _ _ 1 _ _ _ hx0
 clear hv hb eW0 hx0
 go_enter Tryz.func25,Tryz.ntmps25
 go_wp2_with fail
 rw[<-EW.out]
 go_loopw [3,9] (fun s3 s9 wr=>∃(i M:Nat),i<=c.fs.length/\s3=.int .i64 (M:Int)/\s9=.int .i64 (i:Int)/\RowKit.Hid (M<=B/\(∀j,j<i->(fnAt c j).va<=M)/\Below W.heap.size W wr)) (fun _ s9 _=>c.fs.length-(intOf s9).toNat)
 case atStart=>exact⟨0,0,Nat.zero_le _,rfl,rfl,zH ⟨Nat.zero_le _,fun j hj=>absurd hj (Nat.not_lt_zero _),HB0.out⟩⟩
 case round =>
  obtain⟨w4,rfl⟩:∃w4,w4=wr:=⟨_,rfl⟩
  obtain⟨i,M,hin,rfl,rfl,HO⟩:=hrel
  by_cases hlt:i<c.fs.length
  ·have HLT:=zH hlt
   obtain⟨blk,off,ba,bc,ea,hblk,h0,h1,h2,_⟩:=(HV.out.below HO.out.2.2).at hlt
   subst ea
   have hvb:=HBD.out i hlt
   have HVB:=zH hvb
   have HVE:=zH (show (c.fs[i]?.getD CD.b0).va=(fnAt c i).va from rfl)
   have i1:(0:Int)<=i/\(i:Int)<c.fs.length:=by omega
   rw[HVE.out] at h1
   generalize (c.fs[i]?.getD CD.b0).pa=pa at h0
   generalize (c.fs[i]?.getD CD.b0).bs.length=bn at h2
   clear hvb hin
   go_upto_region 5 with fail
   obtain⟨w5,ew5⟩:∃w5,w5=w4.alloc (.cells #[.int .i64 pa,.int .i64 (fnAt c i).va,.slice ba bn bc] 52):=⟨_,rfl⟩
   rw[<-ew5]
   have HB5:=zH (show Below w4.heap.size w4 w5 by rw[ew5];exact(Below.refl _ _).alloc (Nat.le_refl _) _)
   have hx5:w5.heap[w4.heap.size]?=some (.cells #[.int .i64 pa,.int .i64 (fnAt c i).va,.slice ba bn bc] 52):=by rw[ew5];exact heap_alloc_new _ _
   have c9:=cell_of_row _ _ 1 _ _ _ hx5
   have HB6:=zH (HO.out.2.2.trans (HB5.out.mono HO.out.2.2.size))
   clear ew5 hx5 h0 h1 h2
   go_wp2_with fail
   have hvb:=HVB.out
   have hM:=HO.out.1
   obtain⟨M',hM'⟩:∃M':Nat,max (M:Int) (fnAt c i).va=(M':Int):=⟨(max (M:Int) (fnAt c i).va).toNat,by omega⟩
   refine⟨⟨i+1,M',HLT.out,by rw[hM'],by go_num,zH ⟨by omega,fun j hj=>?_,HB6.out⟩⟩,by have:=HLT.out;simp [intOf];omega⟩
   by_cases e:j=i
   ·subst e;omega
   ·have:=HO.out.2.1 j (by omega);omega
  ·have ei:i=c.fs.length:=by omega
   subst ei
   clear hlt
   go_wp2_with fail
   go_ret
   exact⟨M,rfl,HO.out.1,HO.out.2.1,HO.out.2.2⟩
end
section
open Go.RowKit
open CD (OpP BodyP CodeP ae blAt fnAt)
def CodeS(c:CodeP):Prop:=c.fs.length<=1000/\∀i,i<c.fs.length->(fnAt c i).bs.length<=1000/\∀k,k<(fnAt c i).bs.length->(blAt (fnAt c i) k).length<=100000
set_option maxRecDepth 100000 in
set_option maxHeartbeats 3200000 in
theorem ry(c:CodeP)(av fv:Value)(W:World)(hv:CodeF W.heap.size W av fv c)(hl:CodeS c) :
 Calls Tryz.prog 23 #[.agg #[av,fv,.int .i64 c.mn0]] W fun e w'=>∃z:Bool,e=.returned (.bool z)/\Below W.heap.size W w':=by
 obtain⟨aa,ac,rfl⟩:=hv.1.form
 obtain⟨fa,fc,rfl⟩:=hv.2.form
 obtain⟨W0,eW0⟩:∃W0,W0=W.alloc (.cells #[.slice aa c.ar.length ac,.slice fa c.fs.length fc,.int .i64 c.mn0] 30):=⟨_,rfl⟩
 have hx0:W0.heap[W.heap.size]?=some (.cells #[.slice aa c.ar.length ac,.slice fa c.fs.length fc,.int .i64 c.mn0] 30):=by rw[eW0];exact heap_alloc_new _ _
 have HB0:=zH (show Below W.heap.size W W0 by rw[eW0];exact(Below.refl _ _).alloc (Nat.le_refl _) _)
 have HV:=zH hv.2
 have HL:=zH hl
 have hl1:=hl.1
 have EW:=zH eW0
 have c1:=cell_of_row _ _ 1 _ _ _ hx0
 clear hv hl eW0 hx0
 go_enter Tryz.func23,Tryz.ntmps23
 go_wp2_with fail
 rw[<-EW.out]
 go_loopw [12] (fun s9 wr=>∃i:Nat,i<=c.fs.length/\s9=.int .i64 (i:Int)/\RowKit.Hid (Below W.heap.size W wr)) (fun s9 _=>c.fs.length-(intOf s9).toNat)
 case atStart=>exact⟨0,Nat.zero_le _,rfl,zH HB0.out⟩
 case round =>
  obtain⟨w4,rfl⟩:∃w4,w4=wr:=⟨_,rfl⟩
  obtain⟨i,hin,rfl,HO⟩:=hrel
  by_cases hlt:i<c.fs.length
  ·have HLT:=zH hlt
   obtain⟨blk,off,ba,bc,ea,hblk,h0,h1,h2,h3⟩:=(HV.out.below HO.out).at hlt
   subst ea
   have i1:(0:Int)<=i/\(i:Int)<c.fs.length:=by omega
   have HFB:=zH (show (fnAt c i).bs.length<=1000 from(HL.out.2 i hlt).1)
   have HFL:=zH (show ∀k,k<(fnAt c i).bs.length->(blAt (fnAt c i) k).length<=100000 from(HL.out.2 i hlt).2)
   change aX W.heap.size w4 (.slice ba (fnAt c i).bs.length bc) (fnAt c i).bs at h3
   change w4.cell? _=some (.slice ba (fnAt c i).bs.length bc) at h2
   have HBL:=zH h3
   generalize (c.fs[i]?.getD CD.b0).pa=pa at h0
   generalize (c.fs[i]?.getD CD.b0).va=va at h1
   clear hin h3
   go_upto_region 4 with fail
   obtain⟨w5,ew5⟩:∃w5,w5=w4.alloc (.cells #[.int .i64 pa,.int .i64 va,.slice ba (fnAt c i).bs.length bc] 52):=⟨_,rfl⟩
   rw[<-ew5]
   have HB5:=zH (show Below w4.heap.size w4 w5 by rw[ew5];exact(Below.refl _ _).alloc (Nat.le_refl _) _)
   have hx5:w5.heap[w4.heap.size]?=some (.cells #[.int .i64 pa,.int .i64 va,.slice ba (fnAt c i).bs.length bc] 52):=by rw[ew5];exact heap_alloc_new _ _
   have c9:=cell_of_row _ _ 2 _ _ _ hx5
   have HB6:=zH (show Below W.heap.size w4 w5 from HB5.out.mono HO.out.size)
   clear ew5 hx5 h0 h1 h2
   go_wp2_with fail
   go_loopw [19] (fun s9 wr=>∃k:Nat,k<=(fnAt c i).bs.length/\s9=.int .i64 (k:Int)/\RowKit.Hid (Below W.heap.size w4 wr)) (fun s9 _=>(fnAt c i).bs.length-(intOf s9).toNat)
   case atStart=>exact⟨0,Nat.zero_le _,rfl,zH HB6.out⟩
   case round =>
    obtain⟨w6,rfl⟩:∃w6,w6=wr:=⟨_,rfl⟩
    obtain⟨k,hkn,rfl,HK⟩:=hrel
    have hfb:=HFB.out
    by_cases hkl:k<(fnAt c i).bs.length
    ·have HKL:=zH hkl
     obtain⟨b2,off2,a2,c2,eb,hb2,hc2,ho2⟩:=(HBL.out.below HK.out).at hkl
     subst eb
     have i2:(0:Int)<=k/\(k:Int)<(fnAt c i).bs.length:=by omega
     have HLL:=zH (show (blAt (fnAt c i) k).length<=100000 from HFL.out k hkl)
     change w6.cell? _=some (.slice a2 (blAt (fnAt c i) k).length c2) at hc2
     have HOP:=zH (show OpsF W.heap.size w6 (.slice a2 (blAt (fnAt c i) k).length c2) (blAt (fnAt c i) k) from ho2)
     clear ho2 hkn
     go_wp2_with fail
     go_loopw [25] (fun s9 wr=>∃j:Nat,j<=(blAt (fnAt c i) k).length/\s9=.int .i64 (j:Int)/\RowKit.Hid (Below W.heap.size w6 wr)) (fun s9 _=>(blAt (fnAt c i) k).length-(intOf s9).toNat)
     case atStart=>exact⟨0,Nat.zero_le _,rfl,zH (Below.refl _ _)⟩
     case round =>
      obtain⟨w7,rfl⟩:∃w7,w7=wr:=⟨_,rfl⟩
      obtain⟨j,hjn,rfl,HJ⟩:=hrel
      have hll:=HLL.out
      by_cases hjl:j<(blAt (fnAt c i) k).length
      ·have HJL:=zH hjl
       obtain⟨b3,off3,xa,xc,ya,yc,eo,hb3,ho3,_,_⟩:=(HOP.out.below HJ.out).at hjl
       subst eo
       have i3:(0:Int)<=j/\(j:Int)<(blAt (fnAt c i) k).length:=by omega
       obtain⟨p,ep⟩:∃p,p=ae (blAt (fnAt c i) k) j:=⟨_,rfl⟩
       rw[<-ep] at ho3
       have k0:w7.cell? ⟨b3,off3+j*9,none⟩=some (.int .u8 p.k):=ho3 0 _ rfl
       have k1:w7.cell? ⟨b3,off3+j*9+1,none⟩=some (.int .u8 p.o):=ho3 1 _ rfl
       have k2:w7.cell? ⟨b3,off3+j*9+2,none⟩=some (.int .i64 p.d):=ho3 2 _ rfl
       have k3:w7.cell? ⟨b3,off3+j*9+3,none⟩=some (.int .i64 p.r):=ho3 3 _ rfl
       have k4:w7.cell? ⟨b3,off3+j*9+4,none⟩=some (.int .i64 p.a):=ho3 4 _ rfl
       have k5:w7.cell? ⟨b3,off3+j*9+5,none⟩=some (.slice xa p.xs.length xc):=ho3 5 _ rfl
       have k6:w7.cell? ⟨b3,off3+j*9+6,none⟩=some (.slice ya p.ys.length yc):=ho3 6 _ rfl
       have k7:w7.cell? ⟨b3,off3+j*9+7,none⟩=some (.int .i64 p.n):=ho3 7 _ rfl
       have k8:w7.cell? ⟨b3,off3+j*9+8,none⟩=some (.int .i64 p.t):=ho3 8 _ rfl
       clear ho3 ep hjn
       go_upto_region 10 with fail
       obtain⟨w8,ew8⟩:∃w8,w8=w7.alloc (.cells #[.int .u8 p.k,.int .u8 p.o,.int .i64 p.d,.int .i64 p.r,.int .i64 p.a,.slice xa p.xs.length xc,.slice ya p.ys.length yc,.int .i64 p.n,.int .i64 p.t] 56):=⟨_,rfl⟩
       rw[<-ew8]
       have HB8:=zH (show Below w7.heap.size w7 w8 by rw[ew8];exact(Below.refl _ _).alloc (Nat.le_refl _) _)
       have hx8:w8.heap[w7.heap.size]?=some (.cells #[.int .u8 p.k,.int .u8 p.o,.int .i64 p.d,.int .i64 p.r,.int .i64 p.a,.slice xa p.xs.length xc,.slice ya p.ys.length yc,.int .i64 p.n,.int .i64 p.t] 56):=by rw[ew8];exact heap_alloc_new _ _
       have x8:=cell_of_row _ _ 8 _ _ _ hx8
       have HB9:=zH (HJ.out.trans (HB8.out.mono (Nat.le_trans (Nat.le_trans HO.out.size HK.out.size) HJ.out.size)))
       clear ew8 hx8 k0 k1 k2 k3 k4 k5 k6 k7 k8
       by_cases ht:p.t<0
       ·have t1:decide (p.t<0)=true:=decide_eq_true ht
        have HT:=zH ht
        clear ht
        go_wp2_with fail
        go_ret
        exact⟨_,rfl,(HO.out.trans HK.out).trans HB9.out⟩
       ·have t1:decide (p.t<0)=false:=decide_eq_false ht
        have HT:=zH ht
        clear ht
        go_wp2_with fail
        go_roundw
        case rel=>exact⟨j+1,HJL.out,by go_num,HB9⟩
        case measure=>have:=HJL.out;simp [intOf];omega
      ·have ei:j=(blAt (fnAt c i) k).length:=by omega
       subst ei
       clear hjl
       go_wp2_with fail
       go_roundw
       case rel=>exact⟨k+1,HKL.out,by go_num,zH (HK.out.trans HJ.out)⟩
       case measure=>have:=HKL.out;simp [intOf];omega
    ·have ei:k=(fnAt c i).bs.length:=by omega
     subst ei
     clear hkl
     go_wp2_with fail
     go_roundw
     case rel=>exact⟨i+1,HLT.out,by go_num,zH (HO.out.trans HK.out)⟩
     case measure=>have:=HLT.out;simp [intOf];omega
  ·have ei:i=c.fs.length:=by omega
   subst ei
   clear hlt
   go_wp2_with fail
   go_ret
   exact⟨_,rfl,HO.out⟩
end
end Go.Proofs.YtjngffgkllakaaaGreatDoor.IP
namespace Go.Proofs.YtjngffgkllakaaaGreatDoor.TM
open List renaming getElem_toArray → zA, getElem_cons_succ → zB, getElem_cons_zero → zC, setIfInBounds_toArray → zD, set_cons_zero → zE, set_cons_succ → zF
open Lib renaming hid → zH
section
open Go.Lib
end
end Go.Proofs.YtjngffgkllakaaaGreatDoor.TM
namespace Go.Proofs.YtjngffgkllakaaaGreatDoor
open List renaming getElem_toArray → zA, getElem_cons_succ → zB, getElem_cons_zero → zC, setIfInBounds_toArray → zD, set_cons_zero → zE, set_cons_succ → zF
open Lib renaming hid → zH
section
open Go.RowKit
def byteAt(s:ByteArray)(i:Nat):Int:=((s.get! i).toNat:Int)
end
section
open Go.RowKit
def wd(s:ByteArray)(k:Nat):Nat:=(Utf8.decode s k).2
def rn(s:ByteArray)(k:Nat):Nat:=(Utf8.decode s k).1
theorem oe(s:ByteArray)(k:Nat):1<=wd s k:=Lib.width_pos s k
def poss(s:ByteArray):Nat->Nat->List Nat
 | 0,_=>[]
 | fuel+1,pos=>if pos<s.size then pos :: poss s fuel (pos+wd s pos) else []
def allP(s:ByteArray):List Nat:=poss s s.size 0
theorem pG(s:ByteArray)(fuel pos:Nat)(h:¬pos<s.size):poss s fuel pos=[]:=by cases fuel <;> simp [poss,h]
theorem mI(s:ByteArray)(fuel pos:Nat)(h:pos<s.size)(hf:s.size<=pos+fuel):∃f',fuel=f'+1/\poss s fuel pos=pos :: poss s f' (pos+wd s pos)/\s.size<=pos+wd s pos+f':=by
 cases fuel with
 | zero=>omega
 | succ f=>exact⟨f,rfl,by simp [poss,h],by have:=oe s pos;omega⟩
def gD(s:ByteArray)(pre:List Nat)(pos:Nat):Prop:=(∃fuel,s.size<=pos+fuel/\allP s=pre ++ poss s fuel pos)/\pre.length<=pos/\(pre=[]↔pos=0)/\∀p∈pre,p<pos
theorem gD.start(s:ByteArray):gD s [] 0:=⟨⟨s.size,by omega,rfl⟩,Nat.le_refl _,by simp,by simp⟩
theorem gD.next{s:ByteArray}{pre:List Nat}{pos:Nat}(h:gD s pre pos)(hlt:pos<s.size):gD s (pre ++ [pos]) (pos+wd s pos):=by
 obtain⟨⟨fuel,hf,e⟩,hl,h0,hp⟩:=h
 obtain⟨f',rfl,e2,hf'⟩:=mI s fuel pos hlt hf
 have:=oe s pos
 refine⟨⟨f',hf',by rw[e,e2];simp⟩,by simp;omega,?_,?_⟩
 ·constructor
  ·intro h;simp at h
  ·intro h;omega
 ·intro p hm
  rcases List.mem_append.1 hm with hm | hm
  ·have:=hp p hm;omega
  ·simp at hm;omega
theorem gD.stop{s:ByteArray}{pre:List Nat}{pos:Nat}(h:gD s pre pos)(hge:¬pos<s.size):allP s=pre:=by
 obtain⟨⟨fuel,_,e⟩,_⟩:=h
 rw[e,pG s fuel pos hge,List.append_nil]
theorem gD.mem{s:ByteArray}{pre:List Nat}{pos:Nat}(h:gD s pre pos)(hlt:pos<s.size):∃t,allP s=pre ++ pos :: t:=by
 obtain⟨⟨fuel,hf,e⟩,_⟩:=h
 obtain⟨f',rfl,e2,_⟩:=mI s fuel pos hlt hf
 exact⟨_,by rw[e,e2]⟩
end
section
open Go.RowKit
end
section
open Go.RowKit
end
section
open Go.RowKit
end
section
open Go.RowKit
end
section
open Go.RowKit
def inB(f t r:Int):Bool:=decide (f<=r) && decide (r<=t)
def co(r:Int):Bool:=inB 97 122 r || inB 65 90 r || (r == 95) || inB 945 969 r || (inB 913 937 r && r != 930)
def digitB(r:Int):Bool:=inB 48 57 r
set_option maxHeartbeats 400000 in
theorem cG(r:Int)(w:World) :
 Calls Tryz.prog 226 #[.int .i32 r] w fun e w'=>e=.returned (.func (.func 232) #[] #[.pointer (some ⟨w.heap.size,0,none⟩)])/\w'=w.alloc (.cells #[.int .i32 r] 21):=by
 go_enter Tryz.func226,Tryz.ntmps226
 go_wp2
 go_ret
 exact⟨rfl,rfl⟩
set_option maxHeartbeats 400000 in
theorem iI(f t r:Int)(B:Nat)(w:World)(hc:w.cell? ⟨B,0,none⟩=some (.int .i32 r)) :
 Calls Tryz.prog 232 #[.int .i32 f,.int .i32 t,.pointer (some ⟨B,0,none⟩)] w fun e w'=>e=.returned (.bool (inB f t r))/\w=w':=by
 by_cases h:f<=r
 ·have hv:=zH (show decide (r<=t)=inB f t r by unfold inB;rw[decide_eq_true h,Bool.true_and])
  go_enter Tryz.func232,Tryz.ntmps232
  go_wp2
  go_ret
  exact⟨af hv.out,rfl⟩
 ·have hv:=zH (show false=inB f t r by unfold inB;rw[decide_eq_false h,Bool.false_and])
  have h:r<f:=by omega
  go_enter Tryz.func232,Tryz.ntmps232
  go_wp2
  go_ret
  exact⟨af hv.out,rfl⟩
theorem pH(W:World)(v:Value)(t:TypeId):(W.alloc (.cells #[v] t)).cell? ⟨W.heap.size,0,none⟩=some v:=by
 rw[World.cell?_alloc_at _ _ _ _ rfl];rfl
theorem mJ(W:World)(o:Obj):Below W.heap.size W (W.alloc o):=(Below.refl _ _).alloc (Nat.le_refl _) _
set_option maxHeartbeats 800000 in
theorem dw(r:Int)(w:World) :
 Calls Tryz.prog 203 #[.int .i32 r] w fun e w'=>e=.returned (.bool (co r))/\Below w.heap.size w w':=by
 have hcell:=pH w (.int .i32 r) 21
 have hB:=mJ w (.cells #[.int .i32 r] 21)
 cases c1:inB 97 122 r
 ·cases c2:inB 65 90 r
  ·cases c3:(r == 95)
   ·cases c4:inB 945 969 r
    ·cases c5:inB 913 937 r
     ·have hv:=zH (show co r=false by unfold co;rw[c1,c2,c3,c4,c5];rfl)
      go_enter Tryz.func203,Tryz.ntmps203
      go_wp2_with (first | (go_at_call 226;refine(cG _ _).mono ?_;rintro e w' ⟨rfl,rfl⟩) | (go_at_call 232;refine(iI _ _ _ _ _ hcell).mono ?_;rintro e w' ⟨rfl,rfl⟩))
      go_ret
      exact⟨af hv.out.symm,hB⟩
     ·have hv:=zH (show co r=(r != 930) by unfold co;rw[c1,c2,c3,c4,c5];rfl)
      go_enter Tryz.func203,Tryz.ntmps203
      go_wp2_with (first | (go_at_call 226;refine(cG _ _).mono ?_;rintro e w' ⟨rfl,rfl⟩) | (go_at_call 232;refine(iI _ _ _ _ _ hcell).mono ?_;rintro e w' ⟨rfl,rfl⟩))
      go_ret
      exact⟨af hv.out.symm,hB⟩
    ·have hv:=zH (show co r=true by unfold co;rw[c1,c2,c3,c4];rfl)
     go_enter Tryz.func203,Tryz.ntmps203
     go_wp2_with (first | (go_at_call 226;refine(cG _ _).mono ?_;rintro e w' ⟨rfl,rfl⟩) | (go_at_call 232;refine(iI _ _ _ _ _ hcell).mono ?_;rintro e w' ⟨rfl,rfl⟩))
     go_ret
     exact⟨af hv.out.symm,hB⟩
   ·have hv:=zH (show co r=true by unfold co;rw[c1,c2,c3];rfl)
    go_enter Tryz.func203,Tryz.ntmps203
    go_wp2_with (first | (go_at_call 226;refine(cG _ _).mono ?_;rintro e w' ⟨rfl,rfl⟩) | (go_at_call 232;refine(iI _ _ _ _ _ hcell).mono ?_;rintro e w' ⟨rfl,rfl⟩))
    go_ret
    exact⟨af hv.out.symm,hB⟩
  ·have hv:=zH (show co r=true by unfold co;rw[c1,c2];rfl)
   go_enter Tryz.func203,Tryz.ntmps203
   go_wp2_with (first | (go_at_call 226;refine(cG _ _).mono ?_;rintro e w' ⟨rfl,rfl⟩) | (go_at_call 232;refine(iI _ _ _ _ _ hcell).mono ?_;rintro e w' ⟨rfl,rfl⟩))
   go_ret
   exact⟨af hv.out.symm,hB⟩
 ·have hv:=zH (show co r=true by unfold co;rw[c1];rfl)
  go_enter Tryz.func203,Tryz.ntmps203
  go_wp2_with (first | (go_at_call 226;refine(cG _ _).mono ?_;rintro e w' ⟨rfl,rfl⟩) | (go_at_call 232;refine(iI _ _ _ _ _ hcell).mono ?_;rintro e w' ⟨rfl,rfl⟩))
  go_ret
  exact⟨af hv.out.symm,hB⟩
set_option maxHeartbeats 400000 in
theorem jL(r:Int)(w:World) :
 Calls Tryz.prog 204 #[.int .i32 r] w fun e w'=>e=.returned (.bool (digitB r))/\Below w.heap.size w w':=by
 have hcell:=pH w (.int .i32 r) 21
 have hB:=mJ w (.cells #[.int .i32 r] 21)
 go_enter Tryz.func204,Tryz.ntmps204
 go_wp2_with (first | (go_at_call 226;refine(cG _ _).mono ?_;rintro e w' ⟨rfl,rfl⟩) | (go_at_call 232;refine(iI _ _ _ _ _ hcell).mono ?_;rintro e w' ⟨rfl,rfl⟩))
 go_ret
 exact⟨rfl,hB⟩
end
section
open Go.RowKit
def okB(s:ByteArray)(p:Nat):Bool:=co (rn s p) || (p != 0 && digitB (rn s p))
def fy(s:ByteArray):Bool:=decide (0<(allP s).length) && decide ((allP s).length<=24) && (allP s).all (okB s)
theorem pI(s:ByteArray)(h:s.size=0):fy s=false:=by
 have:allP s=[]:=pG s _ _ (by omega)
 unfold fy;rw[this];rfl
theorem rz(s:ByteArray)(h:24<(allP s).length):fy s=false:=by
 unfold fy;rw[decide_eq_false (show ¬(allP s).length<=24 by omega)];simp
theorem nameB_no(s:ByteArray)(pre t:List Nat)(pos:Nat)(e:allP s=pre ++ pos :: t)(h:okB s pos=false):fy s=false:=by
 unfold fy;rw[e,List.all_append];simp [h]
theorem nameB_yes(s:ByteArray)(pre:List Nat)(e:allP s=pre)(h0:0<pre.length)(h1:pre.length<=24)(h:∀p∈pre,okB s p=true):fy s=true:=by
 unfold fy;rw[e,decide_eq_true h0,decide_eq_true h1];simpa using h
end
section
open Go.RowKit
def nl(s:ByteArray):Nat->Nat
 | 0=>0
 | k+1=>nl s k+if byteAt s k=10 then 1 else 0
def below(s:ByteArray)(at':Nat):List Nat:=(allP s).takeWhile (fun p=>decide (p<at'))
end
section
open Go.RowKit
theorem rA{P:Program}(wr:World)(B:Nat)(s:ByteArray)(pos:Nat)(ty:TypeId)(hit:wr.heap[B]?=some (.stringIter s pos))(h:pos<s.size) :
 ∃W1,(Instr.next (.pointer (some ⟨B,0,none⟩)) true ty).run P wr=.ok (.tuple #[.bool true,.int .i64 pos,.int .i32 (rn s pos)]) W1/\W1.heap[B]?=some (.stringIter s (pos+wd s pos))/\Below B wr W1/\W1.heap.size=wr.heap.size :=
 ⟨_,Lib.run_next_any_at wr B s pos ty hit h,Lib.iterAt_heap wr B s pos _ hit,Lib.below_iterAt (Below.refl _ _) (Nat.le_refl _) _ _,Lib.iterAt_size _ _ _ _⟩
theorem iJ{w:World}{B:Nat}{s:ByteArray}{pos:Nat}(h:w.heap[B]?=some (.stringIter s pos)):w.iterPos B=pos:=by
 simp [World.iterPos,h]
theorem rB(w:World)(s:ByteArray):(w.iter s 0).heap[w.heap.size]?=some (.stringIter s 0)/\Below w.heap.size w (w.iter s 0):=⟨World.iter_heap w s 0,(Below.refl _ w).alloc (Nat.le_refl _) _⟩
theorem jM{W W':World}{B:Nat}{o:Obj}(h:W.heap[B]?=some o)(hb:Below W.heap.size W W'):W'.heap[B]?=some o :=
 (hb.block B (Array.getElem?_eq_some_iff.1 h).1).trans h
def NameRel(s:ByteArray)(w:World)(c:Value)(wr:World):Prop :=
 ∃(pre:List Nat) (pos:Nat),c=.int .i64 pre.length/\wr.heap[w.heap.size]?=some (.stringIter s pos)/\Below w.heap.size w wr/\gD s pre pos/\pre.length<=24/\∀p∈pre,okB s p=true
set_option maxHeartbeats 800000 in
theorem pJ(s:ByteArray)(w:World)(hs:s.size<=562949953421312) :
 Calls Tryz.prog 173 #[.string s] w fun e w'=>e=.returned (.bool (fy s))/\Below w.heap.size w w':=by
 have h0:=rB w s
 go_enter Tryz.func173,Tryz.ntmps173
 go_wp2_with fail
 go_loopw [3] (fun c wr=>NameRel s w c wr) (fun _ wr=>s.size-wr.iterPos w.heap.size)
 case atStart=>exact⟨[],0,rfl,h0.1,h0.2,gD.start s,by simp,by simp⟩
 case round =>
  clear h0
  obtain⟨pre,pos,rfl,hit,hB,hst,hl,hok⟩:=hrel
  have HS:=zH hst
  have HO:=zH hok
  have hpp:=hst.2.2.1
  clear hst hok
  by_cases hlt:pos<s.size
  ·obtain⟨W1,hnx,hit1,hb1,hz1⟩:=rA (P:=Tryz.prog) wr w.heap.size s pos 0 hit hlt
   have hB1:Below w.heap.size w W1:=hB.trans hb1
   have hmeas:=zH (iJ hit)
   obtain⟨t,ht⟩:=HS.out.mem hlt
   have HN:=zH (HS.out.next hlt)
   have HT:=zH ht
   clear ht hit hb1 hz1
   have HNO:=zH (fun h=>nameB_no s pre t pos HT.out h)
   have HP2:=zH (show okB s pos=true->∀p∈pre ++ [pos],okB s p=true by
    intro ho p hm;rcases List.mem_append.1 hm with hm | hm
    ·exact HO.out p hm
    ·simp at hm;subst hm;exact ho)
   have HL:=zH (show 24<=pre.length->fy s=false by
    intro h;apply rz;rw[HT.out];simp;omega)
   cases hl1:co (rn s pos)
   ·by_cases hz0:pos=0
    ·have HV:=zH (HNO.out (by unfold okB;rw[hl1,hz0];simp))
     have hp0:((pre.length:Int) == 0)=true:=by rw[beq_iff_eq,hpp.2 hz0];rfl
     clear hz0 hpp
     go_wp2_with fail
     refine(dw _ _).mono ?_
     rintro e w2 ⟨rfl,hb2⟩
     rw[hl1]
     go_wp2_with fail
     go_ret
     exact⟨af HV.out.symm,hB1.trans (hb2.mono hB1.size)⟩
    ·have hp0:((pre.length:Int) == 0)=false:=by
      rw[beq_eq_false_iff_ne];intro h;exact hz0 (hpp.1 (List.length_eq_zero_iff.1 (by omega)))
     clear hpp
     cases hd:digitB (rn s pos)
     ·have HV:=zH (HNO.out (by unfold okB;rw[hl1,hd];simp))
      clear hz0
      go_wp2_with fail
      refine(dw _ _).mono ?_
      rintro e w2 ⟨rfl,hb2⟩
      rw[hl1]
      go_wp2_with fail
      refine(jL _ _).mono ?_
      rintro e w3 ⟨rfl,hb3⟩
      rw[hd]
      go_wp2_with fail
      go_ret
      exact⟨af HV.out.symm,(hB1.trans (hb2.mono hB1.size)).trans (hb3.mono (Nat.le_trans hB1.size hb2.size))⟩
     ·have HK:=zH (HP2.out (by unfold okB;rw[hd];simp [hz0]))
      clear hz0
      by_cases h24:pre.length<24
      ·go_wp2_with fail
       refine(dw _ _).mono ?_
       rintro e w2 ⟨rfl,hb2⟩
       rw[hl1]
       have hit2:=jM hit1 hb2
       have hB2:=hB1.trans (hb2.mono hB1.size)
       clear hit1 hB1 hb2
       go_wp2_with fail
       refine(jL _ _).mono ?_
       rintro e w3 ⟨rfl,hb3⟩
       rw[hd]
       have hit3:=jM hit2 hb3
       have hB3:=hB2.trans (hb3.mono hB2.size)
       clear hit2 hB2 hb3
       go_wp2_with fail
       go_roundw
       case rel=>exact⟨pre ++ [pos],pos+wd s pos,by rw[List.length_append];go_num,hit3,hB3,HN.out,by simp;omega,HK.out⟩
       case measure=>rw[iJ hit3,hmeas.out];have:=oe s pos;omega
      ·have HV:=zH (HL.out (by omega))
       have h25:(24:Int)<(pre.length:Int)+1:=by omega
       go_wp2_with fail
       refine(dw _ _).mono ?_
       rintro e w2 ⟨rfl,hb2⟩
       rw[hl1]
       go_wp2_with fail
       refine(jL _ _).mono ?_
       rintro e w3 ⟨rfl,hb3⟩
       rw[hd]
       go_wp2_with fail
       go_ret
       exact⟨af HV.out.symm,(hB1.trans (hb2.mono hB1.size)).trans (hb3.mono (Nat.le_trans hB1.size hb2.size))⟩
   ·have HK:=zH (HP2.out (by unfold okB;rw[hl1];simp))
    clear hpp
    by_cases h24:pre.length<24
    ·go_wp2_with fail
     refine(dw _ _).mono ?_
     rintro e w2 ⟨rfl,hb2⟩
     rw[hl1]
     have hit2:=jM hit1 hb2
     have hB2:=hB1.trans (hb2.mono hB1.size)
     clear hit1 hB1 hb2
     go_wp2_with fail
     go_roundw
     case rel=>exact⟨pre ++ [pos],pos+wd s pos,by rw[List.length_append];go_num,hit2,hB2,HN.out,by simp;omega,HK.out⟩
     case measure=>rw[iJ hit2,hmeas.out];have:=oe s pos;omega
    ·have HV:=zH (HL.out (by omega))
     have h25:(24:Int)<(pre.length:Int)+1:=by omega
     go_wp2_with fail
     refine(dw _ _).mono ?_
     rintro e w2 ⟨rfl,hb2⟩
     rw[hl1]
     go_wp2_with fail
     go_ret
     exact⟨af HV.out.symm,hB1.trans (hb2.mono hB1.size)⟩
  ·have hnx:=Lib.run_next_end_at (P:=Tryz.prog) wr w.heap.size s pos 0 hit hlt
   have he:=HS.out.stop hlt
   have HV:Hid (decide (0<(pre.length:Int))=fy s):=by
    by_cases hp:0<pre.length
    ·rw[nameB_yes s pre he hp hl HO.out];exact zH (by simp;omega)
    ·have:pre=[]:=List.length_eq_zero_iff.1 (by omega)
     have hz:s.size=0:=by have:=hpp.1 this;omega
     rw[pI s hz];exact zH (by simp;omega)
   clear he hpp
   go_wp2_with fail
   go_ret
   exact⟨af (by have:=HV.out;simpa using this),hB⟩
end
end Go.Proofs.YtjngffgkllakaaaGreatDoor
