/- A part of a proof: laws that the last text uses. -/
import Derived.Test.YtjngffgkllakaaaGreatDoorY02
import Derived.Test.YtjngffgkllakaaaGreatDoorY04
import Derived.Lib.SlicesCompact
set_option linter.unusedSimpArgs false
set_option linter.unusedVariables false
namespace Go.Proofs.YtjngffgkllakaaaGreatDoor
open List renaming getElem_toArray → zA, getElem_cons_succ → zB, getElem_cons_zero → zC, setIfInBounds_toArray → zD, set_cons_zero → zE, set_cons_succ → zF
open Lib renaming hid → zH
section
open Go.RowKit Go.Shelf
open CD (OpP BodyP CodeP ae blAt fnAt)
attribute [local go_sem] Oper.semAt_some
section
variable {F:Fence} {n:Nat} {P:Program} {C:World->Prop}
theorem gA{id:Nat}{Q:Exit->Act->World->Prop}{a:Act}{w:World}{l:List Oper}(hC:C w.drew)(hnd:l.all fM=true)(hm:P.follows .mixedOrders=true)(hB:Region.lexB .any l.toArray=true)
 (h:wpQuietIn F n P l.toArray C (fun a'=>∀w',C w'->Q .normal a' w') l a):(Code.region id l.toArray true).wpIn F n P Q a w:=by
 simp only[Region.lexB,Bool.and_eq_true] at hB
 refine wpIn_region_any hm (jH (C:=C) (fun i o ho=>?_) (Q:=fun a'=>∀w',C w'->Q .normal a' w') (fun _ w' hw' h=>h w' hw') _ _ _ _ hC ?_)
 ·rw[List.all_eq_true] at hnd
  exact hnd o (List.mem_of_getElem? (by simpa using ho))
 ·have:=wpAnyQIn_lex (F:=F) (n:=n) (C:=C) (md:=.any) hB.1 l 0 (Array.replicate l.length false) a (by simp) (by simpa using hB.2) h
  simpa using this
theorem grow_take{ops:Array Oper}{Q:Act->Prop}{o:Oper}{rest:List Oper}{a:Act}(v:Value)(ha:o.askedIn F P a C)(hw:Region.wanted o (yielded ops a.tmps)=true)(hv:∀w,C w->o.quietAtIn F n P a C w v)(h:wpQuietIn F n P ops C Q rest (a.put o.dst v)):wpQuietIn F n P ops C Q (o :: rest) a :=
 Go.BigFrame.wpQuietIn_want ha hw fun K hK=>⟨v,hv,hK _ h⟩
theorem gkT{ops:Array Oper}{Q:Act->Prop}{o:Oper}{rest:List Oper}{a:Act}(v:Value)(hv:∀w,C w->o.quietAtIn F n P a C w v)(h:wpQuietIn F n P ops C Q rest (a.put o.dst v))(ha:o.askedIn F P a C:=by exact Go.BigFrame.askedIn_plain (fun _ h=>nomatch h))(hw:Region.wanted o (yielded ops a.tmps)=true:=by rfl):wpQuietIn F n P ops C Q (o :: rest) a :=
 grow_take v ha hw hv h
end
theorem cell_ltS{W:World}{a:Addr}{v:Value}(h:W.cell? a=some v):a.block<W.heap.size:=by
 rcases Nat.lt_or_ge a.block W.heap.size with h1 | h1
 ·exact h1
 ·simp [World.cell?,Array.getElem?_eq_none h1] at h
theorem bq{A B:World}(h:Below A.heap.size A B)(N:Nat):KeepsFrom N A B:=⟨h.size,fun k o _ hk _=>(h.block k (Array.getElem?_eq_some_iff.1 hk).1).trans hk⟩
def my(b:BodyP)(f:Nat->Int)(back over:List (List Int))(y:Nat × Nat):Prop :=
 ((ae (blAt b y.1) y.2).k=3->de (ae (blAt b y.1) y.2).ys=back[y.1]?.getD []) /\
   ∀j,j<(ae (blAt b y.1) y.2).xs.length->cJ b f over ((ae (blAt b y.1) y.2).xs[j]?.getD 0).toNat (aH b (ae (blAt b y.1) y.2) j y.1 y.2).1.toNat (aH b (ae (blAt b y.1) y.2) j y.1 y.2).2=true
structure MisI (ls:List (List OpV)) (m Fb:Nat) (R:Nat × Nat->Prop) (pre:List (It ls)) (W:World):Prop where
 z:m+4<=W.heap.size
 f:Boxed W m 162 (.pointer (some ⟨Fb,0,none⟩))
 a:Boxed W (m+1) 3 (.int .i64 0)
 e:Boxed W (m+1+1) 33 (.int .i64 0)
 h:∀y∈pre.map (·.1),R y
theorem MisI.kept{ls:List (List OpV)}{m Fb:Nat}{R:Nat × Nat->Prop}{pre:List (It ls)}{X Y:World}{row:Option Nat}(h:MisI ls m Fb R pre X)(hg:X.grownBy Y row)(hr:∀r,row=some r->∃o,X.heap[r]?=some o/\o.isCells=false):MisI ls m Fb R pre Y :=
 ⟨Nat.le_trans h.z hg.size,dr h.f hg hr,dr h.a hg hr,dr h.e hg hr,h.h⟩
theorem MisI.alloc{ls:List (List OpV)}{m Fb:Nat}{R:Nat × Nat->Prop}{pre:List (It ls)}{X:World}(h:MisI ls m Fb R pre X)(o:Obj):MisI ls m Fb R pre (X.alloc o) :=
 ⟨by rw[World.size_alloc];have:=h.z;omega,heap_alloc h.f o,heap_alloc h.a o,heap_alloc h.e o,h.h⟩
theorem MisI.below{ls:List (List OpV)}{m Fb N:Nat}{R:Nat × Nat->Prop}{pre:List (It ls)}{X Y:World}(h:MisI ls m Fb R pre X)(hb:Below N X Y)(hN:m+3<=N):MisI ls m Fb R pre Y :=
 ⟨Nat.le_trans h.z hb.size,(hb.block _ (by omega)).trans h.f,(hb.block _ (by omega)).trans h.a,(hb.block _ (by omega)).trans h.e,h.h⟩
theorem pv{q:CD.Cnt}{c:CodeP}{b:BodyP}{x:OpP}{nx:Int}(h:CD.OpOk q c b x nx)(h6:∀r,CD.paAt c r<=4096):x.xs.length<=4096:=by
 have h1:=h.2.2.2.2.2.1
 unfold CD.aJ at h1
 split at h1
 ·omega
 ·split at h1
  ·have:=h6 x.r
   omega
  ·have:CD.argN x.k<=2:=by unfold CD.argN;split <;> (try split) <;> omega
   omega
theorem mz{q:CD.Cnt}{c:CodeP}{b:BodyP}{x:OpP}{nx k:Int}{i j:Nat}(h:CD.OpOk q c b x nx)(hj:j<x.xs.length)(hi:i<b.bs.length):0<=(aH b x j i k).1/\(aH b x j i k).1<(b.bs.length:Nat)/\(x.k=3->j<x.ys.length/\0<=x.ys[j]?.getD 0/\x.ys[j]?.getD 0<(b.bs.length:Nat)):=by
 have h1:=h.2.2.2.2.2.1
 have h2:=h.2.2.2.2.2.2.2
 unfold CD.aJ at h1
 unfold aH
 by_cases h3:x.k=3
 ·rw[if_pos h3] at h1
  have h4:=h2 j (by omega)
  rw[if_pos h3]
  exact⟨h4.1,h4.2,fun _=>⟨by omega,h4⟩⟩
 ·rw[if_neg h3]
  exact⟨by simp,by simp;omega,fun h=>absurd h h3⟩
theorem phi_len{q:CD.Cnt}{c:CodeP}{b:BodyP}{x:OpP}{nx:Int}(h:CD.OpOk q c b x nx)(h3:x.k=3):x.ys.length<=4096:=by
 have h1:=h.2.2.2.2.2.1
 unfold CD.aJ at h1
 rw[if_pos h3] at h1
 omega
set_option maxRecDepth 100000 in
set_option maxHeartbeats 8000000 in
theorem pw{q:CD.Cnt}{c:CodeP}{b:BodyP}(hb:CD.aL q c b)(hk:∀k,k<b.bs.length->(blAt b k).length<=300)(hv:b.va<=400)(hpa:∀r,CD.paAt c r<=4096){n₀ Fb:Nat}{f:Nat->Int}{back over:List (List Int)}{ba:Option Addr}{bc g:Nat}{kv ov:Value}(w:World)(h:FnM n₀ Fb b f back over ba bc g kv ov w)(hn:n₀<=w.heap.size)(hbl:back.length=b.bs.length)(hol:over.length=b.bs.length)(hbr:∀i:Nat,(back[i]?.getD []).length<=4000)(hor:∀i:Nat,(over[i]?.getD []).length<=4000) :
 Calls Tryz.prog 93 #[.pointer (some ⟨Fb,0,none⟩)] w fun e w'=>(∃(at':Int) (k:Nat),e=.returned (.tuple #[.int .i64 at',.int .i64 k])/\(k=0↔∀i j,i<b.bs.length->j<(blAt b i).length->my b f back over (i,j)))/\Below w.heap.size w w':=by
 have HFN:=zH h
 have HAR:=zH hpa
 have HBO:=zH hb
 have HK:=zH hk
 obtain⟨ls,hM1,hM2,hM3⟩:=h.bs
 have HS:=zH (same_len hM2 hM3)
 have HM1:=zH hM1
 have HO:=zH (fun(y:Nat × Nat) (hy:ItOk ls y)=>opv_ins hM2 hM3 hy)
 have HM2:=zH hM2
 have HL:=zH hb.1.2
 have HN:=zH hn
 have HBK:=zH (And.intro hbl hbr)
 have HOV:=zH (And.intro hol hor)
 have c0:w.cell? ⟨Fb,0,none⟩=some (.int .i64 b.pa):=cell_of_row _ _ 0 _ _ _ h.box
 have c1:w.cell? ⟨Fb,1,none⟩=some (.int .i64 b.va):=cell_of_row _ _ 1 _ _ _ h.box
 have c2:w.cell? ⟨Fb,2,none⟩=some (.slice ba b.bs.length bc):=cell_of_row _ _ 2 _ _ _ h.box
 have hFl:Fb<w.heap.size:=Nat.lt_of_lt_of_le h.lt hn
 clear hM1 hM3 hb hk hbl hbr hol hor h hM2
 obtain⟨R,eR⟩:∃R,R=my b f back over:=⟨_,rfl⟩
 have ER:=zH eR
 clear eR
 refine(callsIn_wide (n:=6)).1 ?_
 refine callsIn_of_wp_marks Tryz.func93 rfl trivial ?_ rfl
 simp only[Tryz.ntmps93,List.size_toArray,List.length_cons,List.length_nil,Nat.reduceAdd,Nat.reduceSub,Array.replicate_succ,Array.replicate_zero,List.push_toArray,List.append_toArray,List.nil_append,List.cons_append]
 refine wpIn_mono (Q:=gU _) ?_ eE
 gi_upto_region 1 with fail
 have hB3:=(((Below.refl w.heap.size w).alloc (Nat.le_refl _) (.cells #[.pointer (some ⟨Fb,0,none⟩)] 162)).alloc (by simp) (.cells #[.int .i64 0] 3)).alloc (by simp;omega) (.cells #[.int .i64 0] 33)
 have hf:=heap_alloc (heap_alloc (heap_alloc_new w (.cells #[.pointer (some ⟨Fb,0,none⟩)] 162)) (.cells #[.int .i64 0] 3)) (.cells #[.int .i64 0] 33)
 have ha:=heap_alloc (heap_alloc_new (w.alloc (.cells #[.pointer (some ⟨Fb,0,none⟩)] 162)) (.cells #[.int .i64 0] 3)) (.cells #[.int .i64 0] 33)
 rw[World.size_alloc] at ha
 have he:=heap_alloc_new ((w.alloc (.cells #[.pointer (some ⟨Fb,0,none⟩)] 162)).alloc (.cells #[.int .i64 0] 3)) (.cells #[.int .i64 0] 33)
 rw[World.size_alloc,World.size_alloc] at he
 have hsz3:(((w.alloc (.cells #[.pointer (some ⟨Fb,0,none⟩)] 162)).alloc (.cells #[.int .i64 0] 3)).alloc (.cells #[.int .i64 0] 33)).heap.size=w.heap.size+3:=by simp
 generalize ((w.alloc (.cells #[.pointer (some ⟨Fb,0,none⟩)] 162)).alloc (.cells #[.int .i64 0] 3)).alloc (.cells #[.int .i64 0] 33)=W3 at hB3 hf ha he hsz3 ⊢
 replace c0:=(hB3.cell (p:=⟨Fb,0,none⟩) hFl).trans c0
 replace c1:=(hB3.cell (p:=⟨Fb,1,none⟩) hFl).trans c1
 replace c2:=(hB3.cell (p:=⟨Fb,2,none⟩) hFl).trans c2
 have cf:W3.cell? ⟨w.heap.size,0,none⟩=some (.pointer (some ⟨Fb,0,none⟩)):=cell_of_row _ _ 0 _ _ _ hf
 refine wpIn_wide.2 ?_
 go_step3
 go_wp2
 go_step3
 go_upto_region 1 with fail
 refine(wpIn_wide (n:=6)).1 ?_
 gi_wp2_with (refine⟨trivial,?_⟩;gi_at_call 141;refine(callsIn_wide.2 (mq _ _ b.pa b.va ba b.bs.length bc rfl)).mono ?_;rintro e w' ⟨rfl,rfl⟩)
 refine(wpIn_wide (n:=6)).1 ?_
 gi_wp2
 have HI4:=zH (show MisI ls w.heap.size Fb R [] (W3.alloc (.cells #[.int .i64 b.pa,.int .i64 b.va,.slice ba b.bs.length bc] 52)) from⟨by rw[World.size_alloc,hsz3];omega,heap_alloc hf _,heap_alloc ha _,heap_alloc he _,fun y hy=>by cases hy⟩)
 have HB4:=zH (hB3.alloc (by omega) (.cells #[.int .i64 b.pa,.int .i64 b.va,.slice ba b.bs.length bc] 52))
 have HBs:=zH (show (W3.alloc (.cells #[.int .i64 b.pa,.int .i64 b.va,.slice ba b.bs.length bc] 52)).heap[w.heap.size+3]?=some (.cells #[.int .i64 b.pa,.int .i64 b.va,.slice ba b.bs.length bc] 52) from by rw[<-hsz3];exact heap_alloc_new W3 _)
 have hs4:(W3.alloc (.cells #[.int .i64 b.pa,.int .i64 b.va,.slice ba b.bs.length bc] 52)).heap.size=w.heap.size+4:=by rw[World.size_alloc,hsz3]
 clear hf ha he c0 c1 c2 cf hB3
 generalize W3.alloc (.cells #[.int .i64 b.pa,.int .i64 b.va,.slice ba b.bs.length bc] 52)=W4 at HI4 HB4 HBs hs4 ⊢
 rw[<-HM2.out] at HM1 HBs ⊢
 refine wpIn_rangeFunc_ownH rfl (by omega) (gf:=184) (lb:=#[.pointer (some ⟨w.heap.size+3,0,none⟩)]) rfl trivial (enters_of Tryz.func184 (by kernel_rfl) rfl)
  (jW ls n₀ (w.heap.size+3) b.pa b.va ba bc _ (by omega) W4 (by have:=HN.out;omega) HBs.out (HM1.out.below (HB4.out.mono HN.out)) (by have:=HL.out;have:=HM2.out;omega) (fun i hi=>by have:=HK.out i (by rw[<-HM2.out];exact hi);rw[(HS.out).2 i];omega)) (fun h k=>h.trans k) (nN (by omega) (by have:=HN.out;omega)) (Below.refl _ _) (fun _=>rfl)
  (fun pre W=>MisI ls w.heap.size Fb R pre W/\Below w.heap.size w W)
  (fun c pre W=>(c=.exit 0/\(∃y∈pre.map (·.1),¬R y)/\w.heap.size+4<=W.heap.size/\∃(t:Int) (k:Nat),k≠0/\Boxed W (w.heap.size+1) 3 (.int .i64 t)/\Boxed W (w.heap.size+1+1) 33 (.int .i64 (k:Int)))/\Below w.heap.size w W)
  (OwnFrom.and (Own.from (fun s A B row hs hg hr=>hs.kept hg hr) _) (ownFrom_below (Nat.le_refl _) (by omega)))
  (fun c=>OwnFrom.and (Own.from (fun s A B row hs hg hr=>⟨hs.1,hs.2.1,Nat.le_trans hs.2.2.1 hg.size,by obtain⟨t,k,h1,h2,h3⟩:=hs.2.2.2;exact⟨t,k,h1,dr h2 hg hr,dr h3 hg hr⟩⟩) _) (ownFrom_below (Nat.le_refl _) (by omega)))
  ⟨HI4.out,HB4.out⟩
  (fun x a' W=>∃Bx,w.heap.size+3<Bx/\DefX (bt ls x.1) x.1.1 x.1.2 Bx W/\a' = { tmps:=#[.pointer (some ⟨Fb,0,none⟩),.pointer (some ⟨w.heap.size,0,none⟩),.pointer (some ⟨w.heap.size+1,0,none⟩),.pointer (some ⟨w.heap.size+1+1,0,none⟩),.pointer (some ⟨Bx,0,none⟩),.pointer (some ⟨Bx+1,0,none⟩),undef,undef,.pointer (some ⟨Fb,0,none⟩),.pointer (some ⟨Fb,0,none⟩),.pointer (some ⟨Fb,0,none⟩),.agg #[.int .i64 b.pa,.int .i64 b.va,.slice ba ls.length bc],.func (.func 184) #[] #[.pointer (some ⟨w.heap.size+3,0,none⟩)],.agg #[.int .i64 (x.1.1:Int),.int .i64 (x.1.2:Int)],.agg #[.int .u8 (bt ls x.1).k,.int .u8 (bt ls x.1).o,.int .i64 (bt ls x.1).d,.int .i64 (bt ls x.1).r,.int .i64 (bt ls x.1).a,.slice (bt ls x.1).xa (bt ls x.1).xl (bt ls x.1).xc,.slice (bt ls x.1).ya (bt ls x.1).yl (bt ls x.1).yc,.int .i64 (bt ls x.1).n,.int .i64 (bt ls x.1).t],undef,undef,undef,undef,undef,undef,undef,undef,undef,undef,undef,undef,undef,undef,undef,undef,undef,undef,undef,undef,undef,undef,undef,undef,undef,undef,undef,undef,undef,undef,undef,undef,undef,undef,undef,undef,undef,undef,undef,undef,undef],defers:=[] })
  (fun x a' _ X Y row hs hg hr=>by obtain⟨Bx,h1,h2,h3⟩:=hs;exact⟨Bx,h1,h2.kept hg (fun r e=>(hr r e).2),h3⟩)
  ?assign ?body ?done ?stop
 case assign =>
  rintro l pre x W K ⟨hI,hB⟩ hK
  unfold encI aF
  have hz:=hI.z
  have hz1:=HN.out
  gi_wp2
  exact hK _ _ (((KeepsOthers.alloc _ _).trans (KeepsOthers.alloc _ _)).from _) (((bu.refl _ _ _).alloc _ (by omega) (by omega)).alloc _ (by rw[World.size_alloc];omega) (by rw[World.size_alloc];omega)) ⟨(hI.alloc _).alloc _,(hB.alloc (by omega) _).alloc (by rw[World.size_alloc];omega) _⟩ ⟨W.heap.size,by omega,pp W _ _ _,rfl⟩
 case body =>
  rintro l pre x a' W hl _ ⟨hI,hB⟩ ⟨Bx,hBx,hX,rfl⟩ _
  obtain⟨⟨i,k⟩,hx⟩:=x
  obtain⟨xa,xc,ya,yc,eX,hrx,hry⟩:=(HO.out (i,k) hx).form
  have hii:i<b.bs.length:=by rw[<-HM2.out];exact hx.1
  have hkk:k<(blAt b i).length:=by rw[<-HS.out.2 i];exact hx.2
  obtain⟨hop,_⟩:=(HBO.out.2.1 i hii).2 k hkk
  simp only at hX eX ⊢
  obtain⟨p,ep⟩:∃p,p=ae (blAt b i) k:=⟨_,rfl⟩
  rw[<-ep] at hop hrx hry eX
  rw[eX] at hX ⊢
  unfold opC at hX ⊢
  simp only at hX ⊢
  have HP:=zH ep
  have HOP:=zH hop
  have HFW:=zH (HFN.out.below (hB.mono HN.out))
  have HRX:=zH (hrx.below (hB.mono HN.out))
  have HRY:=zH (hry.below (hB.mono HN.out))
  have HI:=zH hI
  have HBB:=zH hB
  have HXX:=zH hX
  have hz:=hI.z
  have c1:W.cell? ⟨w.heap.size,0,none⟩=some (.pointer (some ⟨Fb,0,none⟩)):=cell_of_row _ _ 0 _ _ _ hI.f
  have c60:W.cell? ⟨Bx,0,none⟩=some (.int .i64 i):=cell_of_row _ _ 0 _ _ _ hX.h
  have c61:W.cell? ⟨Bx,1,none⟩=some (.int .i64 k):=cell_of_row _ _ 1 _ _ _ hX.h
  have c70:W.cell? ⟨Bx+1,0,none⟩=some (.int .u8 p.k):=cell_of_row _ _ 0 _ _ _ hX.x
  have c75:W.cell? ⟨Bx+1,5,none⟩=some (.slice xa p.xs.length xc):=cell_of_row _ _ 5 _ _ _ hX.x
  have c76:W.cell? ⟨Bx+1,6,none⟩=some (.slice ya p.ys.length yc):=cell_of_row _ _ 6 _ _ _ hX.x
  have c78:W.cell? ⟨Bx+1,8,none⟩=some (.int .i64 p.t):=cell_of_row _ _ 8 _ _ _ hX.x
  have hbW:Bx+1<W.heap.size:=(Array.getElem?_eq_some_iff.1 hX.x).1
  have hFW:Fb<W.heap.size:=by omega
  clear hI hB hX hop hrx hry ep eX
  by_cases h3:p.k=3
  ·rw[h3] at c70
   have cF4:W.cell? ⟨Fb,4,none⟩=some kv:=cell_of_row _ _ 4 _ _ _ HFW.out.box
   have hbl:=HBK.out.1
   have hib:i<back.length:=by omega
   obtain⟨kb,ko,kc,ekv⟩:=HFW.out.back.addr (by omega)
   have hgb:=HFW.out.back
   rw[ekv] at hgb cF4
   obtain⟨ra,rc,crow,hrow⟩:=hgb.at hib
   have hrl:=HBK.out.2 i
   obtain⟨row,erow⟩:∃row,row=back[i]?.getD []:=⟨_,rfl⟩
   rw[<-erow] at crow hrow hrl
   have hkb:=cell_ltS crow
   simp only at hkb
   have HROW:=zH hrow
   have hyl:p.ys.length<=4096:=phi_len HOP.out h3
   obtain⟨t,et⟩:∃t,t=decide (de p.ys=row):=⟨_,rfl⟩
   have HJ:=zH (fun(w9:World) (hw9:Below W.heap.size W w9)=>just_any (.slice ya p.ys.length yc) (.slice ra row.length rc) p.ys row n₀ w9 (Nat.le_trans (Nat.le_trans HN.out HBB.out.size) hw9.size) (HRY.out.below (hw9.mono (Nat.le_trans HN.out HBB.out.size))) (HROW.out.below (hw9.mono (Nat.le_trans HN.out HBB.out.size))) hyl (by omega))
   rw[<-et] at HJ
   have HT:=zH (And.intro et erow)
   have i1:(0:Int)<=i/\(i:Int)<back.length:=by omega
   clear hgb hrow et erow
   gi_upto_region 4 with fail
   refine gA (C:=Below W.heap.size W) (by exact⟨rfl,rfl,rfl,Nat.le_refl _,fun _ _=>rfl⟩) (by kernel_rfl) (by kernel_rfl) (by kernel_rfl) ?_
   refine gkT (.pointer (some ⟨Bx+1,0,none⟩)) (fun w9 hw9=>?_) ?_
   ·unfold Oper.quietAtIn;simp [go_sem,Oper.quietUponIn]
   simp only[zA,zB,zC,Act.put,zD,zE,zF]
   refine gkT (.int .u8 3) (fun w9 hw9=>?_) ?_
   ·have z0:=(hw9.cell (p:=⟨Bx+1,0,none⟩) (by show Bx+1<W.heap.size;omega)).trans c70;unfold Oper.quietAtIn;simp [go_sem,Oper.quietUponIn,z0]
   simp only[zA,zB,zC,Act.put,zD,zE,zF]
   refine gkT (.bool true) (fun w9 hw9=>?_) ?_
   ·unfold Oper.quietAtIn;simp [go_sem,Oper.quietUponIn]
   simp only[zA,zB,zC,Act.put,zD,zE,zF]
   refine gkT (.bool true) (fun w9 hw9=>?_) ?_
   ·unfold Oper.quietAtIn;simp [go_sem,Oper.quietUponIn]
   simp only[zA,zB,zC,Act.put,zD,zE,zF]
   refine gkT (.pointer (some ⟨Bx+1,6,none⟩)) (fun w9 hw9=>?_) ?_
   ·unfold Oper.quietAtIn;simp [go_sem,Oper.quietUponIn]
   simp only[zA,zB,zC,Act.put,zD,zE,zF]
   refine gkT (.slice ya p.ys.length yc) (fun w9 hw9=>?_) ?_
   ·have z0:=(hw9.cell (p:=⟨Bx+1,6,none⟩) (by show Bx+1<W.heap.size;omega)).trans c76;unfold Oper.quietAtIn;simp [go_sem,Oper.quietUponIn,z0]
   simp only[zA,zB,zC,Act.put,zD,zE,zF]
   refine gkT (.pointer (some ⟨Fb,0,none⟩)) (fun w9 hw9=>?_) ?_
   ·have z0:=(hw9.cell (p:=⟨w.heap.size,0,none⟩) (by show w.heap.size<W.heap.size;omega)).trans c1;unfold Oper.quietAtIn;simp [go_sem,Oper.quietUponIn,z0]
   simp only[zA,zB,zC,Act.put,zD,zE,zF]
   refine gkT (.pointer (some ⟨Fb,0,none⟩)) (fun w9 hw9=>?_) ?_
   ·unfold Oper.quietAtIn;simp [go_sem,Oper.quietUponIn]
   simp only[zA,zB,zC,Act.put,zD,zE,zF]
   refine gkT (.pointer (some ⟨Fb,4,none⟩)) (fun w9 hw9=>?_) ?_
   ·unfold Oper.quietAtIn;simp [go_sem,Oper.quietUponIn]
   simp only[zA,zB,zC,Act.put,zD,zE,zF]
   refine gkT (.slice (some ⟨kb,ko,none⟩) back.length kc) (fun w9 hw9=>?_) ?_
   ·have z0:=(hw9.cell (p:=⟨Fb,4,none⟩) (by show Fb<W.heap.size;omega)).trans cF4;unfold Oper.quietAtIn;simp [go_sem,Oper.quietUponIn,z0]
   simp only[zA,zB,zC,Act.put,zD,zE,zF]
   refine gkT (.pointer (some ⟨Bx,0,none⟩)) (fun w9 hw9=>?_) ?_
   ·unfold Oper.quietAtIn;simp [go_sem,Oper.quietUponIn]
   simp only[zA,zB,zC,Act.put,zD,zE,zF]
   refine gkT (.int .i64 i) (fun w9 hw9=>?_) ?_
   ·have z0:=(hw9.cell (p:=⟨Bx,0,none⟩) (by show Bx<W.heap.size;omega)).trans c60;unfold Oper.quietAtIn;simp [go_sem,Oper.quietUponIn,z0]
   simp only[zA,zB,zC,Act.put,zD,zE,zF]
   refine gkT (.pointer (some ⟨kb,ko+i,none⟩)) (fun w9 hw9=>?_) ?_
   ·have z0:=hib;unfold Oper.quietAtIn;simp [go_sem,Oper.quietUponIn,z0]
   simp only[zA,zB,zC,Act.put,zD,zE,zF]
   refine gkT (.slice ra row.length rc) (fun w9 hw9=>?_) ?_
   ·have z0:=(hw9.cell (p:=⟨kb,ko+i,none⟩) (by show kb<W.heap.size;omega)).trans crow;unfold Oper.quietAtIn;simp [go_sem,Oper.quietUponIn,z0]
   simp only[zA,zB,zC,Act.put,zD,zE,zF]
   refine Go.Proofs.YtjngffgkllakaaaGreatDoor.grow_take (.bool t) (by intro w9 _ f9 hf9;exact trivial) (by rfl) (fun w9 hw9=>?_) ?_
   ·unfold Oper.quietAtIn;simp [go_sem,Oper.quietUponIn];exact CallsIn.inRound l (callsIn_wide.2 ((HJ.out w9 hw9).mono fun e w2 h=>⟨h.1,hw9.trans (h.2.mono hw9.size)⟩))
   simp only[zA,zB,zC,Act.put,zD,zE,zF]
   refine gkT (.bool (!t)) (fun w9 hw9=>?_) ?_
   ·unfold Oper.quietAtIn;simp [go_sem,Oper.quietUponIn]
   simp only[zA,zB,zC,Act.put,zD,zE,zF]
   refine gkT (.bool (!t)) (fun w9 hw9=>?_) ?_
   ·unfold Oper.quietAtIn;simp [go_sem,Oper.quietUponIn]
   simp only[zA,zB,zC,Act.put,zD,zE,zF]
   refine wpQuietIn_nil ?_
   intro w9 hw9
   have HI9:=zH (HI.out.below hw9 (by omega))
   have HX9:=zH (show DefX (opC p xa xc ya yc) i k Bx w9 from⟨(hw9.block _ (by omega)).trans HXX.out.h,(hw9.block _ (by omega)).trans HXX.out.x⟩)
   have HB9:=zH (HBB.out.trans (hw9.mono HBB.out.size))
   have HKF:=zH (bq hw9 W4.heap.size)
   have HKC:=zH (bu.of_below (n₀:=n₀) (Bs:=w.heap.size+3) hw9 (by have:=HN.out;have:=HBB.out.size;omega) (by omega))
   have HSZ:=zH hw9.size
   have HW9:=zH hw9
   replace c78:w9.cell? ⟨Bx+1,8,none⟩=some (.int .i64 p.t):=(hw9.cell (p:=⟨Bx+1,8,none⟩) (by show Bx+1<W.heap.size;omega)).trans c78
   replace c75:w9.cell? ⟨Bx+1,5,none⟩=some (.slice xa p.xs.length xc):=(hw9.cell (p:=⟨Bx+1,5,none⟩) (by show Bx+1<W.heap.size;omega)).trans c75
   clear hw9 c1 c60 c61 c70 c76 cF4 crow HJ
   cases t
   ·have a1:=HI9.out.a.cell
    have a2:=HI9.out.a.frozen
    have e1:=HI9.out.e.cell
    have e2:=HI9.out.e.frozen
    have HNO:=zH (show ¬R (i,k) by
     rw[ER.out]
     rintro ⟨h1,_⟩
     simp only at h1
     rw[<-HP.out] at h1
     have h2:=HT.out.1
     rw[HT.out.2] at h2
     exact absurd (h1 h3) (of_decide_eq_false h2.symm))
    gi_wp2
    refine⟨HKF.out.trans (((KeepsOthers.setCell _ _ _).trans (KeepsOthers.setCell _ _ _)).from _),⟨rfl,⟨(i,k),by simp,HNO.out⟩,by have:=HI9.out.z;simp;omega,p.t,18,by decide,(HI9.out.a.set _).other (by omega) _,(HI9.out.e.other (by omega) _).set _⟩,(HB9.out.setCell (p:=⟨w.heap.size+1,0,none⟩) (by simp) _).setCell (p:=⟨w.heap.size+1+1,0,none⟩) (by simp;omega) _⟩
   ·have HPH:=zH (show p.k=3->de p.ys=back[i]?.getD [] from fun _=>by
     have h2:=HT.out.1
     rw[HT.out.2] at h2
     exact of_decide_eq_true h2.symm)
    have hxl4:p.xs.length<=4096:=pv HOP.out HAR.out
    gi_wp2
    gi_loopw [37] (fun k' wr=>∃j:Nat,j<=p.xs.length/\k'=.int .i64 (j:Int)/\RowKit.Hid ((∀j',j'<j->cJ b f over (p.xs[j']?.getD 0).toNat (aH b p j' i k).1.toNat (aH b p j' i k).2=true)/\Below w9.heap.size w9 wr)) (fun k' _=>p.xs.length-(intOf k').toNat)
    case atStart=>exact⟨0,Nat.zero_le _,rfl,zH ⟨fun j' hj'=>absurd hj' (Nat.not_lt_zero _),Below.refl _ _⟩⟩
    case round =>
     clear c78 c75
     obtain⟨w8,rfl⟩:∃w8,w8=wr:=⟨_,rfl⟩
     obtain⟨j,hj,rfl,HJJ⟩:=hrel
     have hb8:=HJJ.out.2
     have HI8:=zH (HI9.out.below hb8 (by have:=HI9.out.z;omega))
     have hb9:=(Array.getElem?_eq_some_iff.1 HX9.out.x).1
     have HX8:=zH (show DefX (opC p xa xc ya yc) i k Bx w8 from⟨(hb8.block _ (by omega)).trans HX9.out.h,(hb8.block _ (by omega)).trans HX9.out.x⟩)
     have HB8:=zH (HB9.out.trans (hb8.mono HB9.out.size))
     have HW8:=zH (show Below W.heap.size W w8 from HW9.out.trans (hb8.mono HSZ.out))
     have h89:=hb8.size
     have c78:w8.cell? ⟨Bx+1,8,none⟩=some (.int .i64 p.t):=cell_of_row _ _ 8 _ _ _ HX8.out.x
     clear hb8
     by_cases hjt:j<p.xs.length
     ·obtain⟨zb,zo,exa,hz8⟩:=(HRX.out.below (HW8.out.mono (Nat.le_trans HN.out HBB.out.size))).cellAt hjt
      have hin:=HOP.out.2.2.2.2.2.2.1 j hjt
      have HJT:=zH hjt
      obtain⟨v,ev⟩:∃v:Nat,p.xs[j]?.getD 0=(v:Int):=⟨(p.xs[j]?.getD 0).toNat,by omega⟩
      rw[ev] at hz8 hin
      subst exa
      have HEV:=zH ev
      have c1:w8.cell? ⟨w.heap.size,0,none⟩=some (.pointer (some ⟨Fb,0,none⟩)):=cell_of_row _ _ 0 _ _ _ HI8.out.f
      have c60:w8.cell? ⟨Bx,0,none⟩=some (.int .i64 i):=cell_of_row _ _ 0 _ _ _ HX8.out.h
      have c61:w8.cell? ⟨Bx,1,none⟩=some (.int .i64 k):=cell_of_row _ _ 1 _ _ _ HX8.out.h
      have x0:w8.cell? ⟨Bx+1,0,none⟩=some (.int .u8 p.k):=cell_of_row _ _ 0 _ _ _ HX8.out.x
      have x1:w8.cell? ⟨Bx+1,1,none⟩=some (.int .u8 p.o):=cell_of_row _ _ 1 _ _ _ HX8.out.x
      have x2:w8.cell? ⟨Bx+1,2,none⟩=some (.int .i64 p.d):=cell_of_row _ _ 2 _ _ _ HX8.out.x
      have x3:w8.cell? ⟨Bx+1,3,none⟩=some (.int .i64 p.r):=cell_of_row _ _ 3 _ _ _ HX8.out.x
      have x4:w8.cell? ⟨Bx+1,4,none⟩=some (.int .i64 p.a):=cell_of_row _ _ 4 _ _ _ HX8.out.x
      have x5:w8.cell? ⟨Bx+1,5,none⟩=some (.slice (some ⟨zb,zo,none⟩) p.xs.length xc):=cell_of_row _ _ 5 _ _ _ HX8.out.x
      have x6:w8.cell? ⟨Bx+1,6,none⟩=some (.slice ya p.ys.length yc):=cell_of_row _ _ 6 _ _ _ HX8.out.x
      have x7:w8.cell? ⟨Bx+1,7,none⟩=some (.int .i64 p.n):=cell_of_row _ _ 7 _ _ _ HX8.out.x
      have x8:w8.cell? ⟨Bx+1,8,none⟩=some (.int .i64 p.t):=cell_of_row _ _ 8 _ _ _ HX8.out.x
      have HN8:=zH (show n₀<=w8.heap.size from Nat.le_trans HN.out HB8.out.size)
      have HNW:=zH (show n₀<=W.heap.size from Nat.le_trans HN.out HBB.out.size)
      have HF8:=zH (HFW.out.below (HW8.out.mono HNW.out))
      have HY8:=zH (HRY.out.below (HW8.out.mono HNW.out))
      have hnb:=mz (b:=b) (i:=i) (k:=k) HOP.out HJT.out hii
      have hbb:=HL.out.2
      have HND:=zH (fun(w9:World) (hw9:Below w8.heap.size w8 w9)=>kW p (some ⟨zb,zo,none⟩) ya xc yc j i k w9 (HF8.out.below (hw9.mono HN8.out)) (Nat.le_trans HN8.out hw9.size) (HY8.out.below (hw9.mono HN8.out)) hnb.2.2 (by omega))
      obtain⟨bi,ebi⟩:∃bi:Nat,(aH b p j i k).1=(bi:Int):=⟨(aH b p j i k).1.toNat,by omega⟩
      obtain⟨ki,eki⟩:∃ki,ki=(aH b p j i k).2:=⟨_,rfl⟩
      have hov:=HOV.out
      obtain⟨t9,et9⟩:∃t9,t9=cJ b f over v bi ki:=⟨_,rfl⟩
      have HTH:=zH (fun(w9:World) (hw9:Below w8.heap.size w8 w9)=>mx v bi ki w9 (HF8.out.below (hw9.mono HN8.out)) (Nat.le_trans HN8.out hw9.size) (by omega) (by omega) (by rw[hov.1];omega) (by rw[hov.1];omega) (hov.2 bi))
      rw[<-et9] at HTH
      rw[ebi,<-eki] at HND
      have HT9:=zH (show cJ b f over (p.xs[j]?.getD 0).toNat (aH b p j i k).1.toNat (aH b p j i k).2=t9 by rw[ev,ebi,<-eki,Int.toNat_natCast,Int.toNat_natCast];exact et9.symm)
      have HT9':=zH hnb
      have i2:(0:Int)<=j/\(j:Int)<p.xs.length:=by omega
      have hms:w.heap.size<w8.heap.size:=by have:=HI8.out.z;omega
      have hbx8:Bx+1<w8.heap.size:=by omega
      clear ev ebi eki et9 hov hnb
      gi_upto_region 9 with fail
      refine gA (C:=Below w8.heap.size w8) (by exact⟨rfl,rfl,rfl,Nat.le_refl _,fun _ _=>rfl⟩) (by kernel_rfl) (by kernel_rfl) (by kernel_rfl) ?_
      refine gkT (.pointer (some ⟨Fb,0,none⟩)) (fun w9 hw9=>?_) ?_
      ·have z0:=(hw9.cell (p:=⟨w.heap.size,0,none⟩) (by show w.heap.size<w8.heap.size;omega)).trans c1;unfold Oper.quietAtIn;simp [go_sem,Oper.quietUponIn,z0]
      simp only[zA,zB,zC,Act.put,zD,zE,zF]
      refine gkT (.int .i64 v) (fun w9 hw9=>?_) ?_
      ·unfold Oper.quietAtIn;simp [go_sem,Oper.quietUponIn]
      simp only[zA,zB,zC,Act.put,zD,zE,zF]
      refine gkT (.pointer (some ⟨Fb,0,none⟩)) (fun w9 hw9=>?_) ?_
      ·have z0:=(hw9.cell (p:=⟨w.heap.size,0,none⟩) (by show w.heap.size<w8.heap.size;omega)).trans c1;unfold Oper.quietAtIn;simp [go_sem,Oper.quietUponIn,z0]
      simp only[zA,zB,zC,Act.put,zD,zE,zF]
      refine gkT (.agg #[.int .u8 p.k,.int .u8 p.o,.int .i64 p.d,.int .i64 p.r,.int .i64 p.a,.slice (some ⟨zb,zo,none⟩) p.xs.length xc,.slice ya p.ys.length yc,.int .i64 p.n,.int .i64 p.t]) (fun w9 hw9=>?_) ?_
      ·have z0:=(hw9.cell (p:=⟨Bx+1,0,none⟩) (by show Bx+1<w8.heap.size;omega)).trans x0;have z1:=(hw9.cell (p:=⟨Bx+1,1,none⟩) (by show Bx+1<w8.heap.size;omega)).trans x1;have z2:=(hw9.cell (p:=⟨Bx+1,2,none⟩) (by show Bx+1<w8.heap.size;omega)).trans x2;have z3:=(hw9.cell (p:=⟨Bx+1,3,none⟩) (by show Bx+1<w8.heap.size;omega)).trans x3;have z4:=(hw9.cell (p:=⟨Bx+1,4,none⟩) (by show Bx+1<w8.heap.size;omega)).trans x4;have z5:=(hw9.cell (p:=⟨Bx+1,5,none⟩) (by show Bx+1<w8.heap.size;omega)).trans x5;have z6:=(hw9.cell (p:=⟨Bx+1,6,none⟩) (by show Bx+1<w8.heap.size;omega)).trans x6;have z7:=(hw9.cell (p:=⟨Bx+1,7,none⟩) (by show Bx+1<w8.heap.size;omega)).trans x7;have z8:=(hw9.cell (p:=⟨Bx+1,8,none⟩) (by show Bx+1<w8.heap.size;omega)).trans x8;unfold Oper.quietAtIn;simp [go_sem,Oper.quietUponIn,z0,z1,z2,z3,z4,z5,z6,z7,z8]
      simp only[zA,zB,zC,Act.put,zD,zE,zF]
      refine gkT (.int .i64 j) (fun w9 hw9=>?_) ?_
      ·unfold Oper.quietAtIn;simp [go_sem,Oper.quietUponIn]
      simp only[zA,zB,zC,Act.put,zD,zE,zF]
      refine gkT (.agg #[.int .i64 i,.int .i64 k]) (fun w9 hw9=>?_) ?_
      ·have z0:=(hw9.cell (p:=⟨Bx,0,none⟩) (by show Bx<w8.heap.size;omega)).trans c60;have z1:=(hw9.cell (p:=⟨Bx,1,none⟩) (by show Bx<w8.heap.size;omega)).trans c61;unfold Oper.quietAtIn;simp [go_sem,Oper.quietUponIn,z0,z1]
      simp only[zA,zB,zC,Act.put,zD,zE,zF]
      refine Go.Proofs.YtjngffgkllakaaaGreatDoor.grow_take (.agg #[.int .i64 bi,.int .i64 ki]) (by intro w9 _ f9 hf9;exact trivial) (by rfl) (fun w9 hw9=>?_) ?_
      ·unfold Oper.quietAtIn;simp [go_sem,Oper.quietUponIn];exact CallsIn.inRound l (callsIn_wide.2 ((HND.out w9 hw9).mono fun e w2 h=>⟨h.1,hw9.trans (h.2.mono hw9.size)⟩))
      simp only[zA,zB,zC,Act.put,zD,zE,zF]
      refine Go.Proofs.YtjngffgkllakaaaGreatDoor.grow_take (.bool t9) (by intro w9 _ f9 hf9;exact trivial) (by rfl) (fun w9 hw9=>?_) ?_
      ·unfold Oper.quietAtIn;simp [go_sem,Oper.quietUponIn];exact CallsIn.inRound l (callsIn_wide.2 ((HTH.out w9 hw9).mono fun e w2 h=>⟨h.1,hw9.trans (h.2.mono hw9.size)⟩))
      simp only[zA,zB,zC,Act.put,zD,zE,zF]
      refine gkT (.bool (!t9)) (fun w9 hw9=>?_) ?_
      ·unfold Oper.quietAtIn;simp [go_sem,Oper.quietUponIn]
      simp only[zA,zB,zC,Act.put,zD,zE,zF]
      refine wpQuietIn_nil ?_
      intro w7 hw7
      have HI7:=zH (HI8.out.below hw7 (by omega))
      have HB7:=zH (HB8.out.trans (hw7.mono HB8.out.size))
      have HKF7:=zH (HKF.out.trans ((bq HJJ.out.2 W4.heap.size).trans (bq hw7 W4.heap.size)))
      have HJ7:=zH (HJJ.out.2.trans (hw7.mono h89))
      have k78:w7.cell? ⟨Bx+1,8,none⟩=some (.int .i64 p.t):=(hw7.cell (p:=⟨Bx+1,8,none⟩) (by show Bx+1<w8.heap.size;omega)).trans c78
      clear hw7 c78 c1 c60 c61 x0 x1 x2 x3 x4 x5 x6 x7 x8 HND HTH
      cases t9
      ·have a1:=HI7.out.a.cell
       have a2:=HI7.out.a.frozen
       have e1:=HI7.out.e.cell
       have e2:=HI7.out.e.frozen
       have HNO:=zH (show ¬R (i,k) by
        rw[ER.out]
        rintro ⟨_,h1⟩
        simp only at h1
        rw[<-HP.out] at h1
        have h2:=h1 j HJT.out
        rw[HT9.out] at h2
        cases h2)
       gi_wp2
       exact⟨HKF7.out.trans (((KeepsOthers.setCell _ _ _).trans (KeepsOthers.setCell _ _ _)).from _),⟨rfl,⟨(i,k),by simp,HNO.out⟩,by have:=HI7.out.z;simp;omega,p.t,19,by decide,(HI7.out.a.set _).other (by omega) _,(HI7.out.e.other (by omega) _).set _⟩,(HB7.out.setCell (p:=⟨w.heap.size+1,0,none⟩) (by simp) _).setCell (p:=⟨w.heap.size+1+1,0,none⟩) (by simp;omega) _⟩
      ·have HNX:=zH (show ∀j',j'<j+1->cJ b f over (p.xs[j']?.getD 0).toNat (aH b p j' i k).1.toNat (aH b p j' i k).2=true from fun j' hj'=>by
        by_cases e:j'=j
        ·rw[e];exact HT9.out
        ·exact HJJ.out.1 j' (by omega))
       gi_wp2
       go_roundw
       case rel=>exact⟨j+1,HJT.out,by go_num,zH ⟨HNX.out,HJ7.out⟩⟩
       case measure=>have:=HJT.out;simp [intOf];omega
     ·have ej:j=p.xs.length:=by omega
      subst ej
      have HUSE:=zH (show R (i,k) by
       rw[ER.out]
       refine⟨fun h=>?_,fun j' hj'=>?_⟩
       ·simp only at h ⊢
        rw[<-HP.out] at h ⊢
        exact HPH.out h
       ·simp only at hj' ⊢
        rw[<-HP.out] at hj' ⊢
        exact HJJ.out.1 j' hj')
      have HJ8:=zH (bu.of_below (n₀:=n₀) (Bs:=w.heap.size+3) HJJ.out.2 (by have:=HN.out;have:=HB9.out.size;omega) (by have:=HI9.out.z;omega))
      have HKF8:=zH (HKF.out.trans (bq HJJ.out.2 W4.heap.size))
      gi_wp2
      refine⟨HKF8.out,HKC.out.trans HJ8.out,⟨HI8.out.z,HI8.out.f,HI8.out.a,HI8.out.e,fun y hy=>?_⟩,HB8.out⟩
      rw[List.map_append] at hy
      rcases List.mem_append.1 hy with h | h
      ·exact HI8.out.h y h
      ·have:y=(i,k):=by simpa using h
       rw[this]
       exact HUSE.out
  ·have HPH:=zH (show p.k=3->de p.ys=back[i]?.getD [] from fun h=>absurd h h3)
   have hk3:(p.k == 3)=false:=beq_eq_false_iff_ne.2 h3
   gi_upto_region 4 with fail
   refine bT (by kernel_rfl) (by kernel_rfl) (by kernel_rfl) ?_
   repeat (gi_big_quiet_step (fail))
   refine Go.BigFrame.wpQuietIn_skip (by intro w9 _ f9 _;exact trivial) (by rfl) ?_
   simp only[zA,zB,zC,Act.put,zD,zE,zF]
   repeat (gi_big_quiet_step (fail))
   refine wpQuietIn_nil ?_
   intro w9 hw9
   replace hw9:Below W.heap.size W w9:=by
    obtain⟨nq,e⟩:=hw9
    rw[e]
    exact⟨rfl,rfl,rfl,Nat.le_refl _,fun _ _=>rfl⟩
   have HI9:=zH (HI.out.below hw9 (by omega))
   have HX9:=zH (show DefX (opC p xa xc ya yc) i k Bx w9 from⟨(hw9.block _ (by omega)).trans HXX.out.h,(hw9.block _ (by omega)).trans HXX.out.x⟩)
   have HB9:=zH (HBB.out.trans (hw9.mono HBB.out.size))
   have HKF:=zH (bq hw9 W4.heap.size)
   have HKC:=zH (bu.of_below (n₀:=n₀) (Bs:=w.heap.size+3) hw9 (by have:=HN.out;have:=HBB.out.size;omega) (by omega))
   have HSZ:=zH hw9.size
   have HW9:=zH hw9
   replace c78:w9.cell? ⟨Bx+1,8,none⟩=some (.int .i64 p.t):=(hw9.cell (p:=⟨Bx+1,8,none⟩) (by show Bx+1<W.heap.size;omega)).trans c78
   replace c75:w9.cell? ⟨Bx+1,5,none⟩=some (.slice xa p.xs.length xc):=(hw9.cell (p:=⟨Bx+1,5,none⟩) (by show Bx+1<W.heap.size;omega)).trans c75
   clear hw9 c1 c60 c61 c70 c76
   have hxl4:p.xs.length<=4096:=pv HOP.out HAR.out
   gi_wp2
   gi_loopw [37] (fun k' wr=>∃j:Nat,j<=p.xs.length/\k'=.int .i64 (j:Int)/\RowKit.Hid ((∀j',j'<j->cJ b f over (p.xs[j']?.getD 0).toNat (aH b p j' i k).1.toNat (aH b p j' i k).2=true)/\Below w9.heap.size w9 wr)) (fun k' _=>p.xs.length-(intOf k').toNat)
   case atStart=>exact⟨0,Nat.zero_le _,rfl,zH ⟨fun j' hj'=>absurd hj' (Nat.not_lt_zero _),Below.refl _ _⟩⟩
   case round =>
    clear c78 c75
    obtain⟨w8,rfl⟩:∃w8,w8=wr:=⟨_,rfl⟩
    obtain⟨j,hj,rfl,HJJ⟩:=hrel
    have hb8:=HJJ.out.2
    have HI8:=zH (HI9.out.below hb8 (by have:=HI9.out.z;omega))
    have hb9:=(Array.getElem?_eq_some_iff.1 HX9.out.x).1
    have HX8:=zH (show DefX (opC p xa xc ya yc) i k Bx w8 from⟨(hb8.block _ (by omega)).trans HX9.out.h,(hb8.block _ (by omega)).trans HX9.out.x⟩)
    have HB8:=zH (HB9.out.trans (hb8.mono HB9.out.size))
    have HW8:=zH (show Below W.heap.size W w8 from HW9.out.trans (hb8.mono HSZ.out))
    have h89:=hb8.size
    have c78:w8.cell? ⟨Bx+1,8,none⟩=some (.int .i64 p.t):=cell_of_row _ _ 8 _ _ _ HX8.out.x
    clear hb8
    by_cases hjt:j<p.xs.length
    ·obtain⟨zb,zo,exa,hz8⟩:=(HRX.out.below (HW8.out.mono (Nat.le_trans HN.out HBB.out.size))).cellAt hjt
     have hin:=HOP.out.2.2.2.2.2.2.1 j hjt
     have HJT:=zH hjt
     obtain⟨v,ev⟩:∃v:Nat,p.xs[j]?.getD 0=(v:Int):=⟨(p.xs[j]?.getD 0).toNat,by omega⟩
     rw[ev] at hz8 hin
     subst exa
     have HEV:=zH ev
     have c1:w8.cell? ⟨w.heap.size,0,none⟩=some (.pointer (some ⟨Fb,0,none⟩)):=cell_of_row _ _ 0 _ _ _ HI8.out.f
     have c60:w8.cell? ⟨Bx,0,none⟩=some (.int .i64 i):=cell_of_row _ _ 0 _ _ _ HX8.out.h
     have c61:w8.cell? ⟨Bx,1,none⟩=some (.int .i64 k):=cell_of_row _ _ 1 _ _ _ HX8.out.h
     have x0:w8.cell? ⟨Bx+1,0,none⟩=some (.int .u8 p.k):=cell_of_row _ _ 0 _ _ _ HX8.out.x
     have x1:w8.cell? ⟨Bx+1,1,none⟩=some (.int .u8 p.o):=cell_of_row _ _ 1 _ _ _ HX8.out.x
     have x2:w8.cell? ⟨Bx+1,2,none⟩=some (.int .i64 p.d):=cell_of_row _ _ 2 _ _ _ HX8.out.x
     have x3:w8.cell? ⟨Bx+1,3,none⟩=some (.int .i64 p.r):=cell_of_row _ _ 3 _ _ _ HX8.out.x
     have x4:w8.cell? ⟨Bx+1,4,none⟩=some (.int .i64 p.a):=cell_of_row _ _ 4 _ _ _ HX8.out.x
     have x5:w8.cell? ⟨Bx+1,5,none⟩=some (.slice (some ⟨zb,zo,none⟩) p.xs.length xc):=cell_of_row _ _ 5 _ _ _ HX8.out.x
     have x6:w8.cell? ⟨Bx+1,6,none⟩=some (.slice ya p.ys.length yc):=cell_of_row _ _ 6 _ _ _ HX8.out.x
     have x7:w8.cell? ⟨Bx+1,7,none⟩=some (.int .i64 p.n):=cell_of_row _ _ 7 _ _ _ HX8.out.x
     have x8:w8.cell? ⟨Bx+1,8,none⟩=some (.int .i64 p.t):=cell_of_row _ _ 8 _ _ _ HX8.out.x
     have HN8:=zH (show n₀<=w8.heap.size from Nat.le_trans HN.out HB8.out.size)
     have HNW:=zH (show n₀<=W.heap.size from Nat.le_trans HN.out HBB.out.size)
     have HF8:=zH (HFW.out.below (HW8.out.mono HNW.out))
     have HY8:=zH (HRY.out.below (HW8.out.mono HNW.out))
     have hnb:=mz (b:=b) (i:=i) (k:=k) HOP.out HJT.out hii
     have hbb:=HL.out.2
     have HND:=zH (fun(w9:World) (hw9:Below w8.heap.size w8 w9)=>kW p (some ⟨zb,zo,none⟩) ya xc yc j i k w9 (HF8.out.below (hw9.mono HN8.out)) (Nat.le_trans HN8.out hw9.size) (HY8.out.below (hw9.mono HN8.out)) hnb.2.2 (by omega))
     obtain⟨bi,ebi⟩:∃bi:Nat,(aH b p j i k).1=(bi:Int):=⟨(aH b p j i k).1.toNat,by omega⟩
     obtain⟨ki,eki⟩:∃ki,ki=(aH b p j i k).2:=⟨_,rfl⟩
     have hov:=HOV.out
     obtain⟨t9,et9⟩:∃t9,t9=cJ b f over v bi ki:=⟨_,rfl⟩
     have HTH:=zH (fun(w9:World) (hw9:Below w8.heap.size w8 w9)=>mx v bi ki w9 (HF8.out.below (hw9.mono HN8.out)) (Nat.le_trans HN8.out hw9.size) (by omega) (by omega) (by rw[hov.1];omega) (by rw[hov.1];omega) (hov.2 bi))
     rw[<-et9] at HTH
     rw[ebi,<-eki] at HND
     have HT9:=zH (show cJ b f over (p.xs[j]?.getD 0).toNat (aH b p j i k).1.toNat (aH b p j i k).2=t9 by rw[ev,ebi,<-eki,Int.toNat_natCast,Int.toNat_natCast];exact et9.symm)
     have HT9':=zH hnb
     have i2:(0:Int)<=j/\(j:Int)<p.xs.length:=by omega
     have hms:w.heap.size<w8.heap.size:=by have:=HI8.out.z;omega
     have hbx8:Bx+1<w8.heap.size:=by omega
     clear ev ebi eki et9 hov hnb
     gi_upto_region 9 with fail
     refine gA (C:=Below w8.heap.size w8) (by exact⟨rfl,rfl,rfl,Nat.le_refl _,fun _ _=>rfl⟩) (by kernel_rfl) (by kernel_rfl) (by kernel_rfl) ?_
     refine gkT (.pointer (some ⟨Fb,0,none⟩)) (fun w9 hw9=>?_) ?_
     ·have z0:=(hw9.cell (p:=⟨w.heap.size,0,none⟩) (by show w.heap.size<w8.heap.size;omega)).trans c1;unfold Oper.quietAtIn;simp [go_sem,Oper.quietUponIn,z0]
     simp only[zA,zB,zC,Act.put,zD,zE,zF]
     refine gkT (.int .i64 v) (fun w9 hw9=>?_) ?_
     ·unfold Oper.quietAtIn;simp [go_sem,Oper.quietUponIn]
     simp only[zA,zB,zC,Act.put,zD,zE,zF]
     refine gkT (.pointer (some ⟨Fb,0,none⟩)) (fun w9 hw9=>?_) ?_
     ·have z0:=(hw9.cell (p:=⟨w.heap.size,0,none⟩) (by show w.heap.size<w8.heap.size;omega)).trans c1;unfold Oper.quietAtIn;simp [go_sem,Oper.quietUponIn,z0]
     simp only[zA,zB,zC,Act.put,zD,zE,zF]
     refine gkT (.agg #[.int .u8 p.k,.int .u8 p.o,.int .i64 p.d,.int .i64 p.r,.int .i64 p.a,.slice (some ⟨zb,zo,none⟩) p.xs.length xc,.slice ya p.ys.length yc,.int .i64 p.n,.int .i64 p.t]) (fun w9 hw9=>?_) ?_
     ·have z0:=(hw9.cell (p:=⟨Bx+1,0,none⟩) (by show Bx+1<w8.heap.size;omega)).trans x0;have z1:=(hw9.cell (p:=⟨Bx+1,1,none⟩) (by show Bx+1<w8.heap.size;omega)).trans x1;have z2:=(hw9.cell (p:=⟨Bx+1,2,none⟩) (by show Bx+1<w8.heap.size;omega)).trans x2;have z3:=(hw9.cell (p:=⟨Bx+1,3,none⟩) (by show Bx+1<w8.heap.size;omega)).trans x3;have z4:=(hw9.cell (p:=⟨Bx+1,4,none⟩) (by show Bx+1<w8.heap.size;omega)).trans x4;have z5:=(hw9.cell (p:=⟨Bx+1,5,none⟩) (by show Bx+1<w8.heap.size;omega)).trans x5;have z6:=(hw9.cell (p:=⟨Bx+1,6,none⟩) (by show Bx+1<w8.heap.size;omega)).trans x6;have z7:=(hw9.cell (p:=⟨Bx+1,7,none⟩) (by show Bx+1<w8.heap.size;omega)).trans x7;have z8:=(hw9.cell (p:=⟨Bx+1,8,none⟩) (by show Bx+1<w8.heap.size;omega)).trans x8;unfold Oper.quietAtIn;simp [go_sem,Oper.quietUponIn,z0,z1,z2,z3,z4,z5,z6,z7,z8]
     simp only[zA,zB,zC,Act.put,zD,zE,zF]
     refine gkT (.int .i64 j) (fun w9 hw9=>?_) ?_
     ·unfold Oper.quietAtIn;simp [go_sem,Oper.quietUponIn]
     simp only[zA,zB,zC,Act.put,zD,zE,zF]
     refine gkT (.agg #[.int .i64 i,.int .i64 k]) (fun w9 hw9=>?_) ?_
     ·have z0:=(hw9.cell (p:=⟨Bx,0,none⟩) (by show Bx<w8.heap.size;omega)).trans c60;have z1:=(hw9.cell (p:=⟨Bx,1,none⟩) (by show Bx<w8.heap.size;omega)).trans c61;unfold Oper.quietAtIn;simp [go_sem,Oper.quietUponIn,z0,z1]
     simp only[zA,zB,zC,Act.put,zD,zE,zF]
     refine Go.Proofs.YtjngffgkllakaaaGreatDoor.grow_take (.agg #[.int .i64 bi,.int .i64 ki]) (by intro w9 _ f9 hf9;exact trivial) (by rfl) (fun w9 hw9=>?_) ?_
     ·unfold Oper.quietAtIn;simp [go_sem,Oper.quietUponIn];exact CallsIn.inRound l (callsIn_wide.2 ((HND.out w9 hw9).mono fun e w2 h=>⟨h.1,hw9.trans (h.2.mono hw9.size)⟩))
     simp only[zA,zB,zC,Act.put,zD,zE,zF]
     refine Go.Proofs.YtjngffgkllakaaaGreatDoor.grow_take (.bool t9) (by intro w9 _ f9 hf9;exact trivial) (by rfl) (fun w9 hw9=>?_) ?_
     ·unfold Oper.quietAtIn;simp [go_sem,Oper.quietUponIn];exact CallsIn.inRound l (callsIn_wide.2 ((HTH.out w9 hw9).mono fun e w2 h=>⟨h.1,hw9.trans (h.2.mono hw9.size)⟩))
     simp only[zA,zB,zC,Act.put,zD,zE,zF]
     refine gkT (.bool (!t9)) (fun w9 hw9=>?_) ?_
     ·unfold Oper.quietAtIn;simp [go_sem,Oper.quietUponIn]
     simp only[zA,zB,zC,Act.put,zD,zE,zF]
     refine wpQuietIn_nil ?_
     intro w7 hw7
     have HI7:=zH (HI8.out.below hw7 (by omega))
     have HB7:=zH (HB8.out.trans (hw7.mono HB8.out.size))
     have HKF7:=zH (HKF.out.trans ((bq HJJ.out.2 W4.heap.size).trans (bq hw7 W4.heap.size)))
     have HJ7:=zH (HJJ.out.2.trans (hw7.mono h89))
     have k78:w7.cell? ⟨Bx+1,8,none⟩=some (.int .i64 p.t):=(hw7.cell (p:=⟨Bx+1,8,none⟩) (by show Bx+1<w8.heap.size;omega)).trans c78
     clear hw7 c78 c1 c60 c61 x0 x1 x2 x3 x4 x5 x6 x7 x8 HND HTH
     cases t9
     ·have a1:=HI7.out.a.cell
      have a2:=HI7.out.a.frozen
      have e1:=HI7.out.e.cell
      have e2:=HI7.out.e.frozen
      have HNO:=zH (show ¬R (i,k) by
       rw[ER.out]
       rintro ⟨_,h1⟩
       simp only at h1
       rw[<-HP.out] at h1
       have h2:=h1 j HJT.out
       rw[HT9.out] at h2
       cases h2)
      gi_wp2
      exact⟨HKF7.out.trans (((KeepsOthers.setCell _ _ _).trans (KeepsOthers.setCell _ _ _)).from _),⟨rfl,⟨(i,k),by simp,HNO.out⟩,by have:=HI7.out.z;simp;omega,p.t,19,by decide,(HI7.out.a.set _).other (by omega) _,(HI7.out.e.other (by omega) _).set _⟩,(HB7.out.setCell (p:=⟨w.heap.size+1,0,none⟩) (by simp) _).setCell (p:=⟨w.heap.size+1+1,0,none⟩) (by simp;omega) _⟩
     ·have HNX:=zH (show ∀j',j'<j+1->cJ b f over (p.xs[j']?.getD 0).toNat (aH b p j' i k).1.toNat (aH b p j' i k).2=true from fun j' hj'=>by
       by_cases e:j'=j
       ·rw[e];exact HT9.out
       ·exact HJJ.out.1 j' (by omega))
      gi_wp2
      go_roundw
      case rel=>exact⟨j+1,HJT.out,by go_num,zH ⟨HNX.out,HJ7.out⟩⟩
      case measure=>have:=HJT.out;simp [intOf];omega
    ·have ej:j=p.xs.length:=by omega
     subst ej
     have HUSE:=zH (show R (i,k) by
      rw[ER.out]
      refine⟨fun h=>?_,fun j' hj'=>?_⟩
      ·simp only at h ⊢
       rw[<-HP.out] at h ⊢
       exact HPH.out h
      ·simp only at hj' ⊢
       rw[<-HP.out] at hj' ⊢
       exact HJJ.out.1 j' hj')
     have HJ8:=zH (bu.of_below (n₀:=n₀) (Bs:=w.heap.size+3) HJJ.out.2 (by have:=HN.out;have:=HB9.out.size;omega) (by have:=HI9.out.z;omega))
     have HKF8:=zH (HKF.out.trans (bq HJJ.out.2 W4.heap.size))
     gi_wp2
     refine⟨HKF8.out,HKC.out.trans HJ8.out,⟨HI8.out.z,HI8.out.f,HI8.out.a,HI8.out.e,fun y hy=>?_⟩,HB8.out⟩
     rw[List.map_append] at hy
     rcases List.mem_append.1 hy with h | h
     ·exact HI8.out.h y h
     ·have:y=(i,k):=by simpa using h
      rw[this]
      exact HUSE.out
 case done =>
  rintro D ys W hD hys ⟨hI,hB⟩ hKD
  have HI:=zH hI
  have HBB:=zH hB
  have HALL:=zH (show ∀i j,i<b.bs.length->j<(blAt b i).length->my b f back over (i,j) from fun i j h1 h2=>by
   rw[<-ER.out]
   refine hI.h (i,j) ?_
   rw[hys]
   exact items_mem ls (by rw[HM2.out];exact h1) (by rw[HS.out.2 i];exact h2))
  have a1:=hI.a.cell
  have a2:=hI.a.frozen
  have e1:=hI.e.cell
  have e2:=hI.e.frozen
  clear hI hB hys
  gi_wp2
  go_wp2
  go_region
  have h1:(((W.setCell ⟨w.heap.size+1,0,none⟩ (.int .i64 0)).setCell ⟨w.heap.size+1+1,0,none⟩ (.int .i64 0)).drew).cell? ⟨w.heap.size+1,0,none⟩=some (.int .i64 0) :=
   (World.cell?_setCell_other _ _ _ _ (by simp)).trans (World.cell?_setCell_same' _ _ _ (by rw[a1];rfl))
  have h2:(((W.setCell ⟨w.heap.size+1,0,none⟩ (.int .i64 0)).setCell ⟨w.heap.size+1+1,0,none⟩ (.int .i64 0)).drew).cell? ⟨w.heap.size+1+1,0,none⟩=some (.int .i64 0) :=
   World.cell?_setCell_same' _ _ _ (by rw[World.cell?_setCell_other _ _ _ _ (by simp),e1];rfl)
  have h3:(((W.setCell ⟨w.heap.size+1,0,none⟩ (.int .i64 0)).setCell ⟨w.heap.size+1+1,0,none⟩ (.int .i64 0)).drew).heap[D]?=some (.deferred (some [])):=((KeepsOthers.setCell W ⟨w.heap.size+1,0,none⟩ (.int .i64 0)).trans (KeepsOthers.setCell _ ⟨w.heap.size+1+1,0,none⟩ (.int .i64 0))).same D _ hKD rfl
  have h4:Below w.heap.size w (((W.setCell ⟨w.heap.size+1,0,none⟩ (.int .i64 0)).setCell ⟨w.heap.size+1+1,0,none⟩ (.int .i64 0)).drew):=((HBB.out.setCell (p:=⟨w.heap.size+1,0,none⟩) (by simp) _).setCell (p:=⟨w.heap.size+1+1,0,none⟩) (by simp;omega) _).trans ⟨rfl,rfl,rfl,Nat.le_refl _,fun _ _=>rfl⟩
  generalize (((W.setCell ⟨w.heap.size+1,0,none⟩ (.int .i64 0)).setCell ⟨w.heap.size+1+1,0,none⟩ (.int .i64 0)).drew)=X at h1 h2 h3 h4 ⊢
  go_wp2
  simp only[Exit.noGoto]
  refine⟨by simp,.inl ⟨_,_,rfl,run_takeDeferred h3,?_⟩⟩
  have h1':=cell_kept h1 (grownBy_putObj' _ D (.deferred none)) (fun r e=>(by cases e;exact⟨_,h3,rfl⟩))
  have h2':=cell_kept h2 (grownBy_putObj' _ D (.deferred none)) (fun r e=>(by cases e;exact⟨_,h3,rfl⟩))
  refine⟨.tuple #[.int .i64 0,.int .i64 0],?_,⟨0,0,rfl,⟨fun _=>HALL.out,fun _=>rfl⟩⟩,h4.trans (belowK_b (w:=w) (Nat.le_refl _) _ D _ _ (by omega) h3 rfl rfl)⟩
  simp [results,Tryz.f93,go_sem,h1',h2']
 case stop =>
  rintro D c' pre W hD hpre ⟨⟨rfl,⟨y,hy,hyR⟩,hzz,t,k',hk',ha,he⟩,hB⟩ hKD
  have HBB:=zH hB
  have HNO:=zH (show ¬ ∀i j,i<b.bs.length->j<(blAt b i).length->my b f back over (i,j) from fun h=>by
   obtain⟨z,hz,rfl⟩:=List.mem_map.1 hy
   apply hyR
   rw[ER.out]
   exact h z.1.1 z.1.2 (by rw[<-HM2.out];exact z.2.1) (by rw[<-HS.out.2 z.1.1];exact z.2.2))
  have HK0:=zH hk'
  have a1:=ha.cell
  have a2:=ha.frozen
  have e1:=he.cell
  have e2:=he.frozen
  clear hB hy hyR hpre hk' ha he
  gi_wp2
  go_wp2
  go_region
  have h1:(((W.setCell ⟨w.heap.size+1,0,none⟩ (.int .i64 t)).setCell ⟨w.heap.size+1+1,0,none⟩ (.int .i64 k')).drew).cell? ⟨w.heap.size+1,0,none⟩=some (.int .i64 t) :=
   (World.cell?_setCell_other _ _ _ _ (by simp)).trans (World.cell?_setCell_same' _ _ _ (by rw[a1];rfl))
  have h2:(((W.setCell ⟨w.heap.size+1,0,none⟩ (.int .i64 t)).setCell ⟨w.heap.size+1+1,0,none⟩ (.int .i64 k')).drew).cell? ⟨w.heap.size+1+1,0,none⟩=some (.int .i64 k') :=
   World.cell?_setCell_same' _ _ _ (by rw[World.cell?_setCell_other _ _ _ _ (by simp),e1];rfl)
  have h3:(((W.setCell ⟨w.heap.size+1,0,none⟩ (.int .i64 t)).setCell ⟨w.heap.size+1+1,0,none⟩ (.int .i64 k')).drew).heap[D]?=some (.deferred (some [])):=((KeepsOthers.setCell W ⟨w.heap.size+1,0,none⟩ (.int .i64 t)).trans (KeepsOthers.setCell _ ⟨w.heap.size+1+1,0,none⟩ (.int .i64 k'))).same D _ hKD rfl
  have h4:Below w.heap.size w (((W.setCell ⟨w.heap.size+1,0,none⟩ (.int .i64 t)).setCell ⟨w.heap.size+1+1,0,none⟩ (.int .i64 k')).drew):=((HBB.out.setCell (p:=⟨w.heap.size+1,0,none⟩) (by simp) _).setCell (p:=⟨w.heap.size+1+1,0,none⟩) (by simp;omega) _).trans ⟨rfl,rfl,rfl,Nat.le_refl _,fun _ _=>rfl⟩
  generalize (((W.setCell ⟨w.heap.size+1,0,none⟩ (.int .i64 t)).setCell ⟨w.heap.size+1+1,0,none⟩ (.int .i64 k')).drew)=X at h1 h2 h3 h4 ⊢
  go_wp2
  simp only[Exit.noGoto]
  refine⟨by simp,.inl ⟨_,_,rfl,run_takeDeferred h3,?_⟩⟩
  have h1':=cell_kept h1 (grownBy_putObj' _ D (.deferred none)) (fun r e=>(by cases e;exact⟨_,h3,rfl⟩))
  have h2':=cell_kept h2 (grownBy_putObj' _ D (.deferred none)) (fun r e=>(by cases e;exact⟨_,h3,rfl⟩))
  refine⟨.tuple #[.int .i64 t,.int .i64 k'],?_,⟨t,k',rfl,⟨fun h=>absurd h HK0.out,fun h=>absurd h HNO.out⟩⟩,h4.trans (belowK_b (w:=w) (Nat.le_refl _) _ D _ _ (by omega) h3 rfl rfl)⟩
  simp [results,Tryz.f93,go_sem,h1',h2']
end
section
open Go.RowKit
end
end Go.Proofs.YtjngffgkllakaaaGreatDoor
namespace Go.Proofs.YtjngffgkllakaaaGreatDoor.DD
open List renaming getElem_toArray → zA, getElem_cons_succ → zB, getElem_cons_zero → zC, setIfInBounds_toArray → zD, set_cons_zero → zE, set_cons_succ → zF
open Lib renaming hid → zH
section
open GG
section
variable {to:List (List Int)} {T:Nat->Int}
theorem fin_fn(hr:am to=true)(ha:allB to=true)(F:Fin to.length (an to) (plOf to) T):fnOf (bU to)=T:=by
 rw[<-pd hr ha F];exact qS F.inv.out
theorem dW(hr:am to=true)(ha:allB to=true):(bU to).length=to.length:=by unfold bU domsL;rw[if_pos ⟨hr,ha⟩];simp
theorem fin_tree(hr:am to=true)(ha:allB to=true)(F:Fin to.length (an to) (plOf to) T):treeB (bU to)=true:=by
 have hl:=aB hr
 refine ft.2 ⟨by rw[dW hr ha];exact hl,by rw[fin_fn hr ha F];exact F.inv.root,fun i hi=>?_⟩
 rw[fin_fn hr ha F]
 rw[dW hr ha] at hi
 exact F.inv.to_root _ i (Nat.le_refl _) (F.all i hi)
theorem fin_dom(hr:am to=true)(ha:allB to=true)(F:Fin to.length (an to) (plOf to) T){a b:Nat}(hb:b<to.length):domB (bU to) a b=ovB to a b:=by
 have h1:=domB_iff (a:=a) (b:=b) (fin_tree hr ha F) (by rw[dW hr ha];exact hb)
 rw[fin_fn hr ha F] at h1
 have h2:=(ov_iff hr a b).trans (F.dom b a hb).symm
 cases c1:domB (bU to) a b
 ·cases c2:ovB to a b
  ·rfl
  ·exact absurd (h1.2 (h2.1 c2)) (by rw[c1];simp)
 ·exact(h2.2 (h1.1 c1)).symm
end
end
end Go.Proofs.YtjngffgkllakaaaGreatDoor.DD
namespace Go.Proofs.YtjngffgkllakaaaGreatDoor
open List renaming getElem_toArray → zA, getElem_cons_succ → zB, getElem_cons_zero → zC, setIfInBounds_toArray → zD, set_cons_zero → zE, set_cons_succ → zF
open Lib renaming hid → zH
section
open Go.RowKit
open CD (OpP BodyP CodeP ae blAt fnAt)
def leadsB(l:List OpP):List Int :=
 if (ae l (l.length-1)).k=13 then [] else if (ae l (l.length-1)).k=11 then [(ae l (l.length-1)).r] else if (ae l (l.length-1)).r=(ae l (l.length-1)).a then [(ae l (l.length-1)).r] else [(ae l (l.length-1)).r,(ae l (l.length-1)).a]
def toB(b:BodyP):List (List Int):=b.bs.map leadsB
theorem hU(b:BodyP):(toB b).length=b.bs.length:=by unfold toB;rw[List.length_map]
theorem toB_at(b:BodyP){i:Nat}(hi:i<b.bs.length):(toB b)[i]?.getD []=leadsB (blAt b i):=by
 unfold toB blAt
 rw[List.getElem?_map,List.getElem?_eq_getElem hi]
 rfl
section
variable {q:CD.Cnt} {c:CodeP} {b:BodyP}
theorem mA(h:CD.aL q c b){i:Nat}(hi:i<b.bs.length):CD.Ends (ae (blAt b i) ((blAt b i).length-1)).k:=by
 have h1:=h.2.1 i hi
 have h2:=(h1.2 ((blAt b i).length-1) (by have:=h1.1;omega)).2.1
 exact h2.2 (by have:=h1.1;omega)
theorem last_op(h:CD.aL q c b){i:Nat}(hi:i<b.bs.length):∃nx,CD.OpOk q c b (ae (blAt b i) ((blAt b i).length-1)) nx:=by
 have h1:=h.2.1 i hi
 exact⟨_,(h1.2 ((blAt b i).length-1) (by have:=h1.1;omega)).1⟩
theorem leadsB_ok(h:CD.aL q c b){i:Nat}(hi:i<b.bs.length):GG.bY b.bs.length (leadsB (blAt b i))=true:=by
 obtain⟨nx,ho⟩:=last_op h hi
 have he:=mA h hi
 have hr:=ho.2.2.2.1
 have ha:=ho.2.2.2.2.1
 unfold leadsB GG.bY GG.inB
 obtain⟨x,ex⟩:∃x,x=ae (blAt b i) ((blAt b i).length-1):=⟨_,rfl⟩
 rw[<-ex] at he hr ha ⊢
 rcases he with e | e | e
 ·have e1:CD.refN q b.bs.length x.k=b.bs.length:=by unfold CD.refN;rw[e];rfl
  rw[e1] at hr
  rw[if_neg (by omega),if_pos e]
  simp
  omega
 ·have e1:CD.refN q b.bs.length x.k=b.bs.length:=by unfold CD.refN;rw[e];rfl
  have e2:CD.altN b.bs.length x.k=b.bs.length:=by unfold CD.altN;rw[e];rfl
  rw[e1] at hr
  rw[e2] at ha
  rw[if_neg (by omega),if_neg (by omega)]
  by_cases hra:x.r=x.a
  ·rw[if_pos hra]
   simp
   omega
  ·rw[if_neg hra]
   simp
   omega
 ·rw[if_pos e]
  simp
theorem mB(h:CD.aL q c b):GG.am (toB b)=true:=by
 unfold GG.am
 rw[hU,Bool.and_eq_true]
 refine⟨decide_eq_true (by have:=h.1.2;omega),List.all_eq_true.2 fun row hrow=>?_⟩
 unfold toB at hrow
 obtain⟨l,hl,rfl⟩:=List.mem_map.1 hrow
 obtain⟨i,hi,rfl⟩:=List.getElem_of_mem hl
 have h1:=leadsB_ok h hi
 unfold blAt at h1
 rw[List.getElem?_eq_getElem hi] at h1
 exact h1
theorem leads_rel(h:CD.aL q c b){n₀:Nat}{W:World}{vs:List OpV}{i:Nat}(hi:i<b.bs.length)(hr:dl n₀ W vs (blAt b i)):bw vs=some (leadsB (blAt b i)):=by
 have h1:=(h.2.1 i hi).1
 have hl:=hr.1
 have hv:vs.getLast?=some vs[vs.length-1]:=by rw[List.getLast?_eq_getElem?,List.getElem?_eq_getElem (by omega)]
 have ho:=(hr.2 (vs.length-1) _ (List.getElem?_eq_getElem (by omega))).1
 have he:=mA h hi
 rw[jU hv]
 unfold leadsB
 generalize vs[vs.length-1]=y at ho
 rw[hl] at ho
 obtain⟨x,ex⟩:∃x,x=ae (blAt b i) ((blAt b i).length-1):=⟨_,rfl⟩
 rw[<-ex] at he ho ⊢
 rw[ho.1,ho.2.2.2.1,ho.2.2.2.2.1]
 by_cases e13:x.k=13
 ·rw[if_pos e13,if_pos e13]
 ·rw[if_neg e13,if_neg e13]
  by_cases e11:x.k=11
  ·rw[if_pos e11,if_pos e11]
  ·rw[if_neg e11,if_neg e11,if_pos (by rcases he with e | e | e <;> omega)]
   by_cases e:x.r=x.a
   ·rw[if_pos e,if_pos e]
   ·rw[if_neg e,if_neg e]
theorem of_rel(h:CD.aL q c b){n₀:Nat}{W:World}{ls:List (List OpV)}(h1:ls.length=b.bs.length)(h2:∀j,j<b.bs.length->dl n₀ W (ls[j]?.getD []) (b.bs[j]?.getD [])):ofB ls=true/\ofL ls=toB b:=by
 have hA:∀i,i<ls.length->bw (ls[i]?.getD [])=some (leadsB (blAt b i)):=fun i hi=>leads_rel h (by omega) (h2 i (by omega))
 have hW:db ls ls.length=toB b:=by
  apply List.ext_getElem?
  intro i
  unfold db toB
  rw[List.take_length,List.getElem?_map,List.getElem?_map]
  by_cases hi:i<ls.length
  ·have:=hA i hi
   rw[List.getElem?_eq_getElem hi] at this ⊢
   rw[List.getElem?_eq_getElem (show i<b.bs.length by omega)]
   simp only[Option.map_some,Option.getD_some] at this ⊢
   rw[this]
   unfold blAt
   rw[List.getElem?_eq_getElem (show i<b.bs.length by omega)]
   rfl
  ·rw[List.getElem?_eq_none (by omega),List.getElem?_eq_none (by omega)]
   rfl
 have hb:ofB ls=true:=by
  rw[ofB_yes (okI_yes fun i hi=>by rw[hA i hi];rfl),hW]
  exact mB h
 exact⟨hb,by unfold ofL;rw[if_pos hb,hW]⟩
end
theorem toB_small{q:CD.Cnt}{c:CodeP}{b:BodyP}(h:CD.aL q c b):cd (toB b):=by
 refine⟨by rw[hU];have:=h.1.2;omega,fun row hr=>?_⟩
 unfold toB at hr
 obtain⟨l,_,rfl⟩:=List.mem_map.1 hr
 unfold leadsB
 split
 ·simp
 ·split
  ·simp
  ·split <;> simp
theorem rl(to:List (List Int)):(DD.bU to).length<=to.length:=by
 by_cases h:GG.am to=true/\DD.allB to=true
 ·rw[DD.dW h.1 h.2]
  exact Nat.le_refl _
 ·unfold DD.bU
  rw[if_neg h]
  exact Nat.zero_le _
theorem jI{to:List (List Int)}(hr:GG.am to=true)(h:gZ to):DD.allB to=true:=by
 have h1:=h.1
 unfold gg at h1
 rw[if_pos hr] at h1
 unfold DD.allB
 refine List.all_eq_true.2 fun x hx=>?_
 unfold GG.cz at h1
 cases e:(List.range to.length).find? (fun x=>!GG.reachB to (-1) 0 x) with
 | some k=>rw[e] at h1;simp only at h1;omega
 | none =>
   have h2:=List.find?_eq_none.1 e x hx
   simpa using h2
theorem rm{b:BodyP}(h:(toB b).length=b.bs.length)(h2:b.bs.length<=64)(i:Nat):((GG.bz (toB b))[i]?.getD []).length<=4000:=by
 by_cases hi:i<(toB b).length
 ·rw[GG.iV hi]
  have:=jE (toB b) i (toB b).length
  omega
 ·rw[List.getElem?_eq_none (by rw[GG.bG];omega)]
  simp
theorem nS(xs:List Int)(i:Nat):((chainsL xs)[i]?.getD []).length<=4000:=by
 by_cases hi:i<xs.length
 ·rw[kV xs hi]
  have:=kT xs (i:Int)
  omega
 ·rw[List.getElem?_eq_none (by show (chainsTo xs xs.length).length<=i;rw[fO];omega)]
  simp
def nT(b:BodyP)(to:List (List Int))(v bi:Nat)(ki:Int):Bool :=
 if (v:Int)<b.pa then true else if FF b (itB b) (v*2)=bi then decide (FF b (itB b) (v*2+1)<ki) else DD.ovB to (FF b (itB b) (v*2)).toNat bi
def endsR(b:BodyP)(to:List (List Int))(v bi:Nat):Bool :=
 if (v:Int)<b.pa then true else DD.ovB to (FF b (itB b) (v*2)).toNat bi
def fromR(to:List (List Int))(ys:List Int)(bi:Nat):Prop:=∀i,i<to.length->ys.count (i:Int)=if GG.leadsB to i (bi:Int)=true then 1 else 0
def UseR(b:BodyP)(to:List (List Int))(y:Nat × Nat):Prop :=
 if (ae (blAt b y.1) y.2).k=3 then fromR to (ae (blAt b y.1) y.2).ys y.1/\∀j,j<(ae (blAt b y.1) y.2).xs.length->endsR b to ((ae (blAt b y.1) y.2).xs[j]?.getD 0).toNat ((ae (blAt b y.1) y.2).ys[j]?.getD 0).toNat=true
 else ∀j,j<(ae (blAt b y.1) y.2).xs.length->nT b to ((ae (blAt b y.1) y.2).xs[j]?.getD 0).toNat y.1 y.2=true
theorem px{to:List (List Int)}{ys:List Int}{bi:Nat}(hy:∀x∈ys,0<=x/\x<(to.length:Nat)):de ys=GG.bZ to bi to.length↔fromR to ys bi:=by
 have hp:(de ys).Perm ys:=List.mergeSort_perm _ _
 have hn:=GG.jR to bi to.length
 have hm:∀i:Nat,i<to.length->((i:Int)∈GG.bZ to bi to.length↔GG.leadsB to i (bi:Int)=true):=by
  intro i hi
  rw[GG.di]
  unfold GG.leadsB
  rw[decide_eq_true_iff]
  constructor
  ·rintro ⟨k,e,_,h⟩
   have:k=i:=by omega
   rw[<-this];exact h
  ·exact fun h=>⟨i,rfl,hi,h⟩
 constructor
 ·intro e i hi
  rw[<-hp.count_eq,e,hn.count]
  by_cases h:GG.leadsB to i (bi:Int)=true
  ·rw[if_pos ((hm i hi).2 h),if_pos h]
  ·rw[if_neg (fun h'=>h ((hm i hi).1 h')),if_neg h]
 ·intro h
  have hperm:ys.Perm (GG.bZ to bi to.length):=by
   rw[List.perm_iff_count]
   intro a
   by_cases ha:0<=a/\a<(to.length:Nat)
   ·obtain⟨i,rfl⟩:∃i:Nat,a=(i:Int):=⟨a.toNat,by omega⟩
    have hi:i<to.length:=by omega
    rw[h i hi,hn.count]
    by_cases h:GG.leadsB to i (bi:Int)=true
    ·rw[if_pos ((hm i hi).2 h),if_pos h]
    ·rw[if_neg (fun h'=>h ((hm i hi).1 h')),if_neg h]
   ·rw[List.count_eq_zero.2 (fun hm=>ha (hy a hm)),List.count_eq_zero.2 (fun hm=>ha (by
    obtain⟨k,rfl,hk,_⟩:=GG.di.1 hm
    omega))]
  refine(hp.trans hperm).eq_of_pairwise (le:=fun x y:Int=>decide (x<=y)=true) (fun a b _ _ h1 h2=>by simp at h1 h2;omega) (List.pairwise_mergeSort (fun a b c h1 h2=>by simp at *;omega) (fun a b=>by simp;omega) ys) ?_
  exact(GG.nj to bi to.length).imp (fun h=>by simp;omega)
theorem mC{to:List (List Int)}(hr:GG.am to=true)(ha:DD.allB to=true)(hF:nO to){x bi:Nat}(hb:bi<to.length):(decide ((x:Int)∈(chainsL (DD.bU to))[bi]?.getD []))=DD.ovB to x bi:=by
 obtain⟨T,F⟩:=hF hr ha
 rw[kV _ (by rw[DD.dW hr ha];exact hb)]
 exact DD.fin_dom hr ha F hb
section
variable {q:CD.Cnt} {c:CodeP} {b:BodyP}
theorem ff_at(h:CD.aL q c b){v:Nat}(h1:b.pa<=v)(h2:(v:Int)<b.va):∃i k:Nat,i<b.bs.length/\k<(blAt b i).length/\(ae (blAt b i) k).d=(v:Nat)/\FF b (itB b) (v*2)=(i:Nat)/\FF b (itB b) (v*2+1)=(k:Nat):=by
 have hs:gX (b.bs.map fun l=>l.map fun _=>ov0) b:=⟨by rw[List.length_map],itB_at b⟩
 have hd:=ph h hs
 have h0:=CD.ew (blAt b b.bs.length)
 have h3:=h.2.2
 have h4:=h.1.1.1
 obtain⟨i,k,a1,a2,_,a4,a5,a6⟩:=hd.hi v (by omega) (by omega)
 exact⟨i,k,a1,a2,a4,a5,a6⟩
theorem there_eq(h:CD.aL q c b)(hr:GG.am (toB b)=true)(ha:DD.allB (toB b)=true)(hF:nO (toB b)){v bi:Nat}(hv:(v:Int)<b.va)(hb:bi<b.bs.length){ki:Int} :
 cJ b (FF b (itB b)) (chainsL (DD.bU (toB b))) v bi ki=nT b (toB b) v bi ki:=by
 unfold cJ nT
 by_cases hp:(v:Int)<b.pa
 ·rw[if_pos hp,if_pos hp]
 ·rw[if_neg hp,if_neg hp]
  obtain⟨i',k',a1,a2,a3,a4,a5⟩:=ff_at h (by omega) hv
  rw[a4,a5,Int.toNat_natCast]
  by_cases e:(i':Int)=(bi:Int)
  ·rw[if_pos e,if_pos e]
  ·rw[if_neg e,if_neg e,mC hr ha hF (by rw[hU];exact hb)]
theorem pz(h:CD.aL q c b)(hr:GG.am (toB b)=true)(ha:DD.allB (toB b)=true)(hF:nO (toB b)){i j:Nat}(hi:i<b.bs.length)(hj:j<(blAt b i).length) :
 my b (FF b (itB b)) (GG.bz (toB b)) (chainsL (DD.bU (toB b))) (i,j)↔UseR b (toB b) (i,j):=by
 have hl:=hU b
 have ho:=((h.2.1 i hi).2 j hj).1
 obtain⟨x,ex⟩:∃x,x=ae (blAt b i) j:=⟨_,rfl⟩
 rw[<-ex] at ho
 have hxs:=ho.2.2.2.2.2.2.1
 have hys:=ho.2.2.2.2.2.2.2
 unfold my UseR
 simp only[<-ex]
 by_cases h3:x.k=3
 ·rw[if_pos h3]
  have hc:=ho.2.2.2.2.2.1
  unfold CD.aJ at hc
  rw[if_pos h3] at hc
  rw[GG.iV (by omega)]
  refine and_congr ⟨fun g=>(px ?_).1 (g h3),fun g _=>(px ?_).2 g⟩ (forall_congr' fun m=>forall_congr' fun hm=>?_)
  ·intro y hy
   obtain⟨m,hm,rfl⟩:=List.getElem_of_mem hy
   have:=hys m hm
   rw[List.getElem?_eq_getElem hm] at this
   rw[hl];exact this
  ·intro y hy
   obtain⟨m,hm,rfl⟩:=List.getElem_of_mem hy
   have:=hys m hm
   rw[List.getElem?_eq_getElem hm] at this
   rw[hl];exact this
  ·have h1:=hxs m hm
   have h2:=hys m (by omega)
   unfold aH
   rw[if_pos h3]
   simp only
   obtain⟨v,ev⟩:∃v:Nat,x.xs[m]?.getD 0=(v:Int):=⟨(x.xs[m]?.getD 0).toNat,by omega⟩
   obtain⟨f,ef⟩:∃f:Nat,x.ys[m]?.getD 0=(f:Int):=⟨(x.ys[m]?.getD 0).toNat,by omega⟩
   rw[ev] at h1 ⊢
   rw[ef] at h2 ⊢
   rw[Int.toNat_natCast,Int.toNat_natCast]
   unfold cJ endsR
   by_cases hp:(v:Int)<b.pa
   ·rw[if_pos hp,if_pos hp]
   ·rw[if_neg hp,if_neg hp]
    obtain⟨i',k',a1,a2,a3,a4,a5⟩:=ff_at h (by omega) h1.2
    rw[a4,a5,Int.toNat_natCast]
    by_cases e:(i':Int)=(f:Int)
    ·have e':i'=f:=by omega
     subst e'
     rw[if_pos rfl,decide_eq_true (by omega)]
     unfold DD.ovB
     rw[decide_eq_true rfl,Bool.true_or]
    ·rw[if_neg e,mC hr ha hF (by omega)]
 ·rw[if_neg h3]
  have hT:∀m,m<x.xs.length->cJ b (FF b (itB b)) (chainsL (DD.bU (toB b))) (x.xs[m]?.getD 0).toNat (aH b x m i j).1.toNat (aH b x m i j).2=nT b (toB b) (x.xs[m]?.getD 0).toNat i j:=by
   intro m hm
   have h1:=hxs m hm
   unfold aH
   rw[if_neg h3]
   simp only[Int.toNat_natCast]
   exact there_eq h hr ha hF (by omega) hi
  refine⟨fun g m hm=>?_,fun g=>⟨fun g'=>absurd g' h3,fun m hm=>?_⟩⟩
  ·rw[<-hT m hm];exact g.2 m hm
  ·rw[hT m hm];exact g m hm
end
end
section
open Go.RowKit
open CD (OpP BodyP CodeP ae blAt fnAt)
def jY(b:BodyP):Prop:=gZ (toB b)/\∀i j,i<b.bs.length->j<(blAt b i).length->UseR b (toB b) (i,j)
set_option maxRecDepth 100000 in
set_option maxHeartbeats 3200000 in
theorem fault_any{q:CD.Cnt}{c:CodeP}{b:BodyP}(hb:CD.aL q c b)(hk:∀k,k<b.bs.length->(blAt b k).length<=300)(hv:b.va<=400)(hpa:∀r,CD.paAt c r<=4096)(ba:Option Addr)(bc n₀:Nat)(w:World)(hn:n₀<=w.heap.size)(hM:aX n₀ w (.slice ba b.bs.length bc) b.bs) :
 Calls Tryz.prog 58 #[.agg #[.int .i64 b.pa,.int .i64 b.va,.slice ba b.bs.length bc]] w fun e w'=>(∃(at':Int) (k:Nat),e=.returned (.tuple #[.int .i64 at',.int .i64 k])/\(k=0↔jY b))/\Below w.heap.size w w':=by
 have HM:=zH hM
 obtain⟨ls,hM1,hM2,hM3⟩:=hM
 have hof:=of_rel hb hM2 hM3
 have HR:=zH (mB hb)
 have HSM:=zH (show cd (toB b) from toB_small hb)
 have HTL:=zH (hU b)
 have HL:=zH hb.1.2
 have HBO:=zH hb
 have HB1:=zH ((Below.refl w.heap.size w).alloc (Nat.le_refl _) (.cells #[.int .i64 b.pa,.int .i64 b.va,.slice ba b.bs.length bc] 52))
 have HW1:=zH (heap_alloc_new w (.cells #[.int .i64 b.pa,.int .i64 b.va,.slice ba b.bs.length bc] 52))
 have HOF:=zH (of_any b.pa b.va (w.alloc (.cells #[.int .i64 b.pa,.int .i64 b.va,.slice ba b.bs.length bc] 52)) ((hM1.below (HB1.out.mono hn)).mono (Nat.le_trans hn HB1.out.size)) (by have:=hb.1.2;omega) (fun l hl=>by obtain⟨i,hi,rfl⟩:=List.getElem_of_mem hl;have h1:=(hM3 i (by omega)).1;have h2:=hk i (by omega);unfold blAt at h2;rw[List.getElem?_eq_getElem hi] at h1;simp only[Option.getD_some] at h1;omega))
 unfold OfP at HOF
 rw[hof.1,hof.2] at HOF
 have HN:=zH hn
 have HK:=zH hk
 have HVA:=zH hv
 have HPA:=zH hpa
 clear hM1 hM2 hM3 hof hb hk hv hpa hn
 go_enter Tryz.func58,Tryz.ntmps58
 go_upto_region 3 with(first
  | (go_at_call 87;refine HOF.out.mono ?_;rintro e w1 ⟨v,rfl,hg,hb1⟩
     obtain⟨va,vc,rfl⟩:=hg.form
     have HG1:=zH hg
     have HB2:=zH (bstep HB1.out hb1)
     have HBX:=zH ((hb1.block _ (by simp)).trans HW1.out)
     clear hg hb1)
  | (go_at_call 88;refine(qY _ HG1.out HSM.out HR.out (by have:=HL.out;have:=HTL.out;omega)).mono ?_;rintro e w2 ⟨⟨ai,ak,rfl,hak,hai⟩,hb2⟩
     have HG2:=zH (HG1.out.on hb2 hb2.size)
     have HB3:=zH (bstep HB2.out hb2)
     have HX2:=zH ((hb2.block _ (Array.getElem?_eq_some_iff.1 HBX.out).1).trans HBX.out)
     have HAK:=zH hak
     clear hb2 hak))
 by_cases hz:ak=0
 ·subst hz
  have HFREE:=zH (HAK.out.1 rfl)
  have hb0:w2.cell? ⟨w.heap.size,0,none⟩=some (.int .i64 b.pa):=cell_of_row _ _ 0 _ _ _ HX2.out
  have hb1:w2.cell? ⟨w.heap.size,1,none⟩=some (.int .i64 b.va):=cell_of_row _ _ 1 _ _ _ HX2.out
  have hb2:w2.cell? ⟨w.heap.size,2,none⟩=some (.slice ba b.bs.length bc):=cell_of_row _ _ 2 _ _ _ HX2.out
  have HDF:=zH (defs_any q c b HBO.out HK.out HVA.out ba bc n₀ w2 (Nat.le_trans HN.out HB3.out.size) (HM.out.below (HB3.out.mono HN.out)))
  go_upto_region 6 with(go_at_call 89;refine HDF.out.mono ?_;rintro e w3 ⟨g,ff,rfl,hpn,hdi,rfl,hb3⟩)
  have HPN:=zH hpn
  have HB4:=zH (bstep HB3.out hb3)
  have HX3:=zH ((hb3.block _ (Array.getElem?_eq_some_iff.1 HX2.out).1).trans HX2.out)
  have hb0':w3.cell? ⟨w.heap.size,0,none⟩=some (.int .i64 b.pa):=(hb3.cell (p:=⟨w.heap.size,0,none⟩) (Array.getElem?_eq_some_iff.1 HX2.out).1).trans hb0
  have hb1':w3.cell? ⟨w.heap.size,1,none⟩=some (.int .i64 b.va):=(hb3.cell (p:=⟨w.heap.size,1,none⟩) (Array.getElem?_eq_some_iff.1 HX2.out).1).trans hb1
  have hb2':w3.cell? ⟨w.heap.size,2,none⟩=some (.slice ba b.bs.length bc):=(hb3.cell (p:=⟨w.heap.size,2,none⟩) (Array.getElem?_eq_some_iff.1 HX2.out).1).trans hb2
  have hl3:w.heap.size<w3.heap.size:=(Array.getElem?_eq_some_iff.1 HX3.out).1
  have HGV:=zH (fun(V:World) (h:Below w3.heap.size w3 V)=>(HG2.out.on hb3 hb3.size).on h h.size)
  have HBE:=zH (show fl (toB b)=GG.bz (toB b) from if_pos HR.out)
  have HTREE:=zH (show (DD.bU (toB b)).length=b.bs.length by rw[DD.dW HR.out (jI HR.out HFREE.out),HTL.out])
  have htl:(DD.bU (toB b)).length<=4294967296:=by have:=rl (toB b);have:=HL.out;have:=HTL.out;omega
  clear hpn hdi hb3 hb0 hb1 hb2 HDF HOF HG1 HB2 HBX
  go_region_with (first
   | (go_at_call 90;refine(gt _ (HGV.out _ (by first | exact hBB | exact hTT | exact hCC | exact⟨rfl,rfl,rfl,Nat.le_refl _,fun _ _=>rfl⟩)) HSM.out).mono ?_;rintro e wB ⟨kv,rfl,hgB,hbB⟩;obtain⟨kva,kvc,rfl⟩:=hgB.form;have hBB:=bstep (a:=w3) (by first | exact hTT | exact hCC | exact⟨rfl,rfl,rfl,Nat.le_refl _,fun _ _=>rfl⟩) hbB;have kwB0:wB.cell? ⟨w.heap.size,0,none⟩=some (.int .i64 b.pa):=(hBB.cell (p:=⟨w.heap.size,0,none⟩) hl3).trans hb0';have kwB1:wB.cell? ⟨w.heap.size,1,none⟩=some (.int .i64 b.va):=(hBB.cell (p:=⟨w.heap.size,1,none⟩) hl3).trans hb1';have kwB2:wB.cell? ⟨w.heap.size,2,none⟩=some (.slice ba b.bs.length bc):=(hBB.cell (p:=⟨w.heap.size,2,none⟩) hl3).trans hb2')
   | (go_at_call 92;refine(tree_full _ (HGV.out _ (by first | exact hBB | exact hTT | exact hCC | exact⟨rfl,rfl,rfl,Nat.le_refl _,fun _ _=>rfl⟩)) HSM.out).mono ?_;rintro e wT ⟨⟨tv,rfl,hrT,hbT⟩,htok⟩;have HTOK:=zH htok;clear htok;obtain⟨tva,tvc,rfl⟩:=hrT.form;have hTT:=bstep (a:=w3) (by first | exact hBB | exact hCC | exact⟨rfl,rfl,rfl,Nat.le_refl _,fun _ _=>rfl⟩) hbT;have kwT0:wT.cell? ⟨w.heap.size,0,none⟩=some (.int .i64 b.pa):=(hTT.cell (p:=⟨w.heap.size,0,none⟩) hl3).trans hb0';have kwT1:wT.cell? ⟨w.heap.size,1,none⟩=some (.int .i64 b.va):=(hTT.cell (p:=⟨w.heap.size,1,none⟩) hl3).trans hb1';have kwT2:wT.cell? ⟨w.heap.size,2,none⟩=some (.slice ba b.bs.length bc):=(hTT.cell (p:=⟨w.heap.size,2,none⟩) hl3).trans hb2')
   | (go_at_call 91;refine(re _ (by first | exact hrT | exact(hrT.below hbB).mono hbB.size) htl).mono ?_;rintro e wC ⟨ov,rfl,hgC,hbC⟩;obtain⟨ova,ovc,rfl⟩:=hgC.form;have hCC:=bstep (a:=w3) (by first | exact hBB | exact hTT | exact⟨rfl,rfl,rfl,Nat.le_refl _,fun _ _=>rfl⟩) hbC;have kwC0:wC.cell? ⟨w.heap.size,0,none⟩=some (.int .i64 b.pa):=(hCC.cell (p:=⟨w.heap.size,0,none⟩) hl3).trans hb0';have kwC1:wC.cell? ⟨w.heap.size,1,none⟩=some (.int .i64 b.va):=(hCC.cell (p:=⟨w.heap.size,1,none⟩) hl3).trans hb1';have kwC2:wC.cell? ⟨w.heap.size,2,none⟩=some (.slice ba b.bs.length bc):=(hCC.cell (p:=⟨w.heap.size,2,none⟩) hl3).trans hb2'))
  all_goals (
   have hgBC:az wC.heap.size wC (.slice kva (fl (toB b)).length kvc) (fl (toB b)):=by
    first
     | exact(hgB.below hbC).mono hbC.size
     | exact(((hgB.below hbT).mono hbT.size).below hbC).mono hbC.size
   rw[HBE.out] at hgBC ⊢
   have hA:Below wC.heap.size wC (wC.alloc (.cells #[.int .i64 b.pa,.int .i64 b.va,.slice ba b.bs.length bc,.slice (some ⟨g,0,none⟩) b.va.toNat b.va.toNat,.slice kva (GG.bz (toB b)).length kvc,.slice ova (chainsL (DD.bU (toB b))).length ovc] 166)):=(Below.refl _ _).alloc (Nat.le_refl _) _
   have hgl3:g<w3.heap.size:=World.rowIs.lt HPN.out
   have hC3:=hCC.size
   have HF:=zH (show FnM (wC.heap.size+1) wC.heap.size b (FF b (itB b)) (GG.bz (toB b)) (chainsL (DD.bU (toB b))) ba bc g (.slice kva (GG.bz (toB b)).length kvc) (.slice ova (chainsL (DD.bU (toB b))).length ovc) (wC.alloc (.cells #[.int .i64 b.pa,.int .i64 b.va,.slice ba b.bs.length bc,.slice (some ⟨g,0,none⟩) b.va.toNat b.va.toNat,.slice kva (GG.bz (toB b)).length kvc,.slice ova (chainsL (DD.bU (toB b))).length ovc] 166)) from
    ⟨by omega,by omega,heap_alloc_new _ _,World.rowIs.alloc (World.rowIs.of_block HPN.out (hCC.block g hgl3)) _,(hgBC.below hA).mono (by omega),(hgC.below hA).mono (by omega),((HM.out.below ((HB4.out.trans (hCC.mono HB4.out.size)).mono HN.out)).below (hA.mono (by have:=HN.out;have:=HB4.out.size;omega))).mono (by have:=HN.out;have:=HB4.out.size;omega)⟩)
   have HMI:=zH (pw HBO.out HK.out HVA.out HPA.out (wC.alloc (.cells #[.int .i64 b.pa,.int .i64 b.va,.slice ba b.bs.length bc,.slice (some ⟨g,0,none⟩) b.va.toNat b.va.toNat,.slice kva (GG.bz (toB b)).length kvc,.slice ova (chainsL (DD.bU (toB b))).length ovc] 166)) HF.out (by rw[World.size_alloc];omega) (by rw[GG.bG,HTL.out]) (by rw[show (chainsL (DD.bU (toB b))).length=(DD.bU (toB b)).length from fO _ _,HTREE.out]) (fun i=>rm HTL.out HL.out.2 i) (fun i=>nS _ i))
   have HBF:=zH ((HB4.out.trans (hCC.mono HB4.out.size)).alloc (by have:=HB4.out.size;omega) (.cells #[.int .i64 b.pa,.int .i64 b.va,.slice ba b.bs.length bc,.slice (some ⟨g,0,none⟩) b.va.toNat b.va.toNat,.slice kva (GG.bz (toB b)).length kvc,.slice ova (chainsL (DD.bU (toB b))).length ovc] 166))
   simp only[zA,zB,zC,Act.put,zD,zE,zF]
   clear hgBC hA hgC hgB hrT hbC hbT hbB
   go_wp2_with (go_at_call 93;refine HMI.out.mono ?_;rintro e w9 ⟨⟨at9,k9,rfl,hk9⟩,hb9⟩)
   go_ret2
   exact⟨⟨at9,k9,rfl,hk9.trans ⟨fun h=>⟨HFREE.out,fun i j hi hj=>(pz HBO.out HR.out (jI HR.out HFREE.out) HTOK.out hi hj).1 (h i j hi hj)⟩,fun h i j hi hj=>(pz HBO.out HR.out (jI HR.out HFREE.out) HTOK.out hi hj).2 (h.2 i j hi hj)⟩⟩,bstep HBF.out hb9⟩)
 ·have HZ:=zH hz
  have hii:ai<b.bs.length:=by have:=HTL.out;omega
  obtain⟨bb,bo,ba',bc',eba,hbb,hbc,hops⟩:=(HM.out.below (HB3.out.mono HN.out)).at hii
  have h1:=(HBO.out.2.1 ai hii).1
  have h1':0<(b.bs[ai]?.getD []).length:=h1
  obtain⟨blk,off,xa,xc,ya,yc,eb,hblk,hcs,_,_⟩:=hops.at h1'
  subst eb
  have hat:=hcs 8 _ rfl
  have hb2:w2.cell? ⟨w.heap.size,2,none⟩=some (.slice ba b.bs.length bc):=cell_of_row _ _ 2 _ _ _ HX2.out
  subst eba
  obtain⟨bl,ebl⟩:∃bl,bl=(b.bs[ai]?.getD []).length:=⟨_,rfl⟩
  rw[<-ebl] at hbc h1'
  obtain⟨tt,ett⟩:∃tt,tt=(ae (b.bs[ai]?.getD []) 0).t:=⟨_,rfl⟩
  replace hat:w2.cell? ⟨blk,off+8,none⟩=some (.int .i64 tt):=by
   rw[ett]
   have h9:=hat
   simp only[Nat.zero_mul,Nat.add_zero] at h9
   exact h9
  have i1:(0:Int)<=ai/\(ai:Int)<b.bs.length:=by omega
  have hne:((ak:Int) != 0)=true:=by rw[bne_iff_ne];omega
  clear hcs hops ebl ett h1
  go_wp2_with fail
  go_ret2
  exact⟨⟨tt,ak,rfl,⟨fun h=>absurd h HZ.out,fun h=>absurd (HAK.out.2 h.1) HZ.out⟩⟩,HB3.out⟩
end
section
open Go.RowKit
open CD (OpP BodyP CodeP ae blAt fnAt)
theorem box3{w:World}{b:Nat}{t:TypeId}{v0 v1 v2:Value}(h:w.heap[b]?=some (.cells #[v0,v1,v2] t)) :
 w.cell? ⟨b,0,none⟩=some v0/\w.cell? ⟨b,1,none⟩=some v1/\w.cell? ⟨b,2,none⟩=some v2 :=
 ⟨cell_of_row _ _ 0 _ _ _ h,cell_of_row _ _ 1 _ _ _ h,cell_of_row _ _ 2 _ _ _ h⟩
def jZ(b:BodyP)(ba:Option Addr)(bc:Nat):Obj:=.cells #[.int .i64 b.pa,.int .i64 b.va,.slice ba b.bs.length bc] 52
set_option maxRecDepth 100000 in
set_option maxHeartbeats 12800000 in
theorem nbody_any{n₀:Nat}(B:Nat)(av fv:Value)(c:CodeP)(b:BodyP)(q:CD.Cnt)(nb0 nv0 nx0 lf:Int)(ba:Option Addr)(bc:Nat)(w:World)(h:Ck B w (ckC av fv c.mn0 q nb0 nv0 nx0 lf))(hf:bh n₀ w fv c.fs)(hn:n₀<=B)(hfl:c.fs.length<=100)(hqf:q.fn=c.fs.length)(hbl:b.bs.length<=100)(hl:∀k,k<b.bs.length->(blAt b k).length<=300)(hs:∀k,k<b.bs.length->∀j,j<(blAt b k).length->eA (ae (blAt b k) j))(hlf:(CD.lenB b b.bs.length:Int)<=lf/\lf<=4096)(hT:ShT w)(hBT:B≠shG)
 (hv:aX n₀ w (.slice ba b.bs.length bc) b.bs) :
 Calls Tryz.prog 136 #[.pointer (some ⟨B,0,none⟩),.agg #[.int .i64 b.pa,.int .i64 b.va,.slice ba b.bs.length bc]] w fun e w'=>e=.returned (.bool (CD.tf (CD.aL q c b)))/\w.grownBy w' (some B)/\(CD.aL q c b->∃nb nv nx,Ck B w' (ckC av fv c.mn0 q nb nv nx (lf-CD.lenB b b.bs.length))):=by
 have hBw:=h.lt
 obtain⟨z,ez⟩:∃z,z=CD.tf (CD.aL q c b):=⟨_,rfl⟩
 rw[<-ez]
 have HZ:=zH ez
 clear ez
 have HBW:=zH (show w.grownBy (w.alloc (jZ b ba bc)) (some B) from aN _ ((Below.refl _ _).alloc (Nat.le_refl _) _))
 have bad:¬((0<=b.pa/\b.pa<=6)/\(1<=b.bs.length/\b.bs.length<=64))->z=false/\¬CD.aL q c b:=fun hb=>⟨by rw[HZ.out];exact CD.bg (fun h=>hb h.1),fun h=>hb h.1⟩
 rcases Decidable.em (b.pa<0) with p1 | p1
 ·obtain⟨e0,hno⟩:=bad (by omega)
  have HNO:=zH hno
  clear bad HZ hno hl hs
  subst e0
  go_enter Tryz.func136,Tryz.ntmps136
  go_wp2_with fail
  go_ret
  exact⟨rfl,HBW.out,fun h=>absurd h HNO.out⟩
 ·rcases Decidable.em (6<b.pa) with p2 | p2
  ·obtain⟨e0,hno⟩:=bad (by omega)
   have HNO:=zH hno
   clear bad HZ hno hl hs
   subst e0
   go_enter Tryz.func136,Tryz.ntmps136
   go_wp2_with fail
   go_ret
   exact⟨rfl,HBW.out,fun h=>absurd h HNO.out⟩
  ·rcases Decidable.em ((b.bs.length:Int)<1) with p3 | p3
   ·obtain⟨e0,hno⟩:=bad (by omega)
    have HNO:=zH hno
    clear bad HZ hno hl hs
    subst e0
    go_enter Tryz.func136,Tryz.ntmps136
    go_wp2_with fail
    go_ret
    exact⟨rfl,HBW.out,fun h=>absurd h HNO.out⟩
   ·rcases Decidable.em (64<(b.bs.length:Int)) with p4 | p4
    ·obtain⟨e0,hno⟩:=bad (by omega)
     have HNO:=zH hno
     clear bad HZ hno hl hs
     subst e0
     go_enter Tryz.func136,Tryz.ntmps136
     go_wp2_with fail
     go_ret
     exact⟨rfl,HBW.out,fun h=>absurd h HNO.out⟩
    ·clear bad
     have HGD:=zH (show (0<=b.pa/\b.pa<=6)/\(1<=b.bs.length/\b.bs.length<=64) by omega)
     have HV:=zH hv
     have HF:=zH hf
     have HS:=zH hs
     have HL:=zH hl
     have HT:=zH hT
     have HFL:=zH hfl
     have HQF:=zH hqf
     have HLF:=zH hlf
     have i3:(b.bs.length:Int)<=64:=by omega
     have HCK:=zH (show Ck B (w.alloc (jZ b ba bc)).drew (ckC av fv c.mn0 q nb0 nv0 nx0 lf) from(h.on (((Below.refl _ _).alloc (Nat.le_refl _) _).trans ⟨rfl,rfl,rfl,Nat.le_refl _,fun _ _=>rfl⟩)))
     have HGK:=zH (show w.grownBy (w.alloc (jZ b ba bc)).drew (some B) from aN _ (((Below.refl _ _).alloc (Nat.le_refl _) _).trans ⟨rfl,rfl,rfl,Nat.le_refl _,fun _ _=>rfl⟩))
     have HKB:=zH (show (w.alloc (jZ b ba bc)).drew.heap[w.heap.size]?=some (jZ b ba bc) from heap_alloc_new _ _)
     have HBX:=zH (show B≠w.heap.size by omega)
     unfold jZ at HCK HGK HKB
     clear hv hf hs hl hT hfl hqf hlf h HBW
     go_enter Tryz.func136,Tryz.ntmps136
     go_wp2_with fail
     refine wp_region_held_drew (S:=(fun V=>V.cell? ⟨w.heap.size,0,none⟩=some (.int .i64 b.pa)/\V.cell? ⟨w.heap.size,1,none⟩=some (.int .i64 b.va)/\V.cell? ⟨w.heap.size,2,none⟩=some (.slice ba b.bs.length bc))) (by kernel_rfl) ?_ (fun hHeld=>?_)
     ·exact box3 HKB.out
     generalize (w.alloc (.cells #[.int .i64 b.pa,.int .i64 b.va,.slice ba b.bs.length bc] 52)).drew=w1 at HCK HGK HKB hHeld ⊢
     obtain⟨hc0,hc1,hc2⟩:=box3 HKB.out
     refine tkV 0 (.pointer (some ⟨B,0,none⟩)) rfl (fun W hSW=>?_) hHeld ?_
     ·((try dsimp only at hSW);go_split_ands;go_simp <;> with_reducible rfl)
     try simp only[zA,zB,zC,Act.put,zD,zE,zF]
     refine tkV 1 (.pointer (some ⟨B,0,none⟩)) rfl (fun W hSW=>?_) hHeld ?_
     ·((try dsimp only at hSW);go_split_ands;go_simp <;> with_reducible rfl)
     try simp only[zA,zB,zC,Act.put,zD,zE,zF]
     refine tkV 2 (.pointer (some ⟨B,0,none⟩)) rfl (fun W hSW=>?_) hHeld ?_
     ·((try dsimp only at hSW);go_split_ands;go_simp <;> with_reducible rfl)
     try simp only[zA,zB,zC,Act.put,zD,zE,zF]
     refine tkV 3 (.pointer (some ⟨w.heap.size,2,none⟩)) rfl (fun W hSW=>?_) hHeld ?_
     ·((try dsimp only at hSW);go_split_ands;go_simp <;> with_reducible rfl)
     try simp only[zA,zB,zC,Act.put,zD,zE,zF]
     refine tkV 4 (.slice ba b.bs.length bc) rfl (fun W hSW=>?_) hHeld ?_
     ·((try dsimp only at hSW);go_split_ands;go_simp <;> with_reducible rfl)
     try simp only[zA,zB,zC,Act.put,zD,zE,zF]
     refine tkV 5 (.int .i64 b.bs.length) rfl (fun W hSW=>?_) hHeld ?_
     ·((try dsimp only at hSW);go_split_ands;go_simp <;> with_reducible rfl)
     try simp only[zA,zB,zC,Act.put,zD,zE,zF]
     refine tkV 6 (.pointer (some ⟨w.heap.size,1,none⟩)) rfl (fun W hSW=>?_) hHeld ?_
     ·((try dsimp only at hSW);go_split_ands;go_simp <;> with_reducible rfl)
     try simp only[zA,zB,zC,Act.put,zD,zE,zF]
     refine tkV 7 (.int .i64 b.va) rfl (fun W hSW=>?_) hHeld ?_
     ·((try dsimp only at hSW);go_split_ands;go_simp <;> with_reducible rfl)
     try simp only[zA,zB,zC,Act.put,zD,zE,zF]
     refine tkV 8 (.pointer (some ⟨w.heap.size,0,none⟩)) rfl (fun W hSW=>?_) hHeld ?_
     ·((try dsimp only at hSW);go_split_ands;go_simp <;> with_reducible rfl)
     try simp only[zA,zB,zC,Act.put,zD,zE,zF]
     refine tkV 9 (.int .i64 b.pa) rfl (fun W hSW=>?_) hHeld ?_
     ·((try dsimp only at hSW);go_split_ands;go_simp <;> with_reducible rfl)
     try simp only[zA,zB,zC,Act.put,zD,zE,zF]
     refine tkV 10 (.pointer (some ⟨B,0,none⟩)) rfl (fun W hSW=>?_) hHeld ?_
     ·((try dsimp only at hSW);go_split_ands;go_simp <;> with_reducible rfl)
     try simp only[zA,zB,zC,Act.put,zD,zE,zF]
     refine tkV 11 (.pointer (some ⟨B,3,none⟩)) rfl (fun W hSW=>?_) hHeld ?_
     ·((try dsimp only at hSW);go_split_ands;go_simp <;> with_reducible rfl)
     try simp only[zA,zB,zC,Act.put,zD,zE,zF]
     refine tkV 12 (.pointer (some ⟨B,9,none⟩)) rfl (fun W hSW=>?_) hHeld ?_
     ·((try dsimp only at hSW);go_split_ands;go_simp <;> with_reducible rfl)
     try simp only[zA,zB,zC,Act.put,zD,zE,zF]
     refine tkV 14 (.pointer (some ⟨B,0,none⟩)) rfl (fun W hSW=>?_) hHeld ?_
     ·((try dsimp only at hSW);go_split_ands;go_simp <;> with_reducible rfl)
     try simp only[zA,zB,zC,Act.put,zD,zE,zF]
     refine tkV 15 (.pointer (some ⟨B,3,none⟩)) rfl (fun W hSW=>?_) hHeld ?_
     ·((try dsimp only at hSW);go_split_ands;go_simp <;> with_reducible rfl)
     try simp only[zA,zB,zC,Act.put,zD,zE,zF]
     have hq1:w1.cell? ⟨B,9,none⟩=some _:=HCK.out.at 9 rfl
     have hq2:w1.frozen? ⟨B,9,none⟩=false:=HCK.out.free 9
     have HCK2:=zH (HCK.out.set 9 (.int .i64 b.bs.length))
     have HGK2:=zH (fp HGK.out 9 (.int .i64 b.bs.length))
     have HKB2:=zH ((Below.heap_setCell w1 ⟨B,9,none⟩ (.int .i64 b.bs.length) w.heap.size (fun e=>HBX.out e.symm)).trans HKB.out)
     refine wpAnyH_ready (rs:=[13]) (by kernel_rfl) (by simp) ?_
     refine AllReadyH.cons rfl (fun K hK=>?_) AllReadyH.nil
     try simp only[zA,zB,zC]
     go_simp
     try go_wp2_with fail
     refine hK.out _ _ ?_ (fun hHeld=>?_)
     ·exact box3 HKB2.out
     clear hK K
     try simp only[zA,zB,zC,Act.put,zD,zE,zF]
     generalize w1.setCell ⟨B,9,none⟩ (.int .i64 b.bs.length)=w2 at HCK2 HGK2 HKB2 hHeld ⊢
     clear hq1 hq2 HCK HGK HKB
     refine tkV 16 (.pointer (some ⟨B,10,none⟩)) rfl (fun W hSW=>?_) hHeld ?_
     ·((try dsimp only at hSW);go_split_ands;go_simp <;> with_reducible rfl)
     try simp only[zA,zB,zC,Act.put,zD,zE,zF]
     have hq1:w2.cell? ⟨B,10,none⟩=some _:=HCK2.out.at 10 rfl
     have hq2:w2.frozen? ⟨B,10,none⟩=false:=HCK2.out.free 10
     have HCK3:=zH (HCK2.out.set 10 (.int .i64 b.va))
     have HGK3:=zH (fp HGK2.out 10 (.int .i64 b.va))
     have HKB3:=zH ((Below.heap_setCell w2 ⟨B,10,none⟩ (.int .i64 b.va) w.heap.size (fun e=>HBX.out e.symm)).trans HKB2.out)
     refine wpAnyH_ready (rs:=[17]) (by kernel_rfl) (by simp) ?_
     refine AllReadyH.cons rfl (fun K hK=>?_) AllReadyH.nil
     try simp only[zA,zB,zC]
     go_simp
     try go_wp2_with fail
     refine hK.out _ _ ?_ (fun hHeld=>?_)
     ·exact box3 HKB3.out
     clear hK K
     try simp only[zA,zB,zC,Act.put,zD,zE,zF]
     generalize w2.setCell ⟨B,10,none⟩ (.int .i64 b.va)=w3 at HCK3 HGK3 HKB3 hHeld ⊢
     clear hq1 hq2 HCK2 HGK2 HKB2
     refine tkV 18 (.pointer (some ⟨B,0,none⟩)) rfl (fun W hSW=>?_) hHeld ?_
     ·((try dsimp only at hSW);go_split_ands;go_simp <;> with_reducible rfl)
     try simp only[zA,zB,zC,Act.put,zD,zE,zF]
     refine tkV 19 (.pointer (some ⟨B,11,none⟩)) rfl (fun W hSW=>?_) hHeld ?_
     ·((try dsimp only at hSW);go_split_ands;go_simp <;> with_reducible rfl)
     try simp only[zA,zB,zC,Act.put,zD,zE,zF]
     have hq1:w3.cell? ⟨B,11,none⟩=some _:=HCK3.out.at 11 rfl
     have hq2:w3.frozen? ⟨B,11,none⟩=false:=HCK3.out.free 11
     have HCK4:=zH (HCK3.out.set 11 (.int .i64 b.pa))
     have HGK4:=zH (fp HGK3.out 11 (.int .i64 b.pa))
     have HKB4:=zH ((Below.heap_setCell w3 ⟨B,11,none⟩ (.int .i64 b.pa) w.heap.size (fun e=>HBX.out e.symm)).trans HKB3.out)
     refine wpAnyH_ready (rs:=[20]) (by kernel_rfl) (by simp) ?_
     refine AllReadyH.cons rfl (fun K hK=>?_) AllReadyH.nil
     try simp only[zA,zB,zC]
     go_simp
     try go_wp2_with fail
     refine hK.out _ _ ?_ (fun hHeld=>?_)
     ·exact box3 HKB4.out
     clear hK K
     try simp only[zA,zB,zC,Act.put,zD,zE,zF]
     generalize w3.setCell ⟨B,11,none⟩ (.int .i64 b.pa)=w4 at HCK4 HGK4 HKB4 hHeld ⊢
     clear hq1 hq2 HCK3 HGK3 HKB3
     refine wpAnyH_done (by kernel_rfl) ?_ _
     clear hHeld
     obtain⟨hc0,hc1,hc2⟩:=box3 HKB4.out
     have HN0:=zH (show n₀<=w.heap.size by omega)
     have HC4:=zH (show Ck B w4 (ckC av fv c.mn0 q b.bs.length b.va b.pa lf) from HCK4.out)
     clear HCK4
     go_wp2_with fail
     go_loopw [48] (fun k wr=>∃i:Nat,i<=b.bs.length/\k=.int .i64 (i:Int)/\RowKit.Hid ((∀j,j<i->CD.dz q c b (blAt b j) (b.pa+CD.cntB b j))/\w.grownBy wr (some B)/\Ck B wr (ckC av fv c.mn0 q b.bs.length b.va (b.pa+CD.cntB b i) (lf-CD.lenB b i))/\wr.heap[w.heap.size]?=some (.cells #[.int .i64 b.pa,.int .i64 b.va,.slice ba b.bs.length bc] 52))) (fun k _=>b.bs.length-(intOf k).toNat)
     case atStart=>exact⟨0,Nat.zero_le _,rfl,zH ⟨fun j hj=>absurd hj (Nat.not_lt_zero _),HGK4.out,by rw[CD.mh];simpa [CD.lenB] using HC4.out,HKB4.out⟩⟩
     case round =>
      clear HC4 HGK4 HKB4 hc0 hc1 hc2
      obtain⟨w5,rfl⟩:∃w5,w5=wr:=⟨_,rfl⟩
      obtain⟨i,hi,rfl,HI⟩:=hrel
      by_cases hlt:i<b.bs.length
      ·obtain⟨lb,lo,la,lc,eba,hlb,hlr,hlo⟩:=HV.out.at hlt
       subst eba
       have HB5:=zH (aI HI.out.2.1 hn HN0.out)
       have hl0:w5.cell? ⟨lb,lo+i,none⟩=some (.slice la (blAt b i).length lc):=(HB5.out.cell (p:=⟨lb,lo+i,none⟩) hlb).trans hlr
       have HLO:=zH (show OpsF n₀ w5 (.slice la (blAt b i).length lc) (blAt b i) from hlo.below HB5.out)
       have HLT:=zH hlt
       have i5:(0:Int)<=i/\(i:Int)<b.bs.length:=by omega
       have HLE:=zH (show (CD.lenB b i+(blAt b i).length:Int)<=lf by
        have h1:=CD.lenB_mono b (show i+1<=b.bs.length by omega)
        rw[CD.fm hlt] at h1
        have:=HLF.out.1
        omega)
       have HNX:=zH (show 0<=b.pa+CD.cntB b i/\b.pa+(CD.cntB b i:Int)<=100000 by
        have h1:=CD.cntB_le b i (by omega)
        have:=HLE.out
        have:=HLF.out.2
        omega)
       clear hlr hlo hlt
       have HCALL:=zH (qH (n₀:=n₀) B av fv c b q (b.pa+CD.cntB b i) (lf-CD.lenB b i) _ (blAt b i) w5 HI.out.2.2.1 (HF.out.below HB5.out) hn HFL.out HQF.out (HL.out i HLT.out) (HS.out i HLT.out) HNX.out (by have:=HLE.out;have:=HLF.out.2;omega) (HT.out.grown HI.out.2.1 hBT) hBT HLO.out)
       cases hbk:CD.tf (CD.dz q c b (blAt b i) (b.pa+CD.cntB b i))
       ·have HNO:=zH (show ¬CD.aL q c b from fun h=>CD.dk hbk (h.2.1 i HLT.out))
        have HBK:=zH hbk
        have e1:z=false:=by rw[HZ.out];exact CD.bg HNO.out
        clear hbk
        subst e1
        go_wp2_with (go_at_call 180;refine HCALL.out.mono ?_;rintro e w6 ⟨rfl,hg,hck⟩;rw[HBK.out];have HG6:=zH (aA HI.out.2.1 hg);clear hg hck)
        go_ret
        exact⟨rfl,HG6.out,fun h=>absurd h HNO.out⟩
       ·have HBK:=zH hbk
        clear hbk
        go_wp2_with (go_at_call 180;refine HCALL.out.mono ?_;rintro e w6 ⟨rfl,hg,hck⟩;rw[HBK.out];have HG6:=zH (aA HI.out.2.1 hg);have HC6:=zH (hck (CD.eP HBK.out));have HK6:=zH ((hg.block _ (Array.getElem?_eq_some_iff.1 HI.out.2.2.2).1 (fun e=>HBX.out (Option.some.inj e).symm)).trans HI.out.2.2.2);clear hg hck)
        have HN:=zH (show (∀j,j<i+1->CD.dz q c b (blAt b j) (b.pa+CD.cntB b j))/\w.grownBy w6 (some B)/\Ck B w6 (ckC av fv c.mn0 q b.bs.length b.va (b.pa+CD.cntB b (i+1)) (lf-CD.lenB b (i+1)))/\w6.heap[w.heap.size]?=some (.cells #[.int .i64 b.pa,.int .i64 b.va,.slice (some ⟨lb,lo,none⟩) b.bs.length bc] 52) from
         ⟨fun j hj=>by
          by_cases e:j=i
          ·rw[e];exact CD.eP HBK.out
          ·exact HI.out.1 j (by omega),HG6.out,by
          have h:=HC6.out
          rw[show b.pa+(CD.cntB b (i+1):Int)=b.pa+CD.cntB b i+CD.cnt (blAt b i) (blAt b i).length by rw[CD.gS HLT.out];omega,show lf-(CD.lenB b (i+1):Int)=lf-CD.lenB b i-(blAt b i).length by rw[CD.fm HLT.out];omega]
          exact h,HK6.out⟩)
        go_roundw
        case rel=>exact⟨i+1,by have:=HLT.out;omega,by go_num,HN⟩
        case measure=>have:=HLT.out;simp [intOf];omega
      ·have e0:i=b.bs.length:=by omega
       subst e0
       obtain⟨hc0,hc1,hc2⟩:=box3 HI.out.2.2.2
       have hc11:w5.cell? ⟨B,11,none⟩=some (.int .i64 (b.pa+CD.cntB b b.bs.length)):=HI.out.2.2.1.at 11 rfl
       cases hva:(b.pa+(CD.cntB b b.bs.length:Int) == b.va)
       ·have HNO:=zH (show ¬CD.aL q c b from fun h=>by have h1:=h.2.2;simp [h1] at hva)
        have e1:z=false:=by rw[HZ.out];exact CD.bg HNO.out
        subst e1
        go_wp2_with fail
        go_quiet (fail)
        go_wp2_with fail
        go_ret
        exact⟨rfl,aA HI.out.2.1 (aN _ ⟨rfl,rfl,rfl,Nat.le_refl _,fun _ _=>rfl⟩),fun h=>absurd h HNO.out⟩
       ·have e1:z=true:=by rw[HZ.out];exact CD.cA ⟨HGD.out,HI.out.1,by simpa using hva⟩
        subst e1
        go_wp2_with fail
        go_quiet (fail)
        go_wp2_with fail
        go_ret
        exact⟨rfl,aA HI.out.2.1 (aN _ ⟨rfl,rfl,rfl,Nat.le_refl _,fun _ _=>rfl⟩),fun _=>⟨_,_,_,HI.out.2.2.1⟩⟩
end
section
open Go.RowKit
theorem du{X:World}{k:Nat}{o:Obj}(h:X.heap[k]?=some o)(o':Obj):(X.alloc o').heap[k]?=some o:=(Below.heap_alloc X o' k (Array.getElem?_eq_some_iff.1 h).1).trans h
theorem boxes3(w:World)(o1 o2 o3:Obj):((((w.alloc o1).alloc o2).alloc o3).heap[w.heap.size]?=some o1/\(((w.alloc o1).alloc o2).alloc o3).heap[w.heap.size+1]?=some o2/\(((w.alloc o1).alloc o2).alloc o3).heap[w.heap.size+1+1]?=some o3)/\Below w.heap.size w (((w.alloc o1).alloc o2).alloc o3):=by
 refine⟨⟨du (du (heap_alloc_new w o1) _) _,?_,?_⟩,(((Below.refl _ _).alloc (Nat.le_refl _) _).alloc (by simp) _).alloc (by simp;omega) _⟩
 ·have h:=heap_alloc_new (w.alloc o1) o2
  rw[World.size_alloc] at h
  exact du h _
 ·have h:=heap_alloc_new ((w.alloc o1).alloc o2) o3
  rw[World.size_alloc,World.size_alloc] at h
  exact h
theorem eS{m:Nat}{A B:World}(hb:Below A.heap.size A B){o:Obj}(h:A.heap[m]?=some o):B.heap[m]?=some o:=(hb.block m (Array.getElem?_eq_some_iff.1 h).1).trans h
theorem boxes2(w:World)(o1 o2:Obj):(((w.alloc o1).alloc o2).heap[w.heap.size]?=some o1/\((w.alloc o1).alloc o2).heap[w.heap.size+1]?=some o2)/\Below w.heap.size w ((w.alloc o1).alloc o2):=by
 refine⟨⟨du (heap_alloc_new w o1) _,?_⟩,((Below.refl _ _).alloc (Nat.le_refl _) _).alloc (by simp) _⟩
 have h:=heap_alloc_new (w.alloc o1) o2
 rw[World.size_alloc] at h
 exact h
end
section
open Go.RowKit
open CD (OpP BodyP CodeP ae blAt fnAt)
def dL(l:List OpP)(j:Nat):List Int:=((l.take j).filter fun x=>decide (x.k=7)).map (·.r)
def gi(b:BodyP)(i:Nat):List Int:=(b.bs.take i).flatMap fun l=>dL l l.length
def cl(b:BodyP):List Int:=gi b b.bs.length
theorem rp{l:List OpP}{j:Nat}(h:j<l.length):dL l (j+1)=dL l j ++ if (ae l j).k=7 then [(ae l j).r] else []:=by
 unfold dL ae
 rw[List.take_add_one,List.getElem?_eq_getElem h,List.filter_append,List.map_append]
 simp only[Option.toList_some,Option.getD_some]
 by_cases e:l[j].k=7
 ·simp [e]
 ·simp [e]
theorem kX{b:BodyP}{i:Nat}(h:i<b.bs.length):gi b (i+1)=gi b i ++ dL (blAt b i) (blAt b i).length:=by
 unfold gi blAt
 rw[List.take_add_one,List.getElem?_eq_getElem h,List.flatMap_append]
 simp
theorem mD(l:List OpP)(j:Nat):(dL l j).length<=j:=by
 unfold dL
 rw[List.length_map]
 exact Nat.le_trans (List.length_filter_le _ _) (by rw[List.length_take];omega)
theorem mE(b:BodyP)(hk:∀k,k<b.bs.length->(blAt b k).length<=300):∀i,i<=b.bs.length->(gi b i).length<=i*300
 | 0,_=>by simp [gi]
 | i+1,h=>by
   rw[kX (by omega),List.length_append]
   have h1:=mE b hk i (by omega)
   have h2:=mD (blAt b i) (blAt b i).length
   have h3:=hk i (by omega)
   omega
theorem mF{l:List OpP}{x:Int}:x∈dL l l.length↔∃j,j<l.length/\(ae l j).k=7/\(ae l j).r=x:=by
 unfold dL
 rw[List.take_length,List.mem_map]
 constructor
 ·rintro ⟨o,ho,rfl⟩
  obtain⟨h1,h2⟩:=List.mem_filter.1 ho
  obtain⟨j,hj,rfl⟩:=List.getElem_of_mem h1
  refine⟨j,hj,?_,?_⟩
  ·unfold ae;rw[List.getElem?_eq_getElem hj];exact of_decide_eq_true h2
  ·unfold ae;rw[List.getElem?_eq_getElem hj];rfl
 ·rintro ⟨j,hj,h1,h2⟩
  unfold ae at h1 h2
  rw[List.getElem?_eq_getElem hj] at h1 h2
  exact⟨l[j],List.mem_filter.2 ⟨List.getElem_mem hj,decide_eq_true h1⟩,h2⟩
theorem jJ{b:BodyP}{x:Int}:x∈cl b↔∃i j,i<b.bs.length/\j<(blAt b i).length/\(ae (blAt b i) j).k=7/\(ae (blAt b i) j).r=x:=by
 unfold cl gi
 rw[List.take_length,List.mem_flatMap]
 constructor
 ·rintro ⟨l,hl,hx⟩
  obtain⟨i,hi,rfl⟩:=List.getElem_of_mem hl
  obtain⟨j,hj,h1,h2⟩:=mF.1 hx
  have e:blAt b i=b.bs[i]:=by unfold blAt;rw[List.getElem?_eq_getElem hi];rfl
  exact⟨i,j,hi,by rw[e];exact hj,by rw[e];exact h1,by rw[e];exact h2⟩
 ·rintro ⟨i,j,hi,hj,h1,h2⟩
  have e:blAt b i=b.bs[i]:=by unfold blAt;rw[List.getElem?_eq_getElem hi];rfl
  rw[e] at hj h1 h2
  exact⟨b.bs[i],List.getElem_mem hi,mF.2 ⟨j,hj,h1,h2⟩⟩
def rowC(xs:List Int)(n:Nat):List Int:=((List.range n).filter fun(f:Nat)=>decide ((f:Int)∈xs)).map Int.ofNat
theorem kY{xs:List Int}{n:Nat}{x:Int}:x∈rowC xs n↔x∈xs/\0<=x/\x<(n:Nat):=by
 unfold rowC
 rw[List.mem_map]
 constructor
 ·rintro ⟨f,hf,rfl⟩
  obtain⟨h1,h2⟩:=List.mem_filter.1 hf
  have h3:=List.mem_range.1 h1
  refine⟨of_decide_eq_true h2,?_⟩
  constructor
  ·exact Int.natCast_nonneg f
  ·exact Int.ofNat_lt.2 h3
 ·rintro ⟨h1,h2,h3⟩
  refine⟨x.toNat,List.mem_filter.2 ⟨List.mem_range.2 (by omega),decide_eq_true (by rw[Int.toNat_of_nonneg h2];exact h1)⟩,Int.toNat_of_nonneg h2⟩
theorem ke(xs:List Int)(n:Nat):(rowC xs n).Pairwise (· < ·):=by
 unfold rowC
 rw[List.pairwise_map]
 exact(List.pairwise_lt_range.filter _).imp (fun h=>Int.ofNat_lt.2 h)
section
open Go.Lib
theorem kZ(zs:List Int):∀j,j<zs.length->zs.toArray[j]!∈compact zs:=by
 intro j
 induction j with
 | zero =>
   intro h
   unfold compact compactUpTo
   exact List.mem_map.2 ⟨0,List.mem_filter.2 ⟨List.mem_range.2 h,keeps_lt_one _ 0 (by omega)⟩,rfl⟩
 | succ j ih =>
   intro h
   by_cases e:zs.toArray[j+1]! = zs.toArray[j]!
   ·rw[e];exact ih (by omega)
   ·unfold compact compactUpTo
    exact List.mem_map.2 ⟨j+1,List.mem_filter.2 ⟨List.mem_range.2 h,keeps_pos (by simpa using e)⟩,rfl⟩
theorem pA{zs:List Int}{x:Int}:x∈compact zs↔x∈zs:=by
 constructor
 ·intro h
  unfold compact compactUpTo at h
  obtain⟨j,hj,rfl⟩:=List.mem_map.1 h
  have h1:=List.mem_range.1 (List.mem_filter.1 hj).1
  have:zs.toArray[j]! = zs[j]:=by simp [h1]
  rw[this]
  exact List.getElem_mem h1
 ·intro h
  obtain⟨j,hj,rfl⟩:=List.getElem_of_mem h
  have h1:=kZ zs j hj
  have:zs.toArray[j]! = zs[j]:=by simp [hj]
  rw[this] at h1
  exact h1
theorem ld{zs:List Int}(h:zs.Pairwise (·<=·)):(compact zs).Pairwise (· < ·):=by
 unfold compact compactUpTo
 rw[List.pairwise_map]
 refine(List.Pairwise.and_mem.1 (List.pairwise_lt_range.filter _)).imp ?_
 rintro i j ⟨hi,hj,hij⟩
 have h1:=List.mem_range.1 (List.mem_filter.1 hi).1
 obtain⟨h2,h3⟩:=List.mem_filter.1 hj
 have h2':=List.mem_range.1 h2
 have g:=List.pairwise_iff_getElem.1 h
 have e1:zs.toArray[i]! = zs[i]:=by simp [h1]
 have e2:zs.toArray[j]! = zs[j]:=by simp [h2']
 have e3:zs.toArray[j-1]! = zs[j-1]:=by simp [show j-1<zs.length by omega]
 have h4:zs[j]≠zs[j-1]:=by
  intro e
  have:=keeps_neg (d:=zs.toArray) (m:=j) (by omega) (by rw[e2,e3];exact e)
  rw[h3] at this
  cases this
 rw[e1,e2]
 have h5:zs[j-1]<=zs[j]:=g (j-1) j (by omega) h2' (by omega)
 by_cases e:i=j-1
 ·subst e;omega
 ·have h6:zs[i]<=zs[j-1]:=g i (j-1) h1 (by omega) (by omega)
  omega
end
theorem nU(zs:List Int):(de zs).Pairwise (·<=·) :=
 (List.pairwise_mergeSort (le:=fun x y:Int=>decide (x<=y)) (fun a b c h1 h2=>by simp at *;omega) (fun a b=>by simp;omega) zs).imp (fun h=>by simpa using h)
theorem strict_eq{xs ys:List Int}(hx:xs.Pairwise (· < ·))(hy:ys.Pairwise (· < ·))(h:∀a,a∈xs↔a∈ys):xs=ys:=by
 have nx:xs.Nodup:=hx.imp (fun h=>by omega)
 have ny:ys.Nodup:=hy.imp (fun h=>by omega)
 refine List.Perm.eq_of_pairwise (le:=fun a b:Int=>a<b) (fun a b _ _ h1 h2=>by omega) hx hy ?_
 rw[List.perm_iff_count]
 intro a
 rw[nx.count,ny.count]
 by_cases e:a∈xs
 ·rw[if_pos e,if_pos ((h a).1 e)]
 ·rw[if_neg e,if_neg (fun g=>e ((h a).2 g))]
def fP(b:BodyP):List Int:=Go.Lib.compact (de (cl b))
theorem rq{b:BodyP}{n:Nat}(h:∀x∈cl b,0<=x/\x<(n:Nat)):fP b=rowC (cl b) n:=by
 refine strict_eq (ld (nU _)) (ke _ _) (fun a=>?_)
 unfold fP
 rw[pA,kY]
 have hp:a∈de (cl b)↔a∈cl b:=(List.mergeSort_perm _ _).mem_iff
 rw[hp]
 exact⟨fun g=>⟨g,h a g⟩,fun g=>g.1⟩
end
end Go.Proofs.YtjngffgkllakaaaGreatDoor
namespace Go.Proofs.YtjngffgkllakaaaGreatDoor.IP
open List renaming getElem_toArray → zA, getElem_cons_succ → zB, getElem_cons_zero → zC, setIfInBounds_toArray → zD, set_cons_zero → zE, set_cons_succ → zF
open Lib renaming hid → zH
section
open Go.RowKit
open CD (OpP BodyP CodeP ae blAt fnAt)
structure LeadOk (va:Nat) (l:List OpP) (fr:Int):Prop where
 len:l.length<=300
 phi:∀j,j<l.length->(ae l j).k=3->fr∈(ae l j).ys/\(ae l j).xs.length=(ae l j).ys.length/\(ae l j).ys.length<=64/\CD.InOk (ae l j).xs va
 first:∀i,0<i->i<=l.length->(∀j,j<i->(ae l j).k=3)->∃d:Nat,(ae l 0).d=(d:Int)/\d+i<=va
theorem pB{l:List OpP}:∀i,i<=l.length->(∀j,j<i->(ae l j).k=3)->CD.cnt l i=i
 | 0,_,_=>CD.ew l
 | i+1,hi,h=>by
   rw[CD.gu (by omega),pB i (by omega) (fun j hj=>h j (by omega)),if_pos (by have:=h i (by omega);unfold CD.Defs;omega)]
theorem leadOk_of{q:CD.Cnt}{c:CodeP}{b:BodyP}(h:CD.aL q c b)(hf:jY b)(hk:∀k,k<b.bs.length->(blAt b k).length<=300){fr to:Nat}(hfr:fr<b.bs.length)(ht:to<b.bs.length)(hl:GG.leadsB (toB b) fr (to:Int)=true):LeadOk b.va.toNat (blAt b to) (fr:Int):=by
 have hpa:=h.1.1.1
 refine⟨hk to ht,fun j hj h3=>?_,fun i h0 hi hp=>?_⟩
 ·have hu:=hf.2 to j ht hj
  unfold UseR at hu
  simp only at hu
  rw[if_pos h3] at hu
  have hc:=hu.1 fr (by rw[hU];exact hfr)
  rw[if_pos hl] at hc
  have ho:=((h.2.1 to ht).2 j hj).1
  have hco:=ho.2.2.2.2.2.1
  unfold CD.aJ at hco
  rw[if_pos h3] at hco
  have hx:=ho.2.2.2.2.2.2.1
  refine⟨List.count_pos_iff.1 (by omega),hco.2,hco.1.2,fun k hk=>?_⟩
  have:=hx k hk
  omega
 ·have hd0:CD.Defs (ae (blAt b to) 0).k:=by have:=hp 0 h0;unfold CD.Defs;omega
  have hdl:CD.Defs (ae (blAt b to) (i-1)).k:=by have:=hp (i-1) (by omega);unfold CD.Defs;omega
  have h1:=def_lt h ht (show i-1<(blAt b to).length by omega) hdl
  rw[pB (i-1) (by omega) (fun j hj=>hp j (by omega))] at h1
  rcases nK h ht (show 0<(blAt b to).length by omega) with⟨_,e⟩ | ⟨hn,_⟩
  ·rw[CD.ew] at e
   exact⟨_,e,by omega⟩
  ·exact absurd hd0 hn
theorem rr{q:CD.Cnt}{c:CodeP}{b:BodyP}(h:CD.aL q c b){i:Nat}(hi:i<b.bs.length){z:Int}(hz:(ae (blAt b i) ((blAt b i).length-1)).k=11/\z=(ae (blAt b i) ((blAt b i).length-1)).r∨(ae (blAt b i) ((blAt b i).length-1)).k=12/\(z=(ae (blAt b i) ((blAt b i).length-1)).r∨z=(ae (blAt b i) ((blAt b i).length-1)).a)):(0<=z/\z<(b.bs.length:Nat))/\GG.leadsB (toB b) i z=true:=by
 obtain⟨nx,ho⟩:=last_op h hi
 have hr:=ho.2.2.2.1
 have ha:=ho.2.2.2.2.1
 unfold GG.leadsB
 rw[decide_eq_true_iff,toB_at b hi]
 unfold leadsB
 obtain⟨x,ex⟩:∃x,x=ae (blAt b i) ((blAt b i).length-1):=⟨_,rfl⟩
 rw[<-ex] at hz hr ha ⊢
 rcases hz with⟨e,rfl⟩ | ⟨e,hz⟩
 ·have e1:CD.refN q b.bs.length x.k=b.bs.length:=by unfold CD.refN;rw[e];rfl
  rw[e1] at hr
  rw[if_neg (by omega),if_pos e]
  exact⟨hr,by simp⟩
 ·have e1:CD.refN q b.bs.length x.k=b.bs.length:=by unfold CD.refN;rw[e];rfl
  have e2:CD.altN b.bs.length x.k=b.bs.length:=by unfold CD.altN;rw[e];rfl
  rw[e1] at hr
  rw[e2] at ha
  rw[if_neg (by omega),if_neg (by omega)]
  by_cases hra:x.r=x.a
  ·rw[if_pos hra]
   rcases hz with rfl | rfl
   ·exact⟨hr,by simp⟩
   ·exact⟨ha,by simp [hra]⟩
  ·rw[if_neg hra]
   rcases hz with rfl | rfl
   ·exact⟨hr,by simp⟩
   ·exact⟨ha,by simp⟩
end
end Go.Proofs.YtjngffgkllakaaaGreatDoor.IP
