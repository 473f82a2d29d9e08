/- A part of a proof: laws that the last text uses. -/
import Derived.Test.YtjngffgkllakaaaGreatDoorZ02
import Derived.Test.YtjngffgkllakaaaGreatDoorZ03
import Derived.Test.YtjngffgkllakaaaGreatDoorZ06
import Derived.Test.YtjngffgkllakaaaGreatDoorZ10
import Derived.Test.YtjngffgkllakaaaGreatDoorZ11
import Derived.StillTailTactics
set_option linter.unusedSimpArgs false
set_option linter.unusedVariables false
namespace Go.Proofs.YtjngffgkllakaaaGreatDoor
open List renaming getElem_toArray → zA, getElem_cons_succ → zB, getElem_cons_zero → zC, setIfInBounds_toArray → zD, set_cons_zero → zE, set_cons_succ → zF
open Lib renaming hid → zH
section
open Go.RowKit
open CD (OpP BodyP CodeP aj blAt fnAt)
structure FnI (B:Nat) (w:World) (o:Obj) (ar:List (Int × Int)) (fs:List BodyP) (m:Int) (i:Nat) (av fv:Value) (xs:List Value) (W:World):Prop where
 box:W.heap[B]?=some o
 res:W.heap[B+1]?=some (.cells #[.slice none 0 0,.slice none 0 0,.int .i64 0] 30)
 code:W.heap[B+1+1]?=some (.cells #[av,fv,.int .i64 m] 30)
 own:W.ownsRow (B+3) 52 3 fv i xs
 each:∀j,j<i->∃ba bc,de 3 xs j (bodyC (fs[j]?.getD CD.b0) ba bc)/\TBl W (.slice ba (fs[j]?.getD CD.b0).bs.length bc) (fs[j]?.getD CD.b0).bs
 arr:TPa W av ar
 below:Below B w W
 sz:B<=w.heap.size
theorem FnI.next{B i:Nat}{w W w8 w11:World}{o:Obj}{ar:List (Int × Int)}{fs:List BodyP}{m:Int}{av fv fv':Value}{xs us:List Value}{b:BodyP}{ba8:Option Addr}{bc8:Nat}{o5:Array Value}(h:FnI B w o ar fs m i av fv xs W)(hb:b=fs[i]?.getD CD.b0)
 (h5:w8.heap[W.heap.size]?=some (.cells o5 52)) (hj:BlJ (W.heap.size+1) (W.alloc (.cells o5 52)) b.bs (.slice ba8 b.bs.length bc8) b.bs.length us w8)
 (ho:w11.ownsRow (B+3) 52 3 fv' (i+1) (xs ++ [.int .i64 b.pa,.int .i64 b.va,.slice ba8 b.bs.length bc8]))
 (hg:((w8.setCell ⟨W.heap.size,2,none⟩ (.slice ba8 b.bs.length bc8)).alloc (.cells #[.int .i64 b.pa,.int .i64 b.va,.slice ba8 b.bs.length bc8] 52)).grownBy w11 fv.ownBlock) :
 FnI B w o ar fs m (i+1) av fv' (xs ++ [.int .i64 b.pa,.int .i64 b.va,.slice ba8 b.bs.length bc8]) (w11.setCell ⟨B+1+1,1,none⟩ fv'):=by
 subst hb
 have hcl:B+1+1<W.heap.size:=(Array.getElem?_eq_some_iff.1 h.code).1
 have hb8:Below W.heap.size W w8:=((Below.refl _ _).alloc (Nat.le_refl _) _).trans (hj.below.mono (Nat.le_succ _))
 have hb9:Below W.heap.size W (w8.setCell ⟨W.heap.size,2,none⟩ (.slice ba8 (fs[i]?.getD CD.b0).bs.length bc8)):=hb8.setCell (p:=⟨W.heap.size,2,none⟩) (Nat.le_refl _) _
 obtain⟨w9,e9⟩:∃w9,w9=w8.setCell ⟨W.heap.size,2,none⟩ (.slice ba8 (fs[i]?.getD CD.b0).bs.length bc8):=⟨_,rfl⟩
 rw[<-e9] at hg hb9
 have k9:bK Done w8 w9:=by rw[e9];exact bK.set h5 (by unfold Done;decide) _
 obtain⟨w10,e10⟩:∃w10,w10=w9.alloc (.cells #[.int .i64 (fs[i]?.getD CD.b0).pa,.int .i64 (fs[i]?.getD CD.b0).va,.slice ba8 (fs[i]?.getD CD.b0).bs.length bc8] 52):=⟨_,rfl⟩
 rw[<-e10] at hg
 have hb10:Below W.heap.size W w10:=by rw[e10];exact hb9.alloc hb9.size _
 have k10:bK Done w9 w10:=by rw[e10];exact bK.below ((Below.refl _ _).alloc (Nat.le_refl _) _)
 have hO10:w10.ownsRow (B+3) 52 3 fv i xs:=CC.own_of_block h.own (fun k e=>hb10.block k (h.own.lt k e).2)
 have k11:bK Done w10 w11:=bK.grown hg hO10 (by unfold Done;decide)
 have hat:∀k,k<B+3->w11.heap[k]?=W.heap[k]?:=fun k hk=>(hg.block k (by have:=hb10.size;omega) (fun e=>by have:=(h.own.lt k e.symm).1;omega)).trans (hb10.block k (by omega))
 have hc11:w11.heap[B+1+1]?=some (.cells #[av,fv,.int .i64 m] 30):=(hat _ (by omega)).trans h.code
 have k12:bK Done w11 (w11.setCell ⟨B+1+1,1,none⟩ fv'):=bK.set hc11 (by unfold Done;decide) _
 have kW:bK Done W (w11.setCell ⟨B+1+1,1,none⟩ fv'):=((bK.below hb10).trans k11).trans k12
 have hxl:xs.length=i*3:=h.own.1
 refine⟨?_,?_,?_,ownsRow_setCell_below ho (a:=⟨B+1+1,1,none⟩) (by show B+1+1<B+3;omega) _,fun j hj'=>?_,h.arr.kept kW,?_,h.sz⟩
 ·rw[Below.heap_setCell _ _ _ _ (by show B≠B+1+1;omega)];exact(hat _ (by omega)).trans h.box
 ·rw[Below.heap_setCell _ _ _ _ (by show B+1≠B+1+1;omega)];exact(hat _ (by omega)).trans h.res
 ·have h1:=CC.set_obj (c:=1) fv' hc11
  exact h1
 ·by_cases e:j<i
  ·obtain⟨ba,bc,g1,g2⟩:=h.each j e
   exact⟨ba,bc,g1.app,g2.kept kW⟩
  ·have e2:j=i:=by omega
   subst e2
   exact⟨ba8,bc8,de.last hxl,(((hj.bl.kept k9).kept k10).kept k11).kept k12⟩
 ·have hs:B<=W.heap.size:=by omega
  exact((h.below.trans (hb10.mono hs)).grown hg (Nat.le_trans hs hb10.size) (fun k e=>by have:=(h.own.lt k e).1;omega)).setCell (p:=⟨B+1+1,1,none⟩) (by show B<=B+1+1;omega) _
theorem FnI.first{B:Nat}{w W w1:World}{o:Obj}{ar:List (Int × Int)}{fs:List BodyP}{m:Int}{v1:Value}{news:List Value}(hbox:W.heap[B]?=some o)(hres:W.heap[B+1]?=some (.cells #[.slice none 0 0,.slice none 0 0,.int .i64 0] 30))(hcode:W.heap[B+1+1]?=some (.cells #[.slice none 0 0,.slice none 0 0,.int .i64 m] 30))
 (hb:Below B w W) (hs:B<=w.heap.size) (ho:w1.ownsRow (B+3) 119 2 v1 ar.length news) (hg:W.grownBy w1 (Value.slice none 0 0).ownBlock) (hn:∀i,i<ar.length->de 2 news i [.int .i64 (ar[i]?.getD (0,0)).1,.int .i64 (ar[i]?.getD (0,0)).2]) :
 FnI B w o ar fs m 0 v1 (.slice none 0 0) [] (w1.setCell ⟨B+1+1,0,none⟩ v1):=by
 have hcl:B+1+1<W.heap.size:=(Array.getElem?_eq_some_iff.1 hcode).1
 have hat:∀k,k<B+3->w1.heap[k]?=W.heap[k]?:=fun k hk=>hg.block k (by omega) (fun e=>by cases e)
 have hc1:w1.heap[B+1+1]?=some (.cells #[.slice none 0 0,.slice none 0 0,.int .i64 m] 30):=(hat _ (by omega)).trans hcode
 refine⟨?_,?_,CC.set_obj (c:=0) v1 hc1,World.ownsRow_nil _ _ _ _,fun j hj=>absurd hj (Nat.not_lt_zero _),⟨news,(bK.set (T:=fun t=>t=119) hc1 (by decide) _).own rfl (dQ (Nat.zero_le _) ho),hn⟩,?_,hs⟩
 ·rw[Below.heap_setCell _ _ _ _ (by show B≠B+1+1;omega)];exact(hat _ (by omega)).trans hbox
 ·rw[Below.heap_setCell _ _ _ _ (by show B+1≠B+1+1;omega)];exact(hat _ (by omega)).trans hres
 ·exact(hb.grown hg (by omega) (fun k e=>by cases e)).setCell (p:=⟨B+1+1,0,none⟩) (by show B<=B+1+1;omega) _
theorem Tryz.infoCpCell:(Tryz.prog.info? 119).map (fun i=>(i.zero,i.size,i.bytes))=some (some (.agg #[.int .i64 0,.int .i64 0]),2,16):=by kernel_rfl
theorem Tryz.infoCpOp:(Tryz.prog.info? 56).map (fun i=>(i.zero,i.size,i.bytes))=some (some (.agg #[.int .u8 0,.int .u8 0,.int .i64 0,.int .i64 0,.int .i64 0,.slice none 0 0,.slice none 0 0,.int .i64 0,.int .i64 0]),9,96):=by kernel_rfl
theorem Tryz.infoCpOps:(Tryz.prog.info? 53).map (fun i=>(i.zero,i.size,i.bytes))=some (some (.slice none 0 0),1,24):=by kernel_rfl
theorem Tryz.infoCpBody:(Tryz.prog.info? 52).map (fun i=>(i.zero,i.size,i.bytes))=some (some (.agg #[.int .i64 0,.int .i64 0,.slice none 0 0]),3,40):=by kernel_rfl
def set3(W:World)(g:Nat)(x y z:Value):World:=((W.setCell ⟨g,0,none⟩ x).setCell ⟨g,1,none⟩ y).setCell ⟨g,2,none⟩ z
theorem FnI.done{B:Nat}{w W:World}{o:Obj}{ar:List (Int × Int)}{fs:List BodyP}{m:Int}{av fv:Value}{xs:List Value}(h:FnI B w o ar fs m fs.length av fv xs W) :
 (bA (set3 W (B+1) av fv (.int .i64 m)).heap.size (set3 W (B+1) av fv (.int .i64 m)) av ar/\bh (set3 W (B+1) av fv (.int .i64 m)).heap.size (set3 W (B+1) av fv (.int .i64 m)) fv fs)/\Below B w (set3 W (B+1) av fv (.int .i64 m)) /\
 (set3 W (B+1) av fv (.int .i64 m)).heap[B+1]?=some (.cells #[av,fv,.int .i64 m] 30):=by
 have h1:=CC.set_obj (c:=0) av h.res
 have h2:=CC.set_obj (c:=1) fv h1
 have h3:=CC.set_obj (c:=2) (.int .i64 m) h2
 have k:bK (fun t=>t≠30) W (set3 W (B+1) av fv (.int .i64 m)):=((bK.set h.res (fun e=>e rfl) av).trans (bK.set h1 (fun e=>e rfl) fv)).trans (bK.set h2 (fun e=>e rfl) _)
 have kd:bK Done W (set3 W (B+1) av fv (.int .i64 m)):=k.weak (fun t ht=>by rcases ht with rfl | rfl | rfl | rfl <;> decide)
 refine⟨⟨(h.arr.kept kd).pairs,TFn.funcs ⟨xs,k.own (by decide) (dQ (Nat.zero_le _) h.own),fun i hi=>?_⟩⟩,?_,h3⟩
 ·obtain⟨ba,bc,g1,g2⟩:=h.each i hi
  exact⟨ba,bc,g1,g2.kept kd⟩
 ·exact((h.below.setCell (p:=⟨B+1,0,none⟩) (Nat.le_succ _) _).setCell (p:=⟨B+1,1,none⟩) (Nat.le_succ _) _).setCell (p:=⟨B+1,2,none⟩) (Nat.le_succ _) _
theorem boxes3c(w:World)(o1 o2 o3:Obj):(((w.alloc o1).alloc o2).alloc o3).heap[w.heap.size]?=some o1/\(((w.alloc o1).alloc o2).alloc o3).heap[w.heap.size+1]?=some o2/\(((w.alloc o1).alloc o2).alloc o3).heap[w.heap.size+1+1]?=some o3/\Below w.heap.size w (((w.alloc o1).alloc o2).alloc o3):=by
 obtain⟨⟨h1,h2⟩,hb⟩:=boxes2 w o1 o2
 have h3:=heap_alloc_new ((w.alloc o1).alloc o2) o3
 rw[World.size_alloc,World.size_alloc] at h3
 exact⟨eE h1 _,eE h2 _,h3,hb.alloc hb.size _⟩
set_option maxRecDepth 100000 in
set_option maxHeartbeats 6400000 in
theorem jl(av fv:Value)(c:CodeP)(w:World)(ha:bA w.heap.size w av c.ar)(hf:bh w.heap.size w fv c.fs)(hfew:CD.Few c)(hs:fm c) :
 Calls Tryz.prog 8 #[.agg #[av,fv,.int .i64 c.mn0]] w fun e w'=>(∃av' fv',e=.returned (.agg #[av',fv',.int .i64 c.mn0])/\bA w'.heap.size w' av' c.ar/\bh w'.heap.size w' fv' c.fs)/\Below w.heap.size w w':=by
 have HA:=zH ha
 have HF:=zH hf
 have HFEW:=zH hfew
 have HS:=zH hs
 obtain⟨aa,ac,rfl⟩:=ha.form
 obtain⟨fa,fc,rfl⟩:=hf.form
 have hfl:c.fs.length<=100:=hfew.f
 have hal:c.ar.length<=100:=hfew.a
 clear ha hf hfew hs
 obtain⟨p0,hp0,hp1,hp2,hp3⟩:=info_parts Tryz.infoCpCell
 obtain⟨o0,ho0,ho1,ho2,ho3⟩:=info_parts Tryz.infoCpOp
 obtain⟨l0,hl0,hl1,hl2,hl3⟩:=info_parts Tryz.infoCpOps
 obtain⟨b0,hb0,hb1,hb2,hb3⟩:=info_parts Tryz.infoCpBody
 obtain⟨i0,hi0,hi1,hi2,hi3⟩:=info_parts Tryz.infoGInt
 have H3:=zH (boxes3c w (.cells #[.slice aa c.ar.length ac,.slice fa c.fs.length fc,.int .i64 c.mn0] 30) (.cells #[.slice none 0 0,.slice none 0 0,.int .i64 0] 30) (.cells #[.slice none 0 0,.slice none 0 0,.int .i64 c.mn0] 30))
 obtain⟨w1,ew1⟩:∃w1,w1=((w.alloc (.cells #[.slice aa c.ar.length ac,.slice fa c.fs.length fc,.int .i64 c.mn0] 30)).alloc (.cells #[.slice none 0 0,.slice none 0 0,.int .i64 0] 30)).alloc (.cells #[.slice none 0 0,.slice none 0 0,.int .i64 c.mn0] 30):=⟨_,rfl⟩
 rw[<-ew1] at H3
 have EW:=zH ew1
 clear ew1
 go_enter Tryz.func8,Tryz.ntmps8
 go_upto_region 2 with fail
 rw[<-EW.out]
 obtain⟨q0,q1,q2⟩:=box3 H3.out.1
 obtain⟨r0,r1,r2⟩:=box3 H3.out.2.2.1
 obtain⟨news,hn1,hn2,hn3,hn4⟩:=(HA.out.below H3.out.2.2.2).src
 have HN3:=zH hn3
 have HSZ:=zH (show w.heap.size+3<=w1.heap.size from(Array.getElem?_eq_some_iff.1 H3.out.2.2.1).1)
 clear hn3
 go_upto_region 3 with
  (at_builtin
   refine GG.wpList_append_any rfl _ _ 27 rfl (w.heap.size+3) 119 p0 (.agg #[.int .i64 0,.int .i64 0]) 2 16 Tryz.underlying27 hp0 hp1 hp2 hp3 rfl (by decide) (.slice none 0 0) 0 [] rfl (World.ownsRow_nil _ _ _ _) _ c.ar.length news rfl hn1 hn4 hn2 (by unfold maxLen;omega) (by omega) HSZ.out ?_
   intro v1 w2 ho hg
   rw[Nat.zero_add,List.nil_append] at ho
   obtain⟨a1,c1,rfl⟩:=GG.aI ho
   have HF1:=zH (FnI.first (fs:=c.fs) H3.out.1 H3.out.2.1 H3.out.2.2.1 H3.out.2.2.2 (Nat.le_refl _) ho hg HN3.out)
   have g0:w2.cell? ⟨w.heap.size+1+1,0,none⟩=some (.slice none 0 0):=(World.cell?_of_block (w:=w1) (a:=⟨w.heap.size+1+1,0,none⟩) (hg.block _ (by have:=HSZ.out;show w.heap.size+1+1<_;omega) (fun e=>by cases e))).trans r0
   have f0:w2.frozen? ⟨w.heap.size+1+1,0,none⟩=false:=frozen_of_row _ _ _ _ _ ((hg.block _ (by have:=HSZ.out;omega) (fun e=>by cases e)).trans H3.out.2.2.1)
   clear ho hg)
 clear q0 q1 q2 r0 r1 r2 g0 f0 hn1 hn2 hn4
 generalize (w2.setCell ⟨w.heap.size+1+1,0,none⟩ (.slice a1 c.ar.length c1))=w4 at HF1 ⊢
 go_wp2_with fail
 go_loopw [4] (fun s4 wr=>∃(i:Nat) (av fv:Value) (xs:List Value),i<=c.fs.length/\s4=.int .i64 (i:Int)/\RowKit.Hid (FnI w.heap.size w (.cells #[.slice aa c.ar.length ac,.slice fa c.fs.length fc,.int .i64 c.mn0] 30) c.ar c.fs c.mn0 i av fv xs wr)) (fun s4 _=>c.fs.length-(intOf s4).toNat)
 case atStart=>exact⟨0,_,_,_,Nat.zero_le _,rfl,HF1⟩
 case round =>
  obtain⟨w5,rfl⟩:∃w5,w5=wr:=⟨_,rfl⟩
  obtain⟨i,av,fv,xs,hi,rfl,HI⟩:=hrel
  obtain⟨ca,cc,efv⟩:=GG.aI HI.out.own
  subst efv
  have HCA:=zH HI.out.arr
  obtain⟨_,HAR,_⟩:=HI.out.arr
  obtain⟨da,dc,eav⟩:=GG.aI HAR
  subst eav
  clear HAR HF1
  obtain⟨q0,q1,q2⟩:=box3 HI.out.box
  by_cases hlt:i<c.fs.length
  ·have HLT:=zH hlt
   obtain⟨blk,off,ba,bc,efa,hblk,f0,f1,f2,hbs⟩:=(HF.out.below HI.out.below).at hlt
   subst efa
   have HFN:=zH (show c.fs[i]?.getD CD.b0=fnAt c i from rfl)
   rw[HFN.out] at f0 f1 f2 hbs
   have hbl:=HFEW.out.b i hlt
   have HK:=zH (HFEW.out.l i hlt)
   have HSS:=zH (HS.out i hlt)
   obtain⟨b,eb⟩:∃b,b=fnAt c i:=⟨_,rfl⟩
   rw[<-eb] at f0 f1 f2 hbs hbl HK HSS
   have HEB:=zH eb
   have HBS:=zH hbs
   have i1:(0:Int)<=i/\(i:Int)<c.fs.length:=by omega
   clear eb hlt hbs
   go_upto_region 7 with fail
   clear q0 q1 q2 f0 f1 f2
   obtain⟨w6,ew6⟩:∃w6,w6=w5.alloc (.cells #[.int .i64 b.pa,.int .i64 b.va,.slice ba b.bs.length bc] 52):=⟨_,rfl⟩
   rw[<-ew6]
   have HB6:=zH (show Below w5.heap.size w5 w6 by rw[ew6];exact(Below.refl _ _).alloc (Nat.le_refl _) _)
   have H56:=zH (show w6.heap[w5.heap.size]?=some (.cells #[.int .i64 b.pa,.int .i64 b.va,.slice ba b.bs.length bc] 52) by rw[ew6];exact heap_alloc_new _ _)
   have HZ6:=zH (show w6.heap.size=w5.heap.size+1 by rw[ew6,World.size_alloc])
   have EW6:=zH ew6
   have HW5:=zH (show w.heap.size<=w5.heap.size from HI.out.below.size)
   clear ew6
   go_wp2_with fail
   go_loopw [6,7] (fun s6 s7 wr=>∃(j:Nat) (us:List Value),j<=b.bs.length/\s7=.int .i64 (j:Int)/\RowKit.Hid (BlJ (w5.heap.size+1) w6 b.bs s6 j us wr)) (fun _ s7 _=>b.bs.length-(intOf s7).toNat)
   case atStart=>exact⟨0,[],Nat.zero_le _,rfl,zH ⟨World.ownsRow_nil _ _ _ _,fun i hi=>absurd hi (Nat.not_lt_zero _),Below.refl _ _,by rw[HZ6.out];exact Nat.le_refl _⟩⟩
   case round =>
    obtain⟨w7,rfl⟩:∃w7,w7=wr:=⟨_,rfl⟩
    obtain⟨j,us,hj,rfl,HJ⟩:=hrel
    obtain⟨ua,uc,eus⟩:=GG.aI HJ.out.own
    subst eus
    have H57:=zH (show w7.heap[w5.heap.size]?=some (.cells #[.int .i64 b.pa,.int .i64 b.va,.slice ba b.bs.length bc] 52) from(HJ.out.below.block _ (Nat.lt_succ_self _)).trans H56.out)
    have HB7:=zH (show Below w5.heap.size w5 w7 from HB6.out.trans (HJ.out.below.mono (Nat.le_succ _)))
    obtain⟨x0,x1,x2⟩:=box3 H57.out
    by_cases hjt:j<b.bs.length
    ·have HJT:=zH hjt
     obtain⟨w8,ew8⟩:∃w8,w8=w7.alloc (.cells #[] 56):=⟨_,rfl⟩
     have HB8:=zH (show Below w7.heap.size w7 w8 by rw[ew8];exact(Below.refl _ _).alloc (Nat.le_refl _) _)
     obtain⟨bb,bo,la,lc,eba,hbb,hcell,hops⟩:=(HBS.out.below ((HB7.out.mono HW5.out).trans (HB8.out.mono (Nat.le_trans HW5.out HB7.out.size)))).at hjt
     subst eba
     have HBA:=zH (show b.bs[j]?.getD []=blAt b j from rfl)
     rw[HBA.out] at hcell hops
     have hln:=HK.out j hjt
     have HSO:=zH (HSS.out j hjt)
     obtain⟨l,el⟩:∃l,l=blAt b j:=⟨_,rfl⟩
     rw[<-el] at hcell hops hln HSO HBA
     have HEL:=zH el
     have i2:(0:Int)<=j/\(j:Int)<b.bs.length:=by omega
     obtain⟨y0,y1,y2⟩:=box3 (az HB8.out H57.out)
     obtain⟨news2,hm1,hm2,hm3,hm4⟩:=hops.src
     have HM3:=zH hm3
     have EW8:=zH ew8
     have hlit:=World.ownsRow_lit (e:=56) (base:=w7.heap.size) (size:=9) w7 #[] 0 (Nat.le_refl _) (Nat.zero_le _) rfl
     rw[<-ew8] at hlit
     have HLT2:=zH hlit
     have hs8:w7.heap.size<=w8.heap.size:=HB8.out.size
     clear el hjt hops ew8 hm3 hlit x0 x1 y0 y1
     go_upto_region 12 with
      (first
       | (rw[<-EW8.out])
       | (at_builtin
          refine jF rfl _ _ 53 rfl w7.heap.size 56 o0 _ 9 96 Tryz.underlying53 ho0 ho1 ho2 ho3 rfl (by decide) (.slice (some ⟨w7.heap.size,0,none⟩) 0 0) 0 [] rfl HLT2.out _ l.length news2 rfl hm1 hm4 hm2 (by unfold maxLen;omega) (by omega) hs8 ?_
          intro v9 w9 ho hg
          rw[Nat.zero_add,List.nil_append] at ho
          obtain⟨la9,lc9,rfl⟩:=GG.aI ho
          have HK9:=zH (OpsK.start (n₀:=w.heap.size) (Nat.le_trans HW5.out HB7.out.size) (by rw[<-EW8.out];exact HM3.out) ho (by rw[<-EW8.out];exact hg))
          clear ho hg))
     clear y2 hcell hm1 hm2 hm4 hs8
     have HWN:=zH (show w.heap.size<=w7.heap.size from Nat.le_trans HW5.out HB7.out.size)
     go_wp2_with fail
     go_loopw [9] (fun s9 wr=>∃k:Nat,k<=l.length/\s9=.int .i64 (k:Int)/\RowKit.Hid (OpsK w7.heap.size w.heap.size w7 l (.slice la9 l.length lc9) k k wr)) (fun s9 _=>l.length-(intOf s9).toNat)
     case atStart=>exact⟨0,Nat.zero_le _,rfl,HK9⟩
     case round =>
      obtain⟨w10,rfl⟩:∃w10,w10=wr:=⟨_,rfl⟩
      obtain⟨k,hk,rfl,HO⟩:=hrel
      by_cases hkt:k<l.length
      ·have HKT:=zH hkt
       obtain⟨g,xa,xc,ya,yc,ela,hg10,c5,c6,r5,r6,fz⟩:=HO.out.cell hkt
       subst ela
       have hsx:=(HSO.out k hkt).1
       have hsy:=(HSO.out k hkt).2
       have HR6:=zH (r6 (Nat.le_refl _))
       have HWK:=zH (show w.heap.size<=w10.heap.size from Nat.le_trans HWN.out HO.out.below.size)
       obtain⟨w11,ew11⟩:∃w11,w11=w10.alloc (.cells #[] 3):=⟨_,rfl⟩
       have HB11:=zH (show Below w10.heap.size w10 w11 by rw[ew11];exact(Below.refl _ _).alloc (Nat.le_refl _) _)
       have HX:=zH ((r5 (Nat.le_refl _)).below (HB11.out.mono HWK.out)).src
       have d5:w11.cell? ⟨g,k*9+5,none⟩=some (.slice xa (aj l k).xs.length xc):=(HB11.out.cell (p:=⟨g,k*9+5,none⟩) hg10).trans c5
       have d6:w11.cell? ⟨g,k*9+6,none⟩=some (.slice ya (aj l k).ys.length yc):=(HB11.out.cell (p:=⟨g,k*9+6,none⟩) hg10).trans c6
       have hlit:=World.ownsRow_lit (e:=3) (base:=w10.heap.size) (size:=1) w10 #[] 0 (Nat.le_refl _) (Nat.zero_le _) rfl
       rw[<-ew11] at hlit
       have HLI:=zH hlit
       have HFZ:=zH fz
       have HG10:=zH hg10
       have HS11:=zH HB11.out.size
       have EW11:=zH ew11
       have i3:(0:Int)<=k/\(k:Int)<l.length:=by omega
       clear hkt c5 c6 r5 r6 fz hlit ew11 hg10
       go_upto_region 16 with
        (first
         | (rw[<-EW11.out])
         | (at_builtin
            refine GG.wpList_append_any rfl _ _ 54 rfl w10.heap.size 3 i0 _ 1 8 Tryz.underlying54 hi0 hi1 hi2 hi3 rfl (by decide) (.slice (some ⟨w10.heap.size,0,none⟩) 0 0) 0 [] rfl HLI.out _ (aj l k).xs.length (ap (aj l k).xs) rfl (by rw[aY,Nat.mul_one]) (by have h:=HX.out;rw[aY] at h;exact h) (GG.jK _) (by unfold maxLen;omega) (by omega) HS11.out ?_
            intro v12 w12 ho hg
            rw[Nat.zero_add,List.nil_append] at ho
            obtain⟨va,vc,rfl⟩:=GG.aI ho
            rw[EW11.out] at hg
            have HP5:=zH (HO.out.put5 ho hg)
            have hb12:=hg.block g (by have:=HG10.out;simp;omega) (fun e=>by cases e;exact absurd HG10.out (Nat.lt_irrefl _))
            rw[heap_alloc_old _ _ HG10.out] at hb12
            have e5:w12.cell? ⟨g,k*9+5,none⟩=some (.slice xa (aj l k).xs.length xc):=(World.cell?_of_block (w:=w10) (a:=⟨g,k*9+5,none⟩) hb12).trans ((HB11.out.cell (p:=⟨g,k*9+5,none⟩) HG10.out).symm.trans d5)
            have f5:w12.frozen? ⟨g,k*9+5,none⟩=false:=(World.frozen?_of_block (w:=w10) (a:=⟨g,k*9+5,none⟩) hb12).trans (HFZ.out _)
            clear ho hg hb12))
       clear d5 d6 e5 f5
       generalize (w12.setCell ⟨g,k*9+5,none⟩ (.slice va (aj l k).xs.length vc))=w13 at HP5 ⊢
       obtain⟨g',xa',xc',ya',yc',ela',hg13,c5,c6,r5,r6,fz⟩:=HP5.out.cell HKT.out
       cases ela'
       have HWK13:=zH (show w.heap.size<=w13.heap.size from Nat.le_trans HWN.out HP5.out.below.size)
       obtain⟨w14,ew14⟩:∃w14,w14=w13.alloc (.cells #[] 3):=⟨_,rfl⟩
       have HB14:=zH (show Below w13.heap.size w13 w14 by rw[ew14];exact(Below.refl _ _).alloc (Nat.le_refl _) _)
       have HY:=zH ((r6 (Nat.le_refl _)).below (HB14.out.mono HWK13.out)).src
       have d6:w14.cell? ⟨g,k*9+6,none⟩=some (.slice ya' (aj l k).ys.length yc'):=(HB14.out.cell (p:=⟨g,k*9+6,none⟩) hg13).trans c6
       have hlit:=World.ownsRow_lit (e:=3) (base:=w13.heap.size) (size:=1) w13 #[] 0 (Nat.le_refl _) (Nat.zero_le _) rfl
       rw[<-ew14] at hlit
       have HLI2:=zH hlit
       have HFZ2:=zH fz
       have HG13:=zH hg13
       have HS14:=zH HB14.out.size
       have EW14:=zH ew14
       clear c5 c6 r5 r6 fz hlit ew14 hg13
       go_upto_region 14 with
        (first
         | (rw[<-EW14.out])
         | (at_builtin
            refine GG.wpList_append_any rfl _ _ 54 rfl w13.heap.size 3 i0 _ 1 8 Tryz.underlying54 hi0 hi1 hi2 hi3 rfl (by decide) (.slice (some ⟨w13.heap.size,0,none⟩) 0 0) 0 [] rfl HLI2.out _ (aj l k).ys.length (ap (aj l k).ys) rfl (by rw[aY,Nat.mul_one]) (by have h:=HY.out;rw[aY] at h;exact h) (GG.jK _) (by unfold maxLen;omega) (by omega) HS14.out ?_
            intro v15 w15 ho hg
            rw[Nat.zero_add,List.nil_append] at ho
            obtain⟨va2,vc2,rfl⟩:=GG.aI ho
            rw[EW14.out] at hg
            have HP6:=zH (HP5.out.put6 ho hg)
            have hb15:=hg.block g (by have:=HG13.out;simp;omega) (fun e=>by cases e;exact absurd HG13.out (Nat.lt_irrefl _))
            rw[heap_alloc_old _ _ HG13.out] at hb15
            have e6:w15.cell? ⟨g,k*9+6,none⟩=some (.slice ya' (aj l k).ys.length yc'):=(World.cell?_of_block (w:=w13) (a:=⟨g,k*9+6,none⟩) hb15).trans ((HB14.out.cell (p:=⟨g,k*9+6,none⟩) HG13.out).symm.trans d6)
            have f6:w15.frozen? ⟨g,k*9+6,none⟩=false:=(World.frozen?_of_block (w:=w13) (a:=⟨g,k*9+6,none⟩) hb15).trans (HFZ2.out _)
            clear ho hg hb15))
       clear d6 e6 f6
       generalize (w15.setCell ⟨g,k*9+6,none⟩ (.slice va2 (aj l k).ys.length vc2))=w16 at HP6 ⊢
       go_wp2_with fail
       go_roundw
       case rel=>exact⟨k+1,HKT.out,by go_num,HP6⟩
       case measure=>have:=HKT.out;simp [intOf];omega
      ·have ek:k=l.length:=by omega
       subst ek
       have HT:=zH (show TOps w10 (.slice la9 l.length lc9) (b.bs[j]?.getD []) by rw[show b.bs[j]?.getD []=l from HEL.out.symm];exact HO.out.ops (Nat.le_refl _) (Nat.le_refl _))
       have HB10:=zH HO.out.below
       clear hkt
       have HJO:=zH (show w10.ownsRow (w5.heap.size+1) 53 1 (.slice ua j uc) j us from CC.own_of_block HJ.out.own (fun k e=>HB10.out.block k (HJ.out.own.lt k e).2))
       have hs10:w5.heap.size+1<=w10.heap.size:=by have h1:=HJ.out.below.size;have h2:=HJ.out.sz;have h3:=HB10.out.size;omega
       go_wp2_with
        (at_builtin
         refine GG.wpList_append_any rfl _ _ 50 rfl (w5.heap.size+1) 53 l0 _ 1 24 Tryz.underlying50 hl0 hl1 hl2 hl3 rfl (by decide) (.slice ua j uc) j us rfl (HJO.out.alloc _) (.slice (some ⟨_,0,none⟩) 1 1) 1 [.slice la9 l.length lc9] rfl rfl (.inr ⟨_,_,rfl,GG.aW _ _ _⟩) (by intro u hu;rw[List.mem_singleton.1 hu];rfl) (by unfold maxLen;omega) (by omega) (by simp;omega) ?_
         intro v17 w17 ho hg
         have HNX:=zH (HJ.out.next HB10.out HT.out ho hg)
         clear ho hg)
       go_roundw
       case rel=>exact⟨j+1,_,HJT.out,by go_num,HNX⟩
       case measure=>have:=HJT.out;simp [intOf];omega
    ·have ej:j=b.bs.length:=by omega
     subst ej
     clear hjt
     have z2:=bq (k:=2) H57.out
     have HB9:=zH HJ.out.below
     obtain⟨w8,ew8⟩:∃w8,w8=w7.setCell ⟨w5.heap.size,2,none⟩ (.slice ua b.bs.length uc):=⟨_,rfl⟩
     have H58:=zH (show w8.heap[w5.heap.size]?=some (.cells #[.int .i64 b.pa,.int .i64 b.va,.slice ua b.bs.length uc] 52) by rw[ew8];exact CC.set_obj (c:=2) (.slice ua b.bs.length uc) H57.out)
     have HB8:=zH (show Below w5.heap.size w5 w8 by rw[ew8];exact HB7.out.setCell (p:=⟨w5.heap.size,2,none⟩) (Nat.le_refl _) _)
     have EW8:=zH ew8
     go_upto_region 19 with fail
     rw[<-EW8.out]
     clear ew8 x0 x1 x2 z2
     obtain⟨y0,y1,y2⟩:=box3 H58.out
     obtain⟨d0,d1,d2⟩:=box3 (az HB8.out HI.out.code)
     have HO8:=zH (show w8.ownsRow (w.heap.size+3) 52 3 (.slice ca i cc) i xs from CC.own_of_block HI.out.own (fun k e=>HB8.out.block k (HI.out.own.lt k e).2))
     have hs8:w.heap.size+3<=w8.heap.size:=by have h1:=(Array.getElem?_eq_some_iff.1 HI.out.code).1;have h2:=HB8.out.size;omega
     have HBB:=zH (show b=c.fs[i]?.getD CD.b0 from HEB.out)
     have HBX:=zH (show w.heap.size+1+1<w5.heap.size from(Array.getElem?_eq_some_iff.1 HI.out.code).1)
     go_upto_region 5 with
      (at_builtin
       refine GG.wpList_append_any rfl _ _ 28 rfl (w.heap.size+3) 52 b0 _ 3 40 Tryz.underlying28 hb0 hb1 hb2 hb3 rfl (by decide) (.slice ca i cc) i xs rfl (HO8.out.alloc _) (.slice (some ⟨w8.heap.size,0,none⟩) 1 1) 1 [.int .i64 b.pa,.int .i64 b.va,.slice ua b.bs.length uc] rfl rfl (.inr ⟨_,_,rfl,World.news_of_block (heap_alloc_new _ _)⟩) (by intro u hu;simp only[List.mem_cons,List.mem_nil_iff,or_false] at hu;rcases hu with rfl | rfl | rfl <;> rfl) (by unfold maxLen;omega) (by omega) (by simp;omega) ?_
       intro v20 w20 ho hg
       obtain⟨na,nc,rfl⟩:=GG.aI ho
       have HNX:=zH (HI.out.next HBB.out H57.out (by rw[<-EW6.out];exact HJ.out) ho (by rw[<-EW8.out];exact hg))
       have hb20:=(hg.block (w.heap.size+1+1) (by have h1:=HBX.out;have h2:=HB8.out.size;simp;omega) (fun e=>by have:=(HI.out.own.lt _ e.symm).1;omega)).trans ((heap_alloc_old _ _ (by have h1:=HBX.out;have h2:=HB8.out.size;omega)).trans (az HB8.out HI.out.code))
       have g1:w20.cell? ⟨w.heap.size+1+1,1,none⟩=some (.slice ca i cc):=cell_of_row _ _ 1 _ _ _ hb20
       have f1:=bq (k:=1) hb20
       clear ho hg hb20)
     clear g1 f1 y0 y1 y2 d0 d1 d2
     generalize (w20.setCell ⟨w.heap.size+1+1,1,none⟩ (.slice na (i+1) nc))=w21 at HNX ⊢
     go_wp2_with fail
     go_roundw
     case rel=>exact⟨i+1,_,_,_,HLT.out,by go_num,HNX⟩
     case measure=>have:=HLT.out;simp [intOf];omega
  ·have ei:i=c.fs.length:=by omega
   subst ei
   clear hlt
   obtain⟨d0,d1,d2⟩:=box3 HI.out.code
   obtain⟨e0,e1,e2⟩:=box3 HI.out.res
   have z0:=bq (k:=0) HI.out.res
   have z1:=bq (k:=1) HI.out.res
   have z2:=bq (k:=2) HI.out.res
   go_wp2_with fail
   obtain⟨hd,hbl,h3⟩:=HI.out.done
   obtain⟨y0,y1,y2⟩:=box3 h3
   unfold set3 at y0 y1 y2
   refine bodyPost_ret (v:=.agg #[.slice da c.ar.length dc,.slice ca c.fs.length cc,.int .i64 c.mn0]) (by simp [results,Tryz.results8,go_sem,y0,y1,y2]) rfl ?_
   exact⟨⟨_,_,rfl,hd⟩,hbl⟩
end
section
open Go.RowKit
open CD (OpP BodyP CodeP aj blAt fnAt)
section
variable {q:CD.Cnt} {c:CodeP} {b:BodyP}
theorem mU(h:CD.aK q c b){i k i' k':Nat}(hi:i<b.bs.length)(hk:k<(blAt b i).length)(hi':i'<b.bs.length)(hk':k'<(blAt b i').length)(hd:CD.Defs (aj (blAt b i) k).k)(hl:i<i'∨i=i'/\k<k'):CD.cntB b i+CD.cnt (blAt b i) k<CD.cntB b i'+CD.cnt (blAt b i') k':=by
 have h1:=CD.gK hk
 rw[if_pos hd] at h1
 rcases hl with hl | ⟨rfl,hl⟩
 ·have h2:=CD.fK hi
  have h3:=lZ (blAt b i) (show k+1<=(blAt b i).length from hk)
  have h4:=nH b (show i+1<=i' from hl)
  omega
 ·have h3:=lZ (blAt b i) (show k+1<=k' from hl)
  omega
theorem def_one(h:CD.aK q c b){i k i' k':Nat}(hi:i<b.bs.length)(hk:k<(blAt b i).length)(hi':i'<b.bs.length)(hk':k'<(blAt b i').length)(e:(aj (blAt b i) k).d=(aj (blAt b i') k').d)(h0:0<=(aj (blAt b i) k).d):i=i'/\k=k':=by
 rcases pu h hi hk with⟨hd,e1⟩ | ⟨_,e1⟩
 ·rcases pu h hi' hk' with⟨hd',e2⟩ | ⟨_,e2⟩
  ·have h1:=mU h hi hk hi' hk' hd
   have h2:=mU h hi' hk' hi hk hd'
   rw[e1,e2] at e
   by_cases a:i=i'
   ·subst a
    by_cases a2:k=k'
    ·exact⟨rfl,a2⟩
    ·exfalso
     rcases Nat.lt_or_gt_of_ne a2 with a3 | a3
     ·have:=h1 (.inr ⟨rfl,a3⟩);omega
     ·have:=h2 (.inr ⟨rfl,a3⟩);omega
   ·exfalso
    rcases Nat.lt_or_gt_of_ne a with a3 | a3
    ·have:=h1 (.inl a3);omega
    ·have:=h2 (.inl a3);omega
  ·omega
 ·omega
end
set_option maxRecDepth 100000 in
set_option maxHeartbeats 3200000 in
theorem rI{n₀:Nat}{q:CD.Cnt}{c:CodeP}{b:BodyP}(hb:CD.aK q c b)(hk:∀k,k<b.bs.length->(blAt b k).length<=300)(v:Nat)(h1:b.pa<=v)(h2:(v:Int)<b.va)(ba:Option Addr)(bc:Nat)(w:World)(hn:n₀<=w.heap.size)(hM:aU n₀ w (.slice ba b.bs.length bc) b.bs) :
 Calls Tryz.prog 115 #[.agg #[.int .i64 b.pa,.int .i64 b.va,.slice ba b.bs.length bc],.int .i64 (v:Int)] w fun e w'=>e=.returned (.tuple #[.int .i64 (FF b (itB b) (v*2)),.int .i64 (FF b (itB b) (v*2+1))])/\Below w.heap.size w w':=by
 obtain⟨i0,k0,hi0,hk0,hd0,e1,e2⟩:=ff_at hb h1 h2
 rw[e1,e2]
 have HU:=zH (fun(i k:Nat) (hi:i<b.bs.length) (hk:k<(blAt b i).length) (e:(aj (blAt b i) k).d=(v:Nat))=>def_one hb hi hk hi0 hk0 (e.trans hd0.symm) (by omega))
 have H0:=zH (And.intro hi0 (And.intro hk0 hd0))
 have HK:=zH hk
 have hl:=hb.1.2.2
 have HB1:=zH ((Below.refl w.heap.size w).alloc (Nat.le_refl _) (.cells #[.int .i64 b.pa,.int .i64 b.va,.slice ba b.bs.length bc] 52))
 obtain⟨w1,ew1⟩:∃w1,w1=w.alloc (.cells #[.int .i64 b.pa,.int .i64 b.va,.slice ba b.bs.length bc] 52):=⟨_,rfl⟩
 have hbx:w1.heap[w.heap.size]?=some (.cells #[.int .i64 b.pa,.int .i64 b.va,.slice ba b.bs.length bc] 52):=by rw[ew1];exact heap_alloc_new _ _
 rw[<-ew1] at HB1
 have EW:=zH ew1
 have HM:=zH (hM.below (HB1.out.mono hn))
 obtain⟨d0,d1,d2⟩:=box3 hbx
 clear hb hk h1 h2 hM hi0 hk0 hd0 e1 e2 ew1 hbx
 go_enter Tryz.func115,Tryz.ntmps115
 go_wp2_with fail
 rw[<-EW.out]
 go_wp2_with fail
 go_loop [6] (fun s=>∃i:Nat,i<=b.bs.length/\s=.int .i64 (i:Int)/\RowKit.Hid (∀i' k',i'<i->k'<(blAt b i').length->(aj (blAt b i') k').d≠(v:Nat))) (fun s=>b.bs.length-(intOf s).toNat)
 case atStart=>exact⟨0,Nat.zero_le _,rfl,zH (fun i' k' h=>absurd h (Nat.not_lt_zero _))⟩
 case round =>
  obtain⟨i,hi,rfl,HI⟩:=hrel
  by_cases hlt:i<b.bs.length
  ·obtain⟨bb,bo,la,lc,eba,hbb,hcell,hops⟩:=HM.out.at hlt
   subst eba
   have HOPS:=zH hops
   have hln:=HK.out i hlt
   have HLT:=zH hlt
   have i1:(0:Int)<=i/\(i:Int)<b.bs.length:=by omega
   have HBA:=zH (show b.bs[i]?.getD []=blAt b i from rfl)
   rw[HBA.out] at hcell HOPS
   obtain⟨l,el⟩:∃l,l=blAt b i:=⟨_,rfl⟩
   rw[<-el] at hcell HOPS hln
   have HEL:=zH el
   clear el hops hlt
   go_wp2_with fail
   go_loop [7] (fun s=>∃j:Nat,j<=l.length/\s=.int .i64 (j:Int)/\RowKit.Hid (∀k',k'<j->(aj l k').d≠(v:Nat))) (fun s=>l.length-(intOf s).toNat)
   case atStart=>exact⟨0,Nat.zero_le _,rfl,zH (fun k' h=>absurd h (Nat.not_lt_zero _))⟩
   case round =>
    obtain⟨j,hj,rfl,HJ⟩:=hrel
    by_cases hjt:j<l.length
    ·obtain⟨blk,off,xa,xc,ya,yc,ela,hblk,⟨x0,x1,x2,x3,x4,x5,x6,x7,x8⟩,_,_⟩:=dK HOPS.out hjt
     subst ela
     have HJT:=zH hjt
     have i2:(0:Int)<=j/\(j:Int)<l.length:=by omega
     obtain⟨d,ed⟩:∃d,d=(aj l j).d:=⟨_,rfl⟩
     rw[<-ed] at x2
     have HD:=zH ed
     clear ed x0 x1 x3 x4 x5 x6 x7 x8 hjt
     by_cases he:d=(v:Int)
     ·have t1:(d == (v:Int))=true:=beq_iff_eq.2 he
      have HE:=zH (HU.out i j HLT.out (by rw[<-HEL.out];exact HJT.out) (by rw[<-HEL.out,<-HD.out];exact he))
      clear he
      go_wp2_with fail
      go_ret2
      exact⟨by rw[HE.out.1,HE.out.2];rfl,HB1.out⟩
     ·have t1:(d == (v:Int))=false:=beq_eq_false_iff_ne.2 he
      have HN:=zH (show ∀k',k'<j+1->(aj l k').d≠(v:Nat) from fun k' hk'=>by
       by_cases e:k'=j
       ·rw[e,<-HD.out];exact he
       ·exact HJ.out k' (by omega))
      clear he
      go_wp2_with fail
      go_round
      case rel=>exact⟨j+1,HJT.out,by go_num,HN⟩
      case measure=>have:=HJT.out;simp [intOf];omega
    ·have HN:=zH (show ∀i' k',i'<i+1->k'<(blAt b i').length->(aj (blAt b i') k').d≠(v:Nat) from fun i' k' hi' hk'=>by
      by_cases e:i'=i
      ·rw[e,<-HEL.out] at hk' ⊢;exact HJ.out k' (by omega)
      ·exact HI.out i' k' (by omega) hk')
     have ej:j=l.length:=by omega
     subst ej
     clear hjt
     go_wp2_with fail
     go_round
     case rel=>exact⟨i+1,HLT.out,by go_num,HN⟩
     case measure=>have:=HLT.out;simp [intOf];omega
  ·exfalso
   exact HI.out i0 k0 (by have:=H0.out.1;omega) H0.out.2.1 H0.out.2.2
theorem mV{n₀:Nat}{b:BodyP}{tv:Value}{to9:List (List Int)}{ba:Option Addr}{bc:Nat}{w w':World}(hb:Below w.heap.size w w')(hn:n₀<=w.heap.size)(hM:aU n₀ w (.slice ba b.bs.length bc) b.bs)(hG:aq w.heap.size w tv to9):aU n₀ w' (.slice ba b.bs.length bc) b.bs/\aq w'.heap.size w' tv to9 :=
 ⟨hM.below (hb.mono hn),hG.on hb hb.size⟩
set_option maxRecDepth 100000 in
set_option maxHeartbeats 3200000 in
theorem rJ{n₀:Nat}{q:CD.Cnt}{c:CodeP}{b:BodyP}(hb:CD.aK q c b)(hk:∀k,k<b.bs.length->(blAt b k).length<=300)(v bi:Nat)(h2:(v:Int)<b.va)(hbi:bi<b.bs.length)(ba:Option Addr)(bc:Nat)(tv:Value)(w:World)(hn:n₀<=w.heap.size)(hM:aU n₀ w (.slice ba b.bs.length bc) b.bs)(hG:aq w.heap.size w tv (toB b)) :
 Calls Tryz.prog 114 #[.agg #[.int .i64 b.pa,.int .i64 b.va,.slice ba b.bs.length bc],tv,.int .i64 (v:Int),.int .i64 (bi:Int)] w fun e w'=>e=.returned (.bool (iO b (toB b) v bi))/\Below w.heap.size w w':=by
 obtain⟨ta,tc,rfl⟩:=hG.form
 have HB1:=zH ((Below.refl w.heap.size w).alloc (Nat.le_refl _) (.cells #[.int .i64 b.pa,.int .i64 b.va,.slice ba b.bs.length bc] 52))
 obtain⟨w1,ew1⟩:∃w1,w1=w.alloc (.cells #[.int .i64 b.pa,.int .i64 b.va,.slice ba b.bs.length bc] 52):=⟨_,rfl⟩
 rw[<-ew1] at HB1
 have EW:=zH ew1
 obtain⟨z,ez⟩:∃z,z=iO b (toB b) v bi:=⟨_,rfl⟩
 rw[<-ez]
 have HZ:=zH ez
 by_cases hp:(v:Int)<b.pa
 ·have t1:decide ((v:Int)<b.pa)=true:=decide_eq_true hp
  have HE:=zH (show z=true by rw[ez];unfold iO;rw[if_pos hp])
  clear hp hM hG ez ew1 h2 hb hk
  go_enter Tryz.func114,Tryz.ntmps114
  go_wp2_with fail
  rw[<-EW.out]
  go_ret
  exact⟨by rw[HE.out];rfl,HB1.out⟩
 ·have t1:decide ((v:Int)<b.pa)=false:=decide_eq_false hp
  obtain⟨i0,k0,hi0,hk0,hd0,e1,e2⟩:=ff_at hb (by omega) h2
  have HMG:=zH (mV HB1.out hn hM hG)
  have HDF:=zH (rI hb hk v (by omega) h2 ba bc w1 (Nat.le_trans hn HB1.out.size) HMG.out.1)
  rw[e1,e2] at HDF
  have HRT:=zH (gT hb)
  have HTL:=zH (fF b)
  have HE:=zH (show DD.ovB (toB b) i0 bi=z by rw[ez];unfold iO;rw[if_neg hp,e1,Int.toNat_natCast])
  have HI:=zH (And.intro hi0 hbi)
  clear hp hM hG ez ew1 h2 hb hk hd0 e1 e2 hi0 hbi HZ hk0
  go_enter Tryz.func114,Tryz.ntmps114
  go_wp2_with (first
   | (go_at_call 115;rw[<-EW.out];refine HDF.out.mono ?_;rintro e w2 ⟨rfl,hb2⟩;have HB2:=zH hb2;clear hb2)
   | (go_at_call 116;refine(rx i0 bi _ (HMG.out.2.on HB2.out HB2.out.size) HRT.out (by rw[HTL.out];exact HI.out.1) (by rw[HTL.out];exact HI.out.2)).mono ?_;rintro e w3 ⟨rfl,hb3⟩;rw[HE.out];have HB3:=zH (HB2.out.trans (hb3.mono HB2.out.size));clear hb3))
  go_ret
  exact⟨rfl,HB1.out.trans (HB3.out.mono HB1.out.size)⟩
set_option maxRecDepth 100000 in
set_option maxHeartbeats 3200000 in
theorem pR{n₀:Nat}{q:CD.Cnt}{c:CodeP}{b:BodyP}(hb:CD.aK q c b)(hk:∀k,k<b.bs.length->(blAt b k).length<=300)(v bi:Nat)(ki:Int)(h2:(v:Int)<b.va)(hbi:bi<b.bs.length)(ba:Option Addr)(bc:Nat)(tv:Value)(w:World)(hn:n₀<=w.heap.size)(hM:aU n₀ w (.slice ba b.bs.length bc) b.bs)(hG:aq w.heap.size w tv (toB b)) :
 Calls Tryz.prog 72 #[.agg #[.int .i64 b.pa,.int .i64 b.va,.slice ba b.bs.length bc],tv,.int .i64 (v:Int),.int .i64 (bi:Int),.int .i64 ki] w fun e w'=>e=.returned (.bool (eW b (toB b) v bi ki))/\Below w.heap.size w w':=by
 obtain⟨ta,tc,rfl⟩:=hG.form
 have HB1:=zH ((Below.refl w.heap.size w).alloc (Nat.le_refl _) (.cells #[.int .i64 b.pa,.int .i64 b.va,.slice ba b.bs.length bc] 52))
 obtain⟨w1,ew1⟩:∃w1,w1=w.alloc (.cells #[.int .i64 b.pa,.int .i64 b.va,.slice ba b.bs.length bc] 52):=⟨_,rfl⟩
 rw[<-ew1] at HB1
 have EW:=zH ew1
 obtain⟨z,ez⟩:∃z,z=eW b (toB b) v bi ki:=⟨_,rfl⟩
 rw[<-ez]
 have HZ:=zH ez
 by_cases hp:(v:Int)<b.pa
 ·have t1:decide ((v:Int)<b.pa)=true:=decide_eq_true hp
  have HE:=zH (show z=true by rw[ez];unfold eW;rw[if_pos hp])
  clear hp hM hG ez ew1 h2 hb hk
  go_enter Tryz.func72,Tryz.ntmps72
  go_wp2_with fail
  rw[<-EW.out]
  go_ret
  exact⟨by rw[HE.out];rfl,HB1.out⟩
 ·have t1:decide ((v:Int)<b.pa)=false:=decide_eq_false hp
  obtain⟨i0,k0,hi0,hk0,hd0,e1,e2⟩:=ff_at hb (by omega) h2
  have HMG:=zH (mV HB1.out hn hM hG)
  have HDF:=zH (rI hb hk v (by omega) h2 ba bc w1 (Nat.le_trans hn HB1.out.size) HMG.out.1)
  rw[e1,e2] at HDF
  have HRT:=zH (gT hb)
  have HTL:=zH (fF b)
  have HI:=zH (And.intro hi0 hbi)
  by_cases he:i0=bi
  ·have t2:((i0:Int) == (bi:Int))=true:=beq_iff_eq.2 (by omega)
   have t2':(i0 == bi)=true:=beq_iff_eq.2 he
   have HE:=zH (show decide ((k0:Int)<ki)=z by rw[ez];unfold eW;rw[if_neg hp,e1,e2,if_pos (by omega)])
   clear hp hM hG ez ew1 h2 hb hk hd0 e1 e2 hi0 hbi HZ hk0 he
   go_enter Tryz.func72,Tryz.ntmps72
   go_wp2_with (go_at_call 115;rw[<-EW.out];refine HDF.out.mono ?_;rintro e w2 ⟨rfl,hb2⟩;have HB2:=zH hb2;clear hb2)
   go_ret
   exact⟨by rw[<-HE.out];rfl,HB1.out.trans (HB2.out.mono HB1.out.size)⟩
  ·have t2:((i0:Int) == (bi:Int))=false:=beq_eq_false_iff_ne.2 (by omega)
   have t2':(i0 == bi)=false:=beq_eq_false_iff_ne.2 he
   have HE:=zH (show DD.ovB (toB b) i0 bi=z by rw[ez];unfold eW;rw[if_neg hp,e1,if_neg (by omega),Int.toNat_natCast])
   clear hp hM hG ez ew1 h2 hb hk hd0 e1 e2 hi0 hbi HZ hk0 he
   go_enter Tryz.func72,Tryz.ntmps72
   go_wp2_with (first
    | (go_at_call 115;rw[<-EW.out];refine HDF.out.mono ?_;rintro e w2 ⟨rfl,hb2⟩;have HB2:=zH hb2;clear hb2)
    | (go_at_call 116;refine(rx i0 bi _ (HMG.out.2.on HB2.out HB2.out.size) HRT.out (by rw[HTL.out];exact HI.out.1) (by rw[HTL.out];exact HI.out.2)).mono ?_;rintro e w3 ⟨rfl,hb3⟩;rw[HE.out];have HB3:=zH (HB2.out.trans (hb3.mono HB2.out.size));clear hb3))
   go_ret
   exact⟨rfl,HB1.out.trans (HB3.out.mono HB1.out.size)⟩
end
section
open Go.RowKit
open CD (OpP BodyP CodeP aj blAt fnAt)
def cntS(ys:List Int):Nat->Nat
 | 0=>0
 | i+1=>cntS ys i+ys.count (i:Int)
theorem oG(y:Int)(ys:List Int):∀i:Nat,cntS (y :: ys) i=cntS ys i+if 0<=y/\y<(i:Nat) then 1 else 0
 | 0=>by
   simp only[cntS]
   rw[if_neg (by omega)]
 | i+1=>by
   simp only[cntS]
   rw[oG y ys i,List.count_cons]
   by_cases h:y=(i:Int)
   ·have h1:¬(0<=y/\y<((i:Nat):Int)):=by omega
    have h2:0<=y/\y<((i+1:Nat):Int):=by omega
    have h3:(y == (i:Int))=true:=beq_iff_eq.2 h
    rw[if_neg h1,if_pos h2,if_pos h3]
    omega
   ·have h3:¬(y == (i:Int))=true:=by rw[beq_iff_eq];exact h
    rw[if_neg h3]
    by_cases h2:0<=y/\y<((i:Nat):Int)
    ·rw[if_pos h2,if_pos (show 0<=y/\y<((i+1:Nat):Int) by omega)];omega
    ·rw[if_neg h2,if_neg (show ¬(0<=y/\y<((i+1:Nat):Int)) by omega)];omega
theorem rK{n:Nat}:∀(ys:List Int),(∀y∈ys,0<=y/\y<(n:Nat))->cntS ys n=ys.length
 | [],_=>by
   have:∀i,cntS [] i=0:=fun i=>by
    induction i with
    | zero=>rfl
    | succ i ih=>simp [cntS,ih]
   exact this n
 | y :: ys,h=>by
   rw[oG,rK ys (fun x hx=>h x (List.mem_cons_of_mem _ hx)),if_pos (h y List.mem_cons_self)]
   rfl
theorem cntS_le{ys:List Int}:∀i:Nat,(∀j:Nat,j<i->ys.count (j:Int)<=1)->cntS ys i<=i
 | 0,_=>by simp [cntS]
 | i+1,h=>by
   simp only[cntS]
   have:=cntS_le i (fun j hj=>h j (by omega))
   have:=h i (by omega)
   omega
theorem lz(ys:List Int)(a:Int){k:Nat}(h:k<ys.length):(ys.take (k+1)).count a=(ys.take k).count a+if ys[k]?.getD 0=a then 1 else 0:=by
 rw[List.take_add_one,List.getElem?_eq_getElem h,List.count_append]
 simp only[Option.toList_some,Option.getD_some,List.count_cons,List.count_nil]
 by_cases e:ys[k]=a
 ·simp [e]
 ·simp [e]
def PhiE(P:Prop)(e:Ending):Prop:=∃k:Nat,e=.returned (.int .i64 (k:Int))/\(k=0↔P)
theorem pS{P:Prop}(h:¬P){k:Nat}(hk:k≠0):PhiE P (.returned (.int .i64 (k:Int))):=⟨k,rfl,fun e=>absurd e hk,fun p=>absurd p h⟩
theorem phiE_yes{P:Prop}(h:P):PhiE P (.returned (.int .i64 ((0:Nat):Int))):=⟨0,rfl,fun _=>h,fun _=>rfl⟩
def PhiR(b:BodyP)(to9:List (List Int))(p:OpP)(bi:Nat):Prop:=fromR to9 p.ys bi/\∀j,j<p.xs.length->iO b to9 (p.xs[j]?.getD 0).toNat (p.ys[j]?.getD 0).toNat=true
set_option maxRecDepth 100000 in
set_option maxHeartbeats 6400000 in
theorem rphi_any{n₀:Nat}{q:CD.Cnt}{c:CodeP}{b:BodyP}(hb:CD.aK q c b)(hk:∀k,k<b.bs.length->(blAt b k).length<=300)(p:OpP)(xa ya:Option Addr)(xc yc bi:Nat)(hbi:bi<b.bs.length)(hl:p.ys.length<=64/\p.xs.length=p.ys.length)(hix:CD.InOk p.xs b.va)(hiy:CD.InOk p.ys b.bs.length)(ba:Option Addr)(bc:Nat)(tv:Value)(w:World)(hn:n₀<=w.heap.size)(hM:aU n₀ w (.slice ba b.bs.length bc) b.bs)(hx:Row n₀ w (.slice xa p.xs.length xc) p.xs)(hy:Row n₀ w (.slice ya p.ys.length yc) p.ys)(hG:aq w.heap.size w tv (toB b)) :
 Calls Tryz.prog 71 #[.agg #[.int .i64 b.pa,.int .i64 b.va,.slice ba b.bs.length bc],tv,.agg #[.int .u8 p.k,.int .u8 p.o,.int .i64 p.d,.int .i64 p.r,.int .i64 p.a,.slice xa p.xs.length xc,.slice ya p.ys.length yc,.int .i64 p.n,.int .i64 p.t],.int .i64 (bi:Int)] w fun e w'=>PhiE (PhiR b (toB b) p bi) e/\Below w.heap.size w w':=by
 obtain⟨ta,tc,rfl⟩:=hG.form
 have HBX:=zH (boxes2 w (.cells #[.int .i64 b.pa,.int .i64 b.va,.slice ba b.bs.length bc] 52) (.cells #[.int .u8 p.k,.int .u8 p.o,.int .i64 p.d,.int .i64 p.r,.int .i64 p.a,.slice xa p.xs.length xc,.slice ya p.ys.length yc,.int .i64 p.n,.int .i64 p.t] 56))
 obtain⟨w2,ew2⟩:∃w2,w2=(w.alloc (.cells #[.int .i64 b.pa,.int .i64 b.va,.slice ba b.bs.length bc] 52)).alloc (.cells #[.int .u8 p.k,.int .u8 p.o,.int .i64 p.d,.int .i64 p.r,.int .i64 p.a,.slice xa p.xs.length xc,.slice ya p.ys.length yc,.int .i64 p.n,.int .i64 p.t] 56):=⟨_,rfl⟩
 rw[<-ew2] at HBX
 have EW:=zH ew2
 have HM:=zH (hM.below (HBX.out.2.mono hn))
 have HX:=zH (hx.below (HBX.out.2.mono hn))
 have HY:=zH (hy.below (HBX.out.2.mono hn))
 have HG:=zH (hG.on HBX.out.2 HBX.out.2.size)
 have HN2:=zH (Nat.le_trans hn HBX.out.2.size)
 have HSM:=zH (kP hb)
 have HTL:=zH (fF b)
 have hbl:=hb.1.2.2
 have HBO:=zH hb
 have HK:=zH hk
 have HIX:=zH hix
 have HIY:=zH hiy
 have HLE:=zH hl
 have HBI:=zH hbi
 obtain⟨xs,exs⟩:∃xs,xs=p.xs:=⟨_,rfl⟩
 obtain⟨ys,eys⟩:∃ys,ys=p.ys:=⟨_,rfl⟩
 obtain⟨to9,eto⟩:∃to9,to9=toB b:=⟨_,rfl⟩
 have HXS:=zH exs
 have HYS:=zH eys
 have HTO:=zH eto
 obtain⟨R,eR⟩:∃R,R=PhiR b (toB b) p bi:=⟨_,rfl⟩
 have HR:=zH (show R↔fromR to9 ys bi/\∀j,j<xs.length->iO b to9 (xs[j]?.getD 0).toNat (ys[j]?.getD 0).toNat=true by rw[eR,exs,eys,eto];exact Iff.rfl)
 obtain⟨x0,x1,x2,x3,x4,x5,x6,x7,x8⟩:=box9 HBX.out.1.2
 obtain⟨d0,d1,d2⟩:=box3 HBX.out.1.1
 rw[<-eR]
 rw[<-exs,<-eys] at HLE EW HBX ew2
 rw[<-exs] at HX x5 HIX
 rw[<-eys] at HY x6 HIY
 rw[<-eto] at HG HSM HTL
 rw[<-exs,<-eys,<-eto]
 have hlen:to9.length<=64:=by rw[HTL.out];exact hbl
 have hyl:ys.length<=64:=HLE.out.1
 have hxl:xs.length<=64:=by have:=HLE.out;omega
 have HCS:=zH (show cntS ys to9.length=ys.length from rK ys (fun y hy=>by
  obtain⟨j,hj,rfl⟩:=List.getElem_of_mem hy
  have:=HIY.out j hj
  rw[List.getElem?_eq_getElem hj] at this
  rw[HTL.out];exact this))
 clear hM hx hy hG hb hk hix hiy hl exs eys eto eR ew2 hbi x0 x1 x2 x3 x4 x7 x8
 go_enter Tryz.func71,Tryz.ntmps71
 go_wp2_with fail
 rw[<-EW.out]
 go_wp2_with fail
 go_loop [9,10] (fun s9 s10=>∃i:Nat,i<=to9.length/\s10=.int .i64 (i:Int)/\s9=.int .i64 ((cntS ys i:Nat):Int)/\RowKit.Hid (∀j:Nat,j<i->ys.count (j:Int)=if GG.leadsB to9 j (bi:Int)=true then 1 else 0)) (fun _ s10=>to9.length-(intOf s10).toNat)
 case atStart=>exact⟨0,Nat.zero_le _,rfl,rfl,zH (fun j hj=>absurd hj (Nat.not_lt_zero _))⟩
 case round =>
  obtain⟨i,hi,rfl,rfl,HI⟩:=hrel
  by_cases hlt:i<to9.length
  ·have HLT:=zH hlt
   have hcs:=cntS_le (ys:=ys) i (fun j hj=>by rw[HI.out j hj];split <;> omega)
   have hcb:cntS ys i<=64:=by omega
   have HCN:=zH (show cntS ys (i+1)=cntS ys i+ys.count (i:Int) from rfl)
   obtain⟨C,eC⟩:∃C,C=cntS ys i:=⟨_,rfl⟩
   rw[<-eC] at hcb HCN ⊢
   clear eC hcs
   go_wp2_with fail
   go_loop [11,12] (fun s11 s12=>∃k:Nat,k<=ys.length/\s12=.int .i64 (k:Int)/\s11=.int .i64 (((ys.take k).count (i:Int):Nat):Int)) (fun _ s12=>ys.length-(intOf s12).toNat)
   case atStart=>exact⟨0,Nat.zero_le _,rfl,by simp⟩
   case round =>
    obtain⟨k,hk,rfl,rfl⟩:=hrel
    have hct:(ys.take k).count (i:Int)<=k:=Nat.le_trans List.count_le_length (by rw[List.length_take];omega)
    by_cases hkt:k<ys.length
    ·obtain⟨yb,yo,eya,hc⟩:=HY.out.cellAt hkt
     subst eya
     have HKT:=zH hkt
     have HTS:=zH (lz ys (i:Int) hkt)
     have i2:(0:Int)<=k/\(k:Int)<ys.length:=by omega
     obtain⟨v,ev⟩:∃v,v=ys[k]?.getD 0:=⟨_,rfl⟩
     rw[<-ev] at hc HTS
     obtain⟨T,eT⟩:∃T,T=(ys.take k).count (i:Int):=⟨_,rfl⟩
     rw[<-eT] at hct HTS ⊢
     clear ev eT hkt
     by_cases he:v=(i:Int)
     ·have t1:(v == (i:Int))=true:=beq_iff_eq.2 he
      have HT:=zH (show (ys.take (k+1)).count (i:Int)=T+1 by rw[HTS.out,if_pos he])
      clear he
      go_wp2_with fail
      go_round
      case rel=>exact⟨k+1,HKT.out,by go_num,by rw[HT.out];go_num⟩
      case measure=>have:=HKT.out;simp [intOf];omega
     ·have t1:(v == (i:Int))=false:=beq_eq_false_iff_ne.2 he
      have HT:=zH (show (ys.take (k+1)).count (i:Int)=T by rw[HTS.out,if_neg he];rfl)
      clear he
      go_wp2_with fail
      go_round
      case rel=>exact⟨k+1,HKT.out,by go_num,by rw[HT.out]⟩
      case measure=>have:=HKT.out;simp [intOf];omega
    ·have ek:k=ys.length:=by omega
     subst ek
     rw[List.take_length] at hct ⊢
     have HA:=zH (fun(j:Nat) (hj:j<to9.length)=>nj _ to9 _ w2 HG.out HSM.out j (bi:Int) hj)
     obtain⟨T,eT⟩:∃T,T=ys.count (i:Int):=⟨_,rfl⟩
     rw[<-eT] at hct HCN ⊢
     have HT:=zH eT
     obtain⟨lb,elb⟩:∃lb,lb=GG.leadsB to9 i (bi:Int):=⟨_,rfl⟩
     have HLB:=zH elb
     clear eT elb hkt
     cases lb
     ·by_cases h0:T=0
      ·subst h0
       have HN:=zH (show ∀j:Nat,j<i+1->ys.count (j:Int)=if GG.leadsB to9 j (bi:Int)=true then 1 else 0 from fun j hj=>by
        by_cases e:j=i
        ·rw[e,<-HT.out,<-HLB.out];rfl
        ·exact HI.out j (by omega))
       go_wp2_with (go_at_call 70;refine(HA.out i HLT.out).mono ?_;rintro e w3 ⟨rfl,rfl⟩;rw[<-HLB.out])
       go_round
       case rel=>exact⟨i+1,HLT.out,by go_num,by rw[HCN.out];go_num,HN⟩
       case measure=>have:=HLT.out;simp [intOf];omega
      ·have t1:((T:Int) != 0)=true:=by rw[bne_iff_ne];omega
       have t1':((T:Int) == 0)=false:=beq_eq_false_iff_ne.2 (by omega)
       have t2:(T == 0)=false:=beq_eq_false_iff_ne.2 h0
       have HNO:=zH (pS (k:=18) (show ¬R from fun h=>by
        have h1:=(HR.out.1 h).1 i HLT.out
        rw[<-HT.out,<-HLB.out] at h1
        simp at h1
        exact h0 h1) (by decide))
       clear h0
       go_wp2_with (go_at_call 70;refine(HA.out i HLT.out).mono ?_;rintro e w3 ⟨rfl,rfl⟩;rw[<-HLB.out])
       go_ret
       exact⟨HNO.out,HBX.out.2⟩
     ·by_cases h0:T=1
      ·subst h0
       have HN:=zH (show ∀j:Nat,j<i+1->ys.count (j:Int)=if GG.leadsB to9 j (bi:Int)=true then 1 else 0 from fun j hj=>by
        by_cases e:j=i
        ·rw[e,<-HT.out,<-HLB.out];rfl
        ·exact HI.out j (by omega))
       go_wp2_with (go_at_call 70;refine(HA.out i HLT.out).mono ?_;rintro e w3 ⟨rfl,rfl⟩;rw[<-HLB.out])
       go_round
       case rel=>exact⟨i+1,HLT.out,by go_num,by rw[HCN.out];go_num,HN⟩
       case measure=>have:=HLT.out;simp [intOf];omega
      ·have t1:((T:Int) != 1)=true:=by rw[bne_iff_ne];omega
       have t1':((T:Int) == 1)=false:=beq_eq_false_iff_ne.2 (by omega)
       have t2:(T == 1)=false:=beq_eq_false_iff_ne.2 h0
       have HNO:=zH (pS (k:=18) (show ¬R from fun h=>by
        have h1:=(HR.out.1 h).1 i HLT.out
        rw[<-HT.out,<-HLB.out] at h1
        simp at h1
        exact h0 h1) (by decide))
       clear h0
       go_wp2_with (go_at_call 70;refine(HA.out i HLT.out).mono ?_;rintro e w3 ⟨rfl,rfl⟩;rw[<-HLB.out])
       go_ret
       exact⟨HNO.out,HBX.out.2⟩
  ·have ei:i=to9.length:=by omega
   subst ei
   have HFR:=zH (show fromR to9 ys bi from fun j hj=>HI.out j hj)
   rw[HCS.out]
   clear HI hlt hi
   go_wp2_with fail
   go_loopw [14] (fun s wr=>∃j:Nat,j<=xs.length/\s=.int .i64 (j:Int)/\RowKit.Hid ((∀j',j'<j->iO b to9 (xs[j']?.getD 0).toNat (ys[j']?.getD 0).toNat=true)/\Below w2.heap.size w2 wr)) (fun s _=>xs.length-(intOf s).toNat)
   case atStart=>exact⟨0,Nat.zero_le _,rfl,zH ⟨fun j' h=>absurd h (Nat.not_lt_zero _),Below.refl _ _⟩⟩
   case round =>
    clear d0 d1 d2 x5 x6
    obtain⟨w6,rfl⟩:∃w6,w6=wr:=⟨_,rfl⟩
    obtain⟨j,hj,rfl,HJ⟩:=hrel
    obtain⟨x0,x1,x2,x3,x4,x5,x6,x7,x8⟩:=box9 (az HJ.out.2 HBX.out.1.2)
    obtain⟨d0,d1,d2⟩:=box3 (az HJ.out.2 HBX.out.1.1)
    have HBW:=zH (HBX.out.2.trans (HJ.out.2.mono HBX.out.2.size))
    clear x0 x1 x2 x3 x4 x7 x8
    by_cases hjt:j<xs.length
    ·have hjy:j<ys.length:=by have:=HLE.out.2;omega
     obtain⟨xb,xo,exa,hcx⟩:=(HX.out.below (HJ.out.2.mono HN2.out)).cellAt hjt
     obtain⟨yb,yo,eya,hcy⟩:=(HY.out.below (HJ.out.2.mono HN2.out)).cellAt hjy
     subst exa eya
     have h1:=HIX.out j hjt
     have h2:=HIY.out j hjy
     obtain⟨v,ev⟩:∃v:Nat,xs[j]?.getD 0=(v:Int):=⟨(xs[j]?.getD 0).toNat,by omega⟩
     obtain⟨f,ef⟩:∃f:Nat,ys[j]?.getD 0=(f:Int):=⟨(ys[j]?.getD 0).toNat,by omega⟩
     rw[ev] at hcx h1
     rw[ef] at hcy h2
     have HJT:=zH hjt
     have HEV:=zH ev
     have HEF:=zH ef
     have i1:(0:Int)<=j/\(j:Int)<xs.length:=by omega
     have i2:(0:Int)<=j/\(j:Int)<ys.length:=by omega
     have HEN:=zH (fun(w7:World) (h67:Below w6.heap.size w6 w7)=>rJ (n₀:=n₀) HBO.out HK.out v f h1.2 (by omega) ba bc (.slice ta (toB b).length tc) w7 (Nat.le_trans (Nat.le_trans HN2.out HJ.out.2.size) h67.size) (HM.out.below ((HJ.out.2.trans (h67.mono HJ.out.2.size)).mono HN2.out)) (by rw[<-HTO.out];exact HG.out.on (HJ.out.2.trans (h67.mono HJ.out.2.size)) (Nat.le_trans HJ.out.2.size h67.size)))
     rw[<-HTO.out] at HEN
     obtain⟨z,ez⟩:∃z,z=iO b to9 v f:=⟨_,rfl⟩
     rw[<-ez] at HEN
     have HZ:=zH ez
     clear ez ev ef h1 h2 hjt hjy
     go_wp2_with fail
     go_still_tail 12,(by kernel_rfl)
     change wpList _ _ _ _ _ w6.drew
     have HDR:=zH (show Below w6.heap.size w6 w6.drew from⟨rfl,rfl,rfl,Nat.le_refl _,fun _ _=>rfl⟩)
     generalize w6.drew=w7 at HDR ⊢
     clear d0 d1 d2 x5 x6 hcx hcy
     cases z
     ·have HNO:=zH (pS (k:=19) (show ¬R from fun h=>by
       have h1:=(HR.out.1 h).2 j HJT.out
       rw[HEV.out,HEF.out,Int.toNat_natCast,Int.toNat_natCast,<-HZ.out] at h1
       cases h1) (by decide))
      go_wp2_with (go_at_call 114;refine(HEN.out w7 HDR.out).mono ?_;rintro e w8 ⟨rfl,hb8⟩;have HB8:=zH (HDR.out.trans (hb8.mono HDR.out.size));clear hb8)
      go_ret
      exact⟨HNO.out,HBW.out.trans (HB8.out.mono HBW.out.size)⟩
     ·have HN:=zH (show ∀j',j'<j+1->iO b to9 (xs[j']?.getD 0).toNat (ys[j']?.getD 0).toNat=true from fun j' hj'=>by
       by_cases e:j'=j
       ·rw[e,HEV.out,HEF.out,Int.toNat_natCast,Int.toNat_natCast];exact HZ.out.symm
       ·exact HJ.out.1 j' (by omega))
      go_wp2_with (go_at_call 114;refine(HEN.out w7 HDR.out).mono ?_;rintro e w8 ⟨rfl,hb8⟩;have HB8:=zH (HDR.out.trans (hb8.mono HDR.out.size));clear hb8)
      go_roundw
      case rel=>exact⟨j+1,HJT.out,by go_num,zH ⟨HN.out,HJ.out.2.trans (HB8.out.mono HJ.out.2.size)⟩⟩
      case measure=>have:=HJT.out;simp [intOf];omega
    ·have HYE:=zH (phiE_yes (show R from HR.out.2 ⟨HFR.out,fun j' hj'=>HJ.out.1 j' (by omega)⟩))
     have ej:j=xs.length:=by omega
     subst ej
     clear hjt
     go_wp2_with fail
     go_ret
     exact⟨HYE.out,HBW.out⟩
end
section
open Go.RowKit
open CD (OpP BodyP CodeP aj blAt fnAt)
def FuncE(P:Prop)(e:Ending):Prop:=∃(t:Int) (k:Nat),e=.returned (.tuple #[.int .i64 t,.int .i64 (k:Int)])/\(k=0↔P)
theorem iQ{P:Prop}(h:¬P)(t:Int){k:Nat}(hk:k≠0):FuncE P (.returned (.tuple #[.int .i64 t,.int .i64 (k:Int)])):=⟨t,k,rfl,fun e=>absurd e hk,fun p=>absurd p h⟩
theorem funcE_yes{P:Prop}(h:P)(t:Int):FuncE P (.returned (.tuple #[.int .i64 t,.int .i64 ((0:Nat):Int)])):=⟨t,0,rfl,fun _=>h,fun _=>rfl⟩
theorem back_none{to9:List (List Int)}(h0:0<to9.length)(h:∀i,i<to9.length->GG.leadsB to9 i ((0:Nat):Int)=false):((GG.bR to9)[0]?.getD []).length=0:=by
 rw[GG.gU h0]
 unfold GG.cD
 rw[List.length_map,List.length_eq_zero_iff,List.filter_eq_nil_iff]
 intro k hk
 rw[h k (List.mem_range.1 hk)]
 simp
theorem back_some{to9:List (List Int)}{i:Nat}(hi:i<to9.length)(h:GG.leadsB to9 i ((0:Nat):Int)=true):¬((GG.bR to9)[0]?.getD []).length=0:=by
 rw[GG.gU (by omega)]
 unfold GG.cD
 rw[List.length_map,List.length_eq_zero_iff,List.filter_eq_nil_iff]
 exact fun g=>g i (List.mem_range.2 hi) h
def FreeD(b:BodyP)(to9:List (List Int)):Prop:=gr to9/\∀i j,i<b.bs.length->j<(blAt b i).length->UseR b to9 (i,j)
theorem pT{n₀:Nat}{q:CD.Cnt}{c:CodeP}{b:BodyP}{ba:Option Addr}{bc:Nat}{W:World}(hb:CD.aK q c b)(hM:aU n₀ W (.slice ba b.bs.length bc) b.bs){k:Nat}(hk:k<b.bs.length) :
 ∃bb bo blk off ln lc t,ba=some ⟨bb,bo,none⟩/\W.cell? ⟨bb,bo+k,none⟩=some (.slice (some ⟨blk,off,none⟩) ln lc)/\0<ln/\W.cell? ⟨blk,off+8,none⟩=some (.int .i64 t):=by
 obtain⟨bb,bo,la,lc,eba,hbb,hcell,hops⟩:=hM.at hk
 have h1:=(hb.2.1 k hk).1
 have h1':0<(b.bs[k]?.getD []).length:=h1
 obtain⟨blk,off,xa,xc,ya,yc,ela,_,⟨_,_,_,_,_,_,_,_,x8⟩,_,_⟩:=dK hops h1'
 rw[ela] at hcell
 simp only[Nat.zero_mul,Nat.add_zero] at x8
 exact⟨bb,bo,blk,off,_,lc,_,eba,hcell,h1',x8⟩
set_option maxRecDepth 100000 in
set_option maxHeartbeats 6400000 in
theorem rL{n₀:Nat}{q:CD.Cnt}{c:CodeP}{b:BodyP}(hb:CD.aK q c b)(hk:∀k,k<b.bs.length->(blAt b k).length<=300)(hpa:∀r,CD.paAt c r<=4096)(ba:Option Addr)(bc:Nat)(w:World)(hn:n₀<=w.heap.size)(hM:aU n₀ w (.slice ba b.bs.length bc) b.bs) :
 Calls Tryz.prog 41 #[.agg #[.int .i64 b.pa,.int .i64 b.va,.slice ba b.bs.length bc]] w fun e w'=>FuncE (FreeD b (toB b)) e/\Below w.heap.size w w':=by
 have HM:=zH hM
 obtain⟨ls,hM1,hM2,hM3⟩:=hM
 have hof:=of_rel hb hM2 hM3
 have HB1:=zH ((Below.refl w.heap.size w).alloc (Nat.le_refl _) (.cells #[.int .i64 b.pa,.int .i64 b.va,.slice ba b.bs.length bc] 52))
 obtain⟨w1,ew1⟩:∃w1,w1=w.alloc (.cells #[.int .i64 b.pa,.int .i64 b.va,.slice ba b.bs.length bc] 52):=⟨_,rfl⟩
 have hbx:w1.heap[w.heap.size]?=some (.cells #[.int .i64 b.pa,.int .i64 b.va,.slice ba b.bs.length bc] 52):=by rw[ew1];exact heap_alloc_new _ _
 rw[<-ew1] at HB1
 have EW:=zH ew1
 have HBX:=zH hbx
 have HOF:=zH (rof_any b.pa b.va w1 ((hM1.below (HB1.out.mono hn)).mono (Nat.le_trans hn HB1.out.size)) (by have:=hb.1.2;omega) (fun l hl=>by
  obtain⟨i,hi,rfl⟩:=List.getElem_of_mem hl
  have h1:=(hM3 i (by omega)).1
  have h2:=hk i (by omega)
  unfold blAt at h2
  rw[List.getElem?_eq_getElem hi] at h1
  simp only[Option.getD_some] at h1
  omega))
 unfold OfP at HOF
 rw[hof.1,hof.2] at HOF
 have HR:=zH (gT hb)
 have HSM:=zH (kP hb)
 have HTL:=zH (fF b)
 have hbl:=hb.1.2
 have HBO:=zH hb
 have HK:=zH hk
 have HN:=zH hn
 have HPA:=zH hpa
 obtain⟨to9,eto⟩:∃to9,to9=toB b:=⟨_,rfl⟩
 have HTO:=zH eto
 rw[<-eto] at HOF HR HSM HTL ⊢
 obtain⟨R,eR⟩:∃R,R=FreeD b to9:=⟨_,rfl⟩
 have HRR:=zH (show R↔FreeD b to9 by rw[eR])
 rw[<-eR]
 have hl:ft to9=GG.cE to9.length (fun x=>!GG.reachB to9 (-1) 0 x):=if_pos HR.out
 have hs:fU to9=GG.cE to9.length (fun x=>!GG.endsB to9 x):=if_pos HR.out
 obtain⟨d0,d1,d2⟩:=box3 hbx
 clear hM1 hM2 hM3 hof hb hk hn hpa ew1 hbx eto eR
 rcases ia to9.length (fun x=>!GG.reachB to9 (-1) 0 x) with⟨k,ek,hk⟩ | ek
 ·rw[ek] at hl
  have HL:=zH hl
  have HNO:=zH (show ¬R from fun h=>by have:=(HRR.out.1 h).1.1;omega)
  have HKK:=zH (show k<b.bs.length by rw[<-HTL.out];exact hk)
  clear hl hs ek hk
  go_enter Tryz.func41,Tryz.ntmps41
  go_upto_region 3 with(first
   | (go_at_call 67;rw[<-EW.out];refine HOF.out.mono ?_;rintro e w2 ⟨v,rfl,hg,hb2⟩
      obtain⟨va,vc,rfl⟩:=hg.form
      have HG:=zH hg
      have HB2:=zH hb2
      clear hg hb2)
   | (go_at_call 68;refine(@kA _ to9 _ HG.out HR.out).mono ?_;rintro e w3 ⟨rfl,hb3⟩;rw[HL.out];have HB3:=zH (HB2.out.trans (hb3.mono HB2.out.size));clear hb3))
  obtain⟨bb,bo,blk,off,ln,lc,t,eba,g0,g1,g2⟩:=pT HBO.out (HM.out.below ((HB1.out.trans (HB3.out.mono HB1.out.size)).mono HN.out)) HKK.out
  subst eba
  obtain⟨e0,e1,e2⟩:=box3 (az HB3.out HBX.out)
  have i1:(0:Int)<=k/\(k:Int)<b.bs.length:=by have:=HKK.out;omega
  go_wp2_with fail
  go_ret2
  exact⟨iQ HNO.out t (k:=16) (by decide),HB1.out.trans (HB3.out.mono HB1.out.size)⟩
 ·rw[ek] at hl
  have HL:=zH hl
  rcases ia to9.length (fun x=>!GG.endsB to9 x) with⟨k,ek2,hk⟩ | ek2
  ·rw[ek2] at hs
   have HS:=zH hs
   have HNO:=zH (show ¬R from fun h=>by have:=(HRR.out.1 h).1.2.1;omega)
   have HKK:=zH (show k<b.bs.length by rw[<-HTL.out];exact hk)
   clear hl hs ek ek2 hk
   go_enter Tryz.func41,Tryz.ntmps41
   go_upto_region 6 with(first
    | (go_at_call 67;rw[<-EW.out];refine HOF.out.mono ?_;rintro e w2 ⟨v,rfl,hg,hb2⟩
       obtain⟨va,vc,rfl⟩:=hg.form
       have HG:=zH hg
       have HB2:=zH hb2
       clear hg hb2)
    | (go_at_call 68;refine(@kA _ to9 _ HG.out HR.out).mono ?_;rintro e w3 ⟨rfl,hb3⟩;rw[HL.out];have HG3:=zH (HG.out.on hb3 hb3.size);have HB3:=zH (HB2.out.trans (hb3.mono HB2.out.size));clear hb3)
    | (go_at_call 69;refine(@lM _ to9 _ HG3.out HR.out).mono ?_;rintro e w4 ⟨rfl,hb4⟩;rw[HS.out];have HB4:=zH (HB3.out.trans (hb4.mono HB3.out.size));clear hb4))
   obtain⟨bb,bo,blk,off,ln,lc,t,eba,g0,g1,g2⟩:=pT HBO.out (HM.out.below ((HB1.out.trans (HB4.out.mono HB1.out.size)).mono HN.out)) HKK.out
   subst eba
   obtain⟨e0,e1,e2⟩:=box3 (az HB4.out HBX.out)
   have i1:(0:Int)<=k/\(k:Int)<b.bs.length:=by have:=HKK.out;omega
   go_wp2_with fail
   go_ret2
   exact⟨iQ HNO.out t (k:=17) (by decide),HB1.out.trans (HB4.out.mono HB1.out.size)⟩
  ·rw[ek2] at hs
   have HST:=zH (And.intro hl hs)
   have HS:=zH hs
   clear hl hs ek ek2
   go_enter Tryz.func41,Tryz.ntmps41
   go_upto_region 6 with(first
    | (go_at_call 67;rw[<-EW.out];refine HOF.out.mono ?_;rintro e w2 ⟨v,rfl,hg,hb2⟩
       obtain⟨va,vc,rfl⟩:=hg.form
       have HG:=zH hg
       have HB2:=zH hb2
       clear hg hb2)
    | (go_at_call 68;refine(@kA _ to9 _ HG.out HR.out).mono ?_;rintro e w3 ⟨rfl,hb3⟩;rw[HL.out];have HG3:=zH (HG.out.on hb3 hb3.size);have HB3:=zH (HB2.out.trans (hb3.mono HB2.out.size));clear hb3)
    | (go_at_call 69;refine(@lM _ to9 _ HG3.out HR.out).mono ?_;rintro e w4 ⟨rfl,hb4⟩;rw[HS.out];have HG4:=zH (HG3.out.on hb4 hb4.size);have HB4:=zH (HB3.out.trans (hb4.mono HB3.out.size));clear hb4))
   clear HG HG3 HB2 HB3 HOF
   have H14:=zH (HB1.out.trans (HB4.out.mono HB1.out.size))
   have HM4:=zH (HM.out.below (H14.out.mono HN.out))
   have HN4:=zH (Nat.le_trans HN.out H14.out.size)
   clear d0 d1 d2
   have hlen:to9.length<=64:=by have:=HTL.out;omega
   go_wp2_with fail
   go_loop [8] (fun s=>∃i:Nat,i<=to9.length/\s=.int .i64 (i:Int)/\RowKit.Hid (∀j,j<i->GG.leadsB to9 j ((0:Nat):Int)=false)) (fun s=>to9.length-(intOf s).toNat)
   case atStart=>exact⟨0,Nat.zero_le _,rfl,zH (fun j hj=>absurd hj (Nat.not_lt_zero _))⟩
   case round =>
    obtain⟨i,hi,rfl,HI⟩:=hrel
    by_cases hlt:i<to9.length
    ·have HLT:=zH hlt
     have HLD:=zH (nj _ to9 _ w4 HG4.out HSM.out i ((0:Nat):Int) hlt)
     obtain⟨z,ez⟩:∃z,z=GG.leadsB to9 i ((0:Nat):Int):=⟨_,rfl⟩
     rw[<-ez] at HLD
     have HZ:=zH ez
     clear ez
     cases z
     ·have HN':=zH (show ∀j,j<i+1->GG.leadsB to9 j ((0:Nat):Int)=false from fun j hj=>by
       by_cases e:j=i
       ·rw[e];exact HZ.out.symm
       ·exact HI.out j (by omega))
      go_wp2_with (go_at_call 70;refine HLD.out.mono ?_;rintro e w5 ⟨rfl,rfl⟩)
      go_round
      case rel=>exact⟨i+1,HLT.out,by go_num,HN'⟩
      case measure=>have:=HLT.out;simp [intOf];omega
     ·have HNO:=zH (show ¬R from fun h=>back_some HLT.out HZ.out.symm (HRR.out.1 h).1.2.2)
      obtain⟨bb,bo,blk,off,ln,lc,t,eba,g0,g1,g2⟩:=pT HBO.out HM4.out (show 0<b.bs.length by omega)
      rw[Nat.add_zero] at g0
      subst eba
      obtain⟨e0,e1,e2⟩:=box3 (az HB4.out HBX.out)
      have i1:(0:Int)<(b.bs.length:Int):=by omega
      have i2:0<b.bs.length:=by omega
      go_wp2_with (go_at_call 70;refine HLD.out.mono ?_;rintro e w5 ⟨rfl,rfl⟩)
      go_ret2
      exact⟨iQ HNO.out t (k:=18) (by decide),H14.out⟩
    ·have HSO :=zH (show gr to9 from⟨HST.out.1,HST.out.2,back_none (by have:=HTL.out;omega) (fun j hj=>HI.out j (by omega))⟩)
     have ei:i=to9.length:=by omega
     subst ei
     clear HI
     go_wp2_with fail
     clear hlt hi
     go_loopw [9] (fun s wr=>∃i:Nat,i<=b.bs.length/\s=.int .i64 (i:Int)/\RowKit.Hid ((∀i' j',i'<i->j'<(blAt b i').length->UseR b to9 (i',j'))/\Below w4.heap.size w4 wr)) (fun s _=>b.bs.length-(intOf s).toNat)
     case atStart=>exact⟨0,Nat.zero_le _,rfl,zH ⟨fun i' j' h=>absurd h (Nat.not_lt_zero _),Below.refl _ _⟩⟩
     case round =>
      obtain⟨w5,rfl⟩:∃w5,w5=wr:=⟨_,rfl⟩
      obtain⟨i,hi,rfl,HI⟩:=hrel
      obtain⟨e0,e1,e2⟩:=box3 (az (HB4.out.trans (HI.out.2.mono HB4.out.size)) HBX.out)
      by_cases hlt:i<b.bs.length
      ·obtain⟨bb,bo,la,lc,eba,hbb,hcell,hops⟩:=(HM4.out.below (HI.out.2.mono HN4.out)).at hlt
       subst eba
       have HOPS:=zH hops
       have hln:=HK.out i hlt
       have HLT:=zH hlt
       have i1:(0:Int)<=i/\(i:Int)<b.bs.length:=by omega
       have HBA:=zH (show b.bs[i]?.getD []=blAt b i from rfl)
       rw[HBA.out] at hcell HOPS
       obtain⟨l,el⟩:∃l,l=blAt b i:=⟨_,rfl⟩
       rw[<-el] at hcell HOPS hln
       have HEL:=zH el
       have HCL:=zH hcell
       have hbw5:bb<n₀:=hbb
       clear el hops hlt
       go_wp2_with fail
       clear e0 e1 e2 hcell
       go_loopw [10] (fun s wr=>∃j:Nat,j<=l.length/\s=.int .i64 (j:Int)/\RowKit.Hid ((∀j',j'<j->UseR b to9 (i,j'))/\Below w5.heap.size w5 wr)) (fun s _=>l.length-(intOf s).toNat)
       case atStart=>exact⟨0,Nat.zero_le _,rfl,zH ⟨fun j' h=>absurd h (Nat.not_lt_zero _),Below.refl _ _⟩⟩
       case round =>
        obtain⟨w6,rfl⟩:∃w6,w6=wr:=⟨_,rfl⟩
        obtain⟨j,hj,rfl,HJ⟩:=hrel
        have H45:=zH HI.out.2
        have H46:=zH (HI.out.2.trans (HJ.out.2.mono HI.out.2.size))
        have HN5:=zH (Nat.le_trans HN4.out H45.out.size)
        obtain⟨e0,e1,e2⟩:=box3 (az (HB4.out.trans (H46.out.mono HB4.out.size)) HBX.out)
        have hcell:w6.cell? ⟨bb,bo+i,none⟩=some (.slice la l.length lc):=(HJ.out.2.cell (p:=⟨bb,bo+i,none⟩) (Nat.lt_of_lt_of_le hbw5 HN5.out)).trans HCL.out
        have hz6:w.heap.size<w6.heap.size:=(Array.getElem?_eq_some_iff.1 (az (HB4.out.trans (H46.out.mono HB4.out.size)) HBX.out)).1
        have hbl2:b.bs.length<=64:=hbl.2
        by_cases hjt:j<l.length
        ·obtain⟨blk,off,xa,xc,ya,yc,ela,hblk,⟨x0,x1,x2,x3,x4,x5,x6,x7,x8⟩,hrx,hry⟩:=dK (HOPS.out.below (HJ.out.2.mono HN5.out)) hjt
         subst ela
         have hop:=((HBO.out.2.1 i HLT.out).2 j (by rw[<-HEL.out];exact hjt)).1
         rw[<-HEL.out] at hop
         have HOP:=zH hop
         have HJT:=zH hjt
         have i2:(0:Int)<=j/\(j:Int)<l.length:=by omega
         obtain⟨p,ep⟩:∃p,p=aj l j:=⟨_,rfl⟩
         rw[<-ep] at x0 x1 x2 x3 x4 x5 x6 x7 x8 hrx hry HOP
         have HP:=zH ep
         obtain⟨w7,ew7⟩:∃w7,w7=w6.alloc (.cells #[.int .u8 p.k,.int .u8 p.o,.int .i64 p.d,.int .i64 p.r,.int .i64 p.a,.slice xa p.xs.length xc,.slice ya p.ys.length yc,.int .i64 p.n,.int .i64 p.t] 56):=⟨_,rfl⟩
         have HB7:=zH (show Below w6.heap.size w6 w7 by rw[ew7];exact(Below.refl _ _).alloc (Nat.le_refl _) _)
         have HX7:=zH (show w7.heap[w6.heap.size]?=some (.cells #[.int .u8 p.k,.int .u8 p.o,.int .i64 p.d,.int .i64 p.r,.int .i64 p.a,.slice xa p.xs.length xc,.slice ya p.ys.length yc,.int .i64 p.n,.int .i64 p.t] 56) by rw[ew7];exact heap_alloc_new _ _)
         have EW7:=zH ew7
         have HN6:=zH (Nat.le_trans HN4.out H46.out.size)
         have H47:=zH (H46.out.trans (HB7.out.mono H46.out.size))
         have H57:=zH (HJ.out.2.trans (HB7.out.mono HJ.out.2.size))
         have HRX:=zH (hrx.below (HB7.out.mono HN6.out))
         have HRY:=zH (hry.below (HB7.out.mono HN6.out))
         have HUS:=zH (show R->UseR b to9 (i,j) from fun h=>(HRR.out.1 h).2 i j HLT.out (by rw[<-HEL.out];exact HJT.out))
         clear hop hjt ep ew7 hrx hry hblk
         by_cases h3:p.k=3
         ·have t1:(p.k == 3)=true:=beq_iff_eq.2 h3
          have HPI:=zH (show UseR b to9 (i,j)↔PhiR b to9 p i by
           unfold UseR PhiR
           simp only
           rw[<-HEL.out,<-HP.out,if_pos h3])
          have hcn:=HOP.out.2.2.2.2.2.1
          unfold CD.bH at hcn
          rw[if_pos h3] at hcn
          have HPH:=zH (rphi_any (n₀:=n₀) HBO.out HK.out p xa ya xc yc i HLT.out ⟨hcn.1.2,hcn.2⟩ HOP.out.2.2.2.2.2.2.1 HOP.out.2.2.2.2.2.2.2 (some ⟨bb,bo,none⟩) bc (.slice va to9.length vc) w7 (Nat.le_trans HN4.out H47.out.size) (HM4.out.below (H47.out.mono HN4.out)) HRX.out HRY.out (by rw[<-HTO.out];exact HG4.out.on H47.out H47.out.size))
          rw[<-HTO.out] at HPH
          clear h3 hcn
          go_upto_region 22 with(go_at_call 71;rw[<-EW7.out];refine HPH.out.mono ?_;rintro e w8 ⟨⟨k5,rfl,hk5⟩,hb8⟩;have HK5:=zH hk5;have HB8:=zH hb8;clear hk5 hb8)
          have H78:=zH (H47.out.trans (HB8.out.mono H47.out.size))
          have H58:=zH (H57.out.trans (HB8.out.mono H57.out.size))
          obtain⟨y0,y1,y2,y3,y4,y5,y6,y7,y8⟩:=box9 (az HB8.out HX7.out)
          clear x0 x1 x2 x3 x4 x5 x6 x7 x8 e0 e1 e2 hcell y0 y1 y2 y3 y4 y5 y6 y7
          by_cases hz:k5=0
          ·subst hz
           have HN':=zH (show ∀j',j'<j+1->UseR b to9 (i,j') from fun j' hj'=>by
            by_cases e:j'=j
            ·rw[e];exact HPI.out.2 (HK5.out.1 rfl)
            ·exact HJ.out.1 j' (by omega))
           go_wp2_with fail
           go_roundw
           case rel=>exact⟨j+1,HJT.out,by go_num,zH ⟨HN'.out,H58.out⟩⟩
           case measure=>have:=HJT.out;simp [intOf];omega
          ·have t2:((k5:Int) != 0)=true:=by rw[bne_iff_ne];omega
           have t2':((k5:Int) == 0)=false:=beq_eq_false_iff_ne.2 (by omega)
           have t2'':(k5 == 0)=false:=beq_eq_false_iff_ne.2 hz
           have HNO:=zH (iQ (show ¬R from fun h=>hz (HK5.out.2 (HPI.out.1 (HUS.out h)))) p.t hz)
           clear hz
           go_wp2_with fail
           go_ret2
           exact⟨HNO.out,H14.out.trans (H78.out.mono H14.out.size)⟩
         ·have t1:(p.k == 3)=false:=beq_eq_false_iff_ne.2 h3
          have HTH:=zH (show UseR b to9 (i,j)↔∀m,m<p.xs.length->eW b to9 (p.xs[m]?.getD 0).toNat i j=true by
           unfold UseR
           simp only
           rw[<-HEL.out,<-HP.out,if_neg h3])
          have hxl:p.xs.length<=4200:=by
           have hcn:=HOP.out.2.2.2.2.2.1
           unfold CD.bH at hcn
           rw[if_neg h3] at hcn
           by_cases h7:p.k=7
           ·rw[if_pos h7] at hcn
            have h8:=HPA.out p.r
            omega
           ·rw[if_neg h7] at hcn
            have h8:CD.argN p.k<=2:=by unfold CD.argN;split <;> (try split) <;> omega
            omega
          clear h3
          go_wp2_with fail
          rw[<-EW7.out]
          clear x0 x1 x2 x3 x4 x5 x6 x7 x8 e0 e1 e2 hcell
          go_loopw [13] (fun s wr=>∃m:Nat,m<=p.xs.length/\s=.int .i64 (m:Int)/\RowKit.Hid ((∀m',m'<m->eW b to9 (p.xs[m']?.getD 0).toNat i j=true)/\Below w7.heap.size w7 wr)) (fun s _=>p.xs.length-(intOf s).toNat)
          case atStart=>exact⟨0,Nat.zero_le _,rfl,zH ⟨fun m' h=>absurd h (Nat.not_lt_zero _),Below.refl _ _⟩⟩
          case round =>
           obtain⟨w8,rfl⟩:∃w8,w8=wr:=⟨_,rfl⟩
           obtain⟨m,hm,rfl,HMM⟩:=hrel
           have H48:=zH (H47.out.trans (HMM.out.2.mono H47.out.size))
           have H58:=zH (H57.out.trans (HMM.out.2.mono H57.out.size))
           obtain⟨e0,e1,e2⟩:=box3 (az (HB4.out.trans (H48.out.mono HB4.out.size)) HBX.out)
           obtain⟨y0,y1,y2,y3,y4,y5,y6,y7,y8⟩:=box9 (az HMM.out.2 HX7.out)
           clear y0 y1 y2 y3 y4 y6 y7
           by_cases hmt:m<p.xs.length
           ·obtain⟨xb,xo,exa,hcx⟩:=(HRX.out.below (HMM.out.2.mono (Nat.le_trans HN4.out H47.out.size))).cellAt hmt
            subst exa
            have h1:=HOP.out.2.2.2.2.2.2.1 m hmt
            obtain⟨v,ev⟩:∃v:Nat,p.xs[m]?.getD 0=(v:Int):=⟨(p.xs[m]?.getD 0).toNat,by omega⟩
            rw[ev] at hcx h1
            have HEV:=zH ev
            have HMT:=zH hmt
            have i3:(0:Int)<=m/\(m:Int)<p.xs.length:=by omega
            have HTR:=zH (fun(w9:World) (h89:Below w8.heap.size w8 w9)=>pR (n₀:=n₀) HBO.out HK.out v i (j:Int) h1.2 HLT.out (some ⟨bb,bo,none⟩) bc (.slice va to9.length vc) w9 (Nat.le_trans (Nat.le_trans HN4.out H48.out.size) h89.size) (HM4.out.below ((H48.out.trans (h89.mono H48.out.size)).mono HN4.out)) (by rw[<-HTO.out];exact HG4.out.on (H48.out.trans (h89.mono H48.out.size)) (Nat.le_trans H48.out.size h89.size)))
            rw[<-HTO.out] at HTR
            obtain⟨z,ez⟩:∃z,z=eW b to9 v i (j:Int):=⟨_,rfl⟩
            rw[<-ez] at HTR
            have HZ:=zH ez
            clear ez ev h1 hmt
            go_wp2_with fail
            go_still_tail 9,(by kernel_rfl)
            change wpList _ _ _ _ _ w8.drew
            have HDR:=zH (show Below w8.heap.size w8 w8.drew from⟨rfl,rfl,rfl,Nat.le_refl _,fun _ _=>rfl⟩)
            generalize w8.drew=w9 at HDR ⊢
            clear e0 e1 e2 y5 hcx
            have y8':=zH y8
            clear y8
            cases z
            ·have HNO:=zH (iQ (k:=19) (show ¬R from fun h=>by
              have h1:=HTH.out.1 (HUS.out h) m HMT.out
              rw[HEV.out,Int.toNat_natCast,<-HZ.out] at h1
              cases h1) p.t (by decide))
             go_wp2_with (go_at_call 72;refine(HTR.out w9 HDR.out).mono ?_;rintro e w10 ⟨rfl,hb8⟩;have HB8:=zH (HDR.out.trans (hb8.mono HDR.out.size));clear hb8;have y8:=(HB8.out.cell (p:=⟨w6.heap.size,8,none⟩) (Array.getElem?_eq_some_iff.1 (az HMM.out.2 HX7.out)).1).trans y8'.out)
             go_ret2
             exact⟨HNO.out,H14.out.trans ((H48.out.trans (HB8.out.mono H48.out.size)).mono H14.out.size)⟩
            ·have HN':=zH (show ∀m',m'<m+1->eW b to9 (p.xs[m']?.getD 0).toNat i j=true from fun m' hm'=>by
              by_cases e:m'=m
              ·rw[e,HEV.out,Int.toNat_natCast];exact HZ.out.symm
              ·exact HMM.out.1 m' (by omega))
             go_wp2_with (go_at_call 72;refine(HTR.out w9 HDR.out).mono ?_;rintro e w10 ⟨rfl,hb8⟩;have HB8:=zH (HDR.out.trans (hb8.mono HDR.out.size));clear hb8)
             go_roundw
             case rel=>exact⟨m+1,HMT.out,by go_num,zH ⟨HN'.out,HMM.out.2.trans (HB8.out.mono HMM.out.2.size)⟩⟩
             case measure=>have:=HMT.out;simp [intOf];omega
           ·have HUO:=zH (show UseR b to9 (i,j) from HTH.out.2 (fun m' hm'=>HMM.out.1 m' (by omega)))
            have HN':=zH (show ∀j',j'<j+1->UseR b to9 (i,j') from fun j' hj'=>by
             by_cases e:j'=j
             ·rw[e];exact HUO.out
             ·exact HJ.out.1 j' (by omega))
            have em:m=p.xs.length:=by omega
            subst em
            clear hmt
            go_wp2_with fail
            go_roundw
            case rel=>exact⟨j+1,HJT.out,by go_num,zH ⟨HN'.out,H58.out⟩⟩
            case measure=>have:=HJT.out;simp [intOf];omega
        ·have HN':=zH (show ∀i' j',i'<i+1->j'<(blAt b i').length->UseR b to9 (i',j') from fun i' j' hi' hj'=>by
          by_cases e:i'=i
          ·rw[e,<-HEL.out] at hj';rw[e];exact HJ.out.1 j' (by omega)
          ·exact HI.out.1 i' j' (by omega) hj')
         have ej:j=l.length:=by omega
         subst ej
         clear hjt
         go_wp2_with fail
         go_roundw
         case rel=>exact⟨i+1,HLT.out,by go_num,zH ⟨HN'.out,H46.out⟩⟩
         case measure=>have:=HLT.out;simp [intOf];omega
      ·have HYE:=zH (show R from HRR.out.2 ⟨HSO.out,fun i' j' hi' hj'=>HI.out.1 i' j' (by omega) hj'⟩)
       have ei:i=b.bs.length:=by omega
       subst ei
       clear hlt
       go_wp2_with fail
       go_ret2
       exact⟨funcE_yes HYE.out 0,H14.out.trans (HI.out.2.mono H14.out.size)⟩
end
section
open Go.RowKit
open CD (OpP BodyP CodeP aj blAt fnAt)
def FewTo(c:CodeP)(i:Nat):Prop:=CD.lenC c i<=300/\∀j,j<i->(fnAt c j).bs.length<=100/\∀k,k<(fnAt c j).bs.length->(blAt (fnAt c j) k).length<=300
theorem FewTo.few{c:CodeP}(h:FewTo c c.fs.length)(hf:c.fs.length<=100)(ha:c.ar.length<=100):CD.Few c:=by
 refine⟨hf,ha,fun i hi=>(h.2 i hi).1,fun i hi=>(h.2 i hi).2,?_⟩
 have e:CD.lenC c c.fs.length=(c.fs.map fun b=>(b.bs.map List.length).sum).sum:=by
  unfold CD.lenC CD.lenB
  rw[List.take_length]
  congr 1
  apply List.map_congr_left
  intro b _
  rw[List.take_length]
 rw[<-e]
 exact h.1
def SomeE(c:CodeP)(e:Ending):Prop:=∃z,e=.returned (.bool z)/\(z=true->CD.Few c)
theorem iR(c:CodeP):SomeE c (.returned (.bool false)):=⟨_,rfl,fun h=>by cases h⟩
theorem someE_yes{c:CodeP}(h:CD.Few c):SomeE c (.returned (.bool true)):=⟨_,rfl,fun _=>h⟩
theorem jG(b:BodyP):∀k,k<=b.bs.length->(∀j,j<k->(blAt b j).length<=300)->CD.lenB b k<=k*300
 | 0,_,_=>by simp [CD.lenB]
 | k+1,h,g=>by
   rw[CD.fL (by omega)]
   have:=jG b k (by omega) (fun j hj=>g j (by omega))
   have:=g k (by omega)
   omega
set_option maxRecDepth 100000 in
set_option maxHeartbeats 3200000 in
theorem rsome_any(av fv:Value)(c:CodeP)(w:World)(ha:bA w.heap.size w av c.ar)(hf:bh w.heap.size w fv c.fs) :
 Calls Tryz.prog 5 #[.agg #[av,fv,.int .i64 c.mn0],.int .i64 300] w fun e w'=>SomeE c e/\Below w.heap.size w w':=by
 obtain⟨aa,ac,rfl⟩:=ha.form
 obtain⟨fa,fc,rfl⟩:=hf.form
 obtain⟨w1,ew1⟩:∃w1,w1=w.alloc (.cells #[.slice aa c.ar.length ac,.slice fa c.fs.length fc,.int .i64 c.mn0] 30):=⟨_,rfl⟩
 have hb1:Below w.heap.size w w1:=by rw[ew1];exact(Below.refl _ _).alloc (Nat.le_refl _) _
 have hk:w1.heap[w.heap.size]?=some (.cells #[.slice aa c.ar.length ac,.slice fa c.fs.length fc,.int .i64 c.mn0] 30):=by rw[ew1];exact heap_alloc_new _ _
 obtain⟨d0,d1,d2⟩:=box3 hk
 have HF:=zH (hf.below hb1)
 have HB:=zH hb1
 have EW:=zH ew1
 clear ha hf hb1 hk ew1
 by_cases c1:100<c.fs.length
 ·have t1:decide ((100:Int)<(c.fs.length:Int))=true:=decide_eq_true (by omega)
  have t2:decide (100<c.fs.length)=true:=decide_eq_true c1
  go_enter Tryz.func5,Tryz.ntmps5
  go_wp2_with fail
  rw[<-EW.out]
  go_wp2_with fail
  go_ret
  exact⟨iR c,HB.out⟩
 ·have t1:decide ((100:Int)<(c.fs.length:Int))=false:=decide_eq_false (by omega)
  have t2:decide (100<c.fs.length)=false:=decide_eq_false c1
  by_cases c2:100<c.ar.length
  ·have t3:decide ((100:Int)<(c.ar.length:Int))=true:=decide_eq_true (by omega)
   have t4:decide (100<c.ar.length)=true:=decide_eq_true c2
   go_enter Tryz.func5,Tryz.ntmps5
   go_wp2_with fail
   rw[<-EW.out]
   go_wp2_with fail
   go_ret
   exact⟨iR c,HB.out⟩
  ·have t3:decide ((100:Int)<(c.ar.length:Int))=false:=decide_eq_false (by omega)
   have t4:decide (100<c.ar.length)=false:=decide_eq_false c2
   have HC:=zH (show c.fs.length<=100/\c.ar.length<=100 by omega)
   clear c1 c2
   go_enter Tryz.func5,Tryz.ntmps5
   go_wp2_with fail
   rw[<-EW.out]
   go_wp2_with fail
   go_loop [5,6] (fun t k=>∃i:Nat,i<=c.fs.length/\k=.int .i64 (i:Int)/\t=.int .i64 (CD.lenC c i:Nat)/\RowKit.Hid (FewTo c i)) (fun _ k=>c.fs.length-(intOf k).toNat)
   case atStart=>exact⟨0,Nat.zero_le _,rfl,by rw[CD.iW];rfl,zH ⟨by rw[CD.iW];omega,fun j hj=>absurd hj (Nat.not_lt_zero _)⟩⟩
   case round =>
    obtain⟨i,hi,rfl,rfl,HI⟩:=hrel
    have b1:=HC.out.1
    by_cases hlt:i<c.fs.length
    ·obtain⟨blk,off,ba,bc,efa,hblk,f0,f1,f2,hbs⟩:=HF.out.at hlt
     subst efa
     have HBS:=zH hbs
     have HLT:=zH hlt
     have HLC:=zH (CD.fM hlt)
     have i1:(0:Int)<=i/\(i:Int)<c.fs.length:=by omega
     obtain⟨b,eb⟩:∃b,b=fnAt c i:=⟨_,rfl⟩
     have eb':c.fs[i]?.getD CD.b0=b:=eb.symm
     rw[eb'] at f0 f1 f2 HBS
     rw[<-eb] at HLC
     have HEB:=zH eb
     obtain⟨L,eL⟩:∃L,L=CD.lenC c i:=⟨_,rfl⟩
     rw[<-eL] at HLC ⊢
     have HEL:=zH (show L<=300 by rw[eL];exact HI.out.1)
     clear eL eb eb' hbs hlt
     by_cases c3:100<b.bs.length
     ·have t5:decide ((100:Int)<(b.bs.length:Int))=true:=decide_eq_true (by omega)
      have t6:decide (100<b.bs.length)=true:=decide_eq_true c3
      go_wp2_with fail
      go_ret
      exact⟨iR c,HB.out⟩
     ·have t5:decide ((100:Int)<(b.bs.length:Int))=false:=decide_eq_false (by omega)
      have t6:decide (100<b.bs.length)=false:=decide_eq_false c3
      have H3:=zH c3
      clear c3
      go_wp2_with fail
      go_loop [5,7] (fun t k=>∃j:Nat,j<=b.bs.length/\k=.int .i64 (j:Int)/\t=.int .i64 ((L+CD.lenB b j:Nat):Int)/\RowKit.Hid (∀k,k<j->(blAt b k).length<=300)) (fun _ k=>b.bs.length-(intOf k).toNat)
      case atStart=>exact⟨0,Nat.zero_le _,rfl,by simp [CD.lenB],zH (fun k hk=>absurd hk (Nat.not_lt_zero _))⟩
      case round =>
       obtain⟨j,hj,rfl,rfl,HJ⟩:=hrel
       have b2:=H3.out
       have b3:=HEL.out
       have b4:=jG b j hj HJ.out
       have b5:L+CD.lenB b j<=40000:=by omega
       by_cases hjt:j<b.bs.length
       ·obtain⟨bb,bo,ba',bc',e2,hbb,hcell,hops⟩:=HBS.out.at hjt
        subst e2
        have HLB:=zH (CD.fL hjt)
        have HJT:=zH hjt
        have HQ:=zH (show (b.bs[j]?.getD []).length=(blAt b j).length from rfl)
        obtain⟨n,en⟩:∃n,n=(b.bs[j]?.getD []).length:=⟨_,rfl⟩
        rw[<-en] at hcell HQ
        rw[<-HQ.out] at HLB
        have i2:(0:Int)<=j/\(j:Int)<b.bs.length:=by omega
        obtain⟨m,em⟩:∃m,m=L+CD.lenB b j:=⟨_,rfl⟩
        have HM:=zH em
        rw[<-em] at b5 ⊢
        clear em en hops hjt b4
        by_cases c4:300<n
        ·have t7:decide ((300:Int)<(n:Int))=true:=decide_eq_true (by omega)
         have t8:decide (300<n)=true:=decide_eq_true c4
         go_wp2_with fail
         go_ret
         exact⟨iR c,HB.out⟩
        ·have t7:decide ((300:Int)<(n:Int))=false:=decide_eq_false (by omega)
         have t8:decide (300<n)=false:=decide_eq_false c4
         have H4:=zH (show ∀k,k<j+1->(blAt b k).length<=300 from fun k hk=>by
          by_cases e:k=j
          ·rw[e,<-HQ.out];omega
          ·exact HJ.out k (by omega))
         go_wp2_with fail
         go_round
         case rel=>exact⟨j+1,HJT.out,by go_num,by rw[HLB.out,<-Nat.add_assoc,<-HM.out];go_num,H4⟩
         case measure=>have:=HJT.out;simp [intOf];omega
       ·have ej:j=b.bs.length:=by omega
        subst ej
        rw[<-HLC.out]
        have HJ2:=zH HJ.out
        have b6:CD.lenC c (i+1)<=40000:=by rw[HLC.out];exact b5
        clear b5 b4
        by_cases c4:300<CD.lenC c (i+1)
        ·have t7:decide ((300:Int)<(CD.lenC c (i+1):Int))=true:=decide_eq_true (by omega)
         have t8:decide (300<CD.lenC c (i+1))=true:=decide_eq_true c4
         go_wp2_with fail
         go_ret
         exact⟨iR c,HB.out⟩
        ·have t7:decide ((300:Int)<(CD.lenC c (i+1):Int))=false:=decide_eq_false (by omega)
         have t8:decide (300<CD.lenC c (i+1))=false:=decide_eq_false c4
         have HN:=zH (show FewTo c (i+1) from⟨by omega,fun j hj=>by
          by_cases e:j=i
          ·rw[e,<-HEB.out];exact⟨by have:=H3.out;omega,HJ2.out⟩
          ·exact HI.out.2 j (by omega)⟩)
         go_wp2_with fail
         go_round
         case rel=>exact⟨i+1,HLT.out,by go_num,rfl,HN⟩
         case measure=>have:=HLT.out;simp [intOf];omega
    ·have HN:=zH (show CD.Few c by
      have h:=HI.out
      rw[show i=c.fs.length by omega] at h
      exact h.few HC.out.1 HC.out.2)
     go_wp2_with fail
     go_ret
     exact⟨someE_yes HN.out,HB.out⟩
def rsN(k:Int):Int:=if k=2∨k=6 then 2 else if k=3 then 8 else if k=7 then 9 else if k=4∨k=5∨k=9∨k=10∨k=12∨k=13 then 1 else 0
def rsD(k:Int):Bool:=decide (CD.Defs k)
def rsR(k:Int):Bool:=decide (4<=k/\k<=12)
def rsA(k:Int):Bool:=decide (k=12)
def rsI(k:Int):Bool:=decide (1<=k/\k<=13)
set_option maxHeartbeats 1600000 in
theorem tJ(k:Int)(w:World):Calls Tryz.prog 165 #[.int .u8 k] w fun e w'=>e=.returned (.tuple #[.int .i64 (rsN k),.bool (rsD k),.bool (rsR k),.bool (rsA k),.bool (rsI k)])/\w=w':=by
 rcases (show k=1∨k=2∨k=3∨k=4∨k=5∨k=6∨k=7∨k=8∨k=9∨k=10∨k=11∨k=12∨k=13∨(k<1∨13<k) by omega) with rfl | rfl | rfl | rfl | rfl | rfl | rfl | rfl | rfl | rfl | rfl | rfl | rfl | h
 rotate_right 1
 ·have h1:(k == 1)=false:=beq_eq_false_iff_ne.2 (by omega)
  have h2:(k == 2)=false:=beq_eq_false_iff_ne.2 (by omega)
  have h3:(k == 3)=false:=beq_eq_false_iff_ne.2 (by omega)
  have h4:(k == 4)=false:=beq_eq_false_iff_ne.2 (by omega)
  have h5:(k == 5)=false:=beq_eq_false_iff_ne.2 (by omega)
  have h6:(k == 6)=false:=beq_eq_false_iff_ne.2 (by omega)
  have h7:(k == 7)=false:=beq_eq_false_iff_ne.2 (by omega)
  have h8:(k == 8)=false:=beq_eq_false_iff_ne.2 (by omega)
  have h9:(k == 9)=false:=beq_eq_false_iff_ne.2 (by omega)
  have h10:(k == 10)=false:=beq_eq_false_iff_ne.2 (by omega)
  have h11:(k == 11)=false:=beq_eq_false_iff_ne.2 (by omega)
  have h12:(k == 12)=false:=beq_eq_false_iff_ne.2 (by omega)
  have h13:(k == 13)=false:=beq_eq_false_iff_ne.2 (by omega)
  have HE:=zH (show rsN k=0/\rsD k=false/\rsR k=false/\rsA k=false/\rsI k=false by
   refine⟨?_,decide_eq_false ?_,decide_eq_false (by omega),decide_eq_false (by omega),decide_eq_false (by omega)⟩
   ·unfold rsN;rw[if_neg (by omega),if_neg (by omega),if_neg (by omega),if_neg (by omega)]
   ·unfold CD.Defs;omega)
  clear h
  go_enter Tryz.func165,Tryz.ntmps165
  go_wp2_with fail
  obtain⟨e1,e2,e3,e4,e5⟩:=HE.out
  exact bodyPost_ret (v:=.tuple #[_,_,_,_,_]) (by simp [results,Tryz.results165,go_sem,e1,e2,e3,e4,e5]) rfl ⟨rfl,rfl⟩
 all_goals
  go_enter Tryz.func165,Tryz.ntmps165
  go_wp2_with fail
  exact bodyPost_ret (v:=.tuple #[_,_,_,_,_]) (by simp [results,Tryz.results165,go_sem,rsN,rsD,rsR,rsA,rsI,CD.Defs]) rfl ⟨rfl,rfl⟩
def endB(k:Int):Bool:=decide (CD.Ends k)
theorem cY(k:Int)(w:World):Calls Tryz.prog 112 #[.int .u8 k] w fun e w'=>e=.returned (.bool (endB k))/\w=w':=by
 by_cases h1:11<=k
 ·by_cases h2:k<=13
  ·have HE:=zH (show endB k=true from decide_eq_true (by unfold CD.Ends;omega))
   go_enter Tryz.func112,Tryz.ntmps112
   go_wp2_with fail
   go_ret
   exact⟨by rw[HE.out];rfl,rfl⟩
  ·have HE:=zH (show endB k=false from decide_eq_false (by unfold CD.Ends;omega))
   go_enter Tryz.func112,Tryz.ntmps112
   go_wp2_with fail
   go_ret
   exact⟨by rw[HE.out];rfl,rfl⟩
 ·have HE:=zH (show endB k=false from decide_eq_false (by unfold CD.Ends;omega))
  go_enter Tryz.func112,Tryz.ntmps112
  go_wp2_with fail
  go_ret
  exact⟨by rw[HE.out];rfl,rfl⟩
end
section
open Go.RowKit
open CD (OpP BodyP CodeP aj blAt fnAt)
def G1(k o d r a n nx:Int):Prop:=(1<=k/\k<=13)/\(k=2->1<=o/\o<=12)/\(¬k=2->o=0)/\(¬k=1->n=0)/\(CD.Defs k->d=nx)/\(¬CD.Defs k->d = -1)/\(k<4∨12<k->r=0)/\(¬k=12->a=0)
def ip(q:CD.Cnt)(nb:Nat)(k:Int):Nat:=if k=4∨k=5∨k=6 then q.ar else if k=7 then q.fn else if k=8 then q.i else if k=9 then q.o else if k=10 then q.l else nb
def G2(k r a:Int)(most nb:Nat):Prop:=(4<=k/\k<=12->0<=r/\r<(most:Nat))/\(k=12->0<=a/\a<(nb:Nat))
def G3(k n':Int)(lx ly:Nat):Prop:=(k=3->(1<=ly/\ly<=64)/\lx=ly)/\(¬k=3->ly=0/\(lx:Int)=n')
def cntN(c:CodeP)(k r:Int):Int:=if k=7 then CD.paAt c r else rsN k
theorem cX(q:CD.Cnt)(c:CodeP)(b:BodyP)(k o d r a:Int)(xs ys:List Int)(n t nx:Int):CD.OpOk q c b ⟨k,o,d,r,a,xs,ys,n,t⟩ nx↔(G1 k o d r a n nx/\G2 k r a (ip q b.bs.length k) b.bs.length/\G3 k (cntN c k r) xs.length ys.length)/\CD.InOk xs b.va/\CD.InOk ys b.bs.length:=by
 unfold CD.OpOk CD.gY CD.bH G1 G2 G3 ip cntN rsN CD.refN CD.altN CD.argN
 simp only
 generalize CD.InOk xs b.va=I1
 generalize CD.InOk ys b.bs.length=I2
 generalize CD.paAt c r=pa
 generalize xs.length=lx
 generalize ys.length=ly
 generalize b.bs.length=nb
 by_cases hk:1<=k/\k<=13
 ·rcases (show k=1∨k=2∨k=3∨k=4∨k=5∨k=6∨k=7∨k=8∨k=9∨k=10∨k=11∨k=12∨k=13 by omega) with rfl | rfl | rfl | rfl | rfl | rfl | rfl | rfl | rfl | rfl | rfl | rfl | rfl
  all_goals
   constructor
   ·rintro ⟨h1,h2,h3,h4,h5,h6,i1,i2⟩
    refine⟨?_,i1,i2⟩
    clear i1 i2
    simp [CD.Defs] at *
    omega
   ·rintro ⟨h,i1,i2⟩
    refine⟨?_,?_,?_,?_,?_,?_,i1,i2⟩ <;> clear i1 i2 <;> simp [CD.Defs] at h ⊢ <;> omega
 ·exact⟨fun h=>absurd h.1 hk,fun h=>absurd h.1.1.1 hk⟩
noncomputable def ropT (q:CD.Cnt) (c:CodeP) (b:BodyP) (p:OpP) (nx:Int):Int:=if CD.tf (CD.OpOk q c b p nx)=true then nx+(if CD.Defs p.k then 1 else 0) else nx
def RopE(q:CD.Cnt)(c:CodeP)(b:BodyP)(p:OpP)(nx:Int)(e:Ending):Prop:=e=.returned (.tuple #[.int .i64 (ropT q c b p nx),.bool (CD.tf (CD.OpOk q c b p nx))])
theorem eh{q:CD.Cnt}{c:CodeP}{b:BodyP}{p:OpP}{nx:Int}(h:¬CD.OpOk q c b p nx):RopE q c b p nx (.returned (.tuple #[.int .i64 nx,.bool false])):=by
 unfold RopE ropT
 rw[CD.aD h]
 rfl
theorem rM{q:CD.Cnt}{c:CodeP}{b:BodyP}{p:OpP}{nx:Int}(h:CD.OpOk q c b p nx):ropT q c b p nx=nx+(if CD.Defs p.k then 1 else 0):=by
 unfold ropT
 rw[CD.bz h,if_pos rfl]
theorem rN{q:CD.Cnt}{c:CodeP}{b:BodyP}{p:OpP}{nx t:Int}(h:CD.OpOk q c b p nx)(ht:t=nx+if CD.Defs p.k then 1 else 0):RopE q c b p nx (.returned (.tuple #[.int .i64 t,.bool true])):=by
 unfold RopE
 rw[CD.bz h,rM h,ht]
def il(w w5:World)(a0 a1 a2 a3 aa fa ba xa ya:Option Addr)(l0 k0 l1 k1 l2 k2 l3 k3 la ac lf fc lb bc lx xc ly yc:Nat)(D mI pa va k o d r a n t:Int):Prop :=
 (w5.cell? ⟨w.heap.size,0,none⟩=some (.slice a0 l0 k0)/\w5.cell? ⟨w.heap.size,2,none⟩=some (.slice a2 l2 k2)/\w5.cell? ⟨w.heap.size,3,none⟩=some (.slice a3 l3 k3))/\(w5.cell? ⟨w.heap.size+1,0,none⟩=some (.slice aa la ac)/\w5.cell? ⟨w.heap.size+1,1,none⟩=some (.slice fa lf fc))/\(w5.cell? ⟨w.heap.size+1+1,1,none⟩=some (.int .i64 va)/\w5.cell? ⟨w.heap.size+1+1,2,none⟩=some (.slice ba lb bc))/\w5.cell? ⟨w.heap.size+1+1+1,0,none⟩=some (.int .u8 k)/\w5.cell? ⟨w.heap.size+1+1+1,1,none⟩=some (.int .u8 o)/\w5.cell? ⟨w.heap.size+1+1+1,2,none⟩=some (.int .i64 d)/\w5.cell? ⟨w.heap.size+1+1+1,3,none⟩=some (.int .i64 r)/\w5.cell? ⟨w.heap.size+1+1+1,4,none⟩=some (.int .i64 a)/\w5.cell? ⟨w.heap.size+1+1+1,5,none⟩=some (.slice xa lx xc)/\w5.cell? ⟨w.heap.size+1+1+1,6,none⟩=some (.slice ya ly yc)/\w5.cell? ⟨w.heap.size+1+1+1,7,none⟩=some (.int .i64 n)
theorem boxes_at(w:World)(a0 a1 a2 a3 aa fa ba xa ya:Option Addr)(l0 k0 l1 k1 l2 k2 l3 k3 la ac lf fc lb bc lx xc ly yc:Nat)(D mI pa va k o d r a n t:Int):il w ((((w.alloc (.cells #[.slice a0 l0 k0,.slice a1 l1 k1,.slice a2 l2 k2,.slice a3 l3 k3,.int .i64 D] 26)).alloc (.cells #[.slice aa la ac,.slice fa lf fc,.int .i64 mI] 30)).alloc (.cells #[.int .i64 pa,.int .i64 va,.slice ba lb bc] 52)).alloc (.cells #[.int .u8 k,.int .u8 o,.int .i64 d,.int .i64 r,.int .i64 a,.slice xa lx xc,.slice ya ly yc,.int .i64 n,.int .i64 t] 56)) a0 a1 a2 a3 aa fa ba xa ya l0 k0 l1 k1 l2 k2 l3 k3 la ac lf fc lb bc lx xc ly yc D mI pa va k o d r a n t:=by
 unfold il
 have e1:∀(w:World) (o:Obj) (k:Nat),k<w.heap.size->(w.alloc o).heap[k]?=w.heap[k]?:=fun w o k h=>Below.heap_alloc w o k h
 have hA:=heap_alloc_new w (.cells #[.slice a0 l0 k0,.slice a1 l1 k1,.slice a2 l2 k2,.slice a3 l3 k3,.int .i64 D] 26)
 obtain⟨wA,eA⟩:∃wA,wA=w.alloc (.cells #[.slice a0 l0 k0,.slice a1 l1 k1,.slice a2 l2 k2,.slice a3 l3 k3,.int .i64 D] 26):=⟨_,rfl⟩
 have sA:wA.heap.size=w.heap.size+1:=by rw[eA,World.size_alloc]
 rw[<-eA] at hA ⊢
 have hB:=heap_alloc_new wA (.cells #[.slice aa la ac,.slice fa lf fc,.int .i64 mI] 30)
 obtain⟨wB,eB⟩:∃wB,wB=wA.alloc (.cells #[.slice aa la ac,.slice fa lf fc,.int .i64 mI] 30):=⟨_,rfl⟩
 have sB:wB.heap.size=w.heap.size+1+1:=by rw[eB,World.size_alloc,sA]
 have hA2:=(show wB.heap[w.heap.size]?=wA.heap[w.heap.size]? by rw[eB,e1 _ _ _ (by omega)]).trans hA
 rw[<-eB,sA] at hB
 rw[<-eB]
 have hC:=heap_alloc_new wB (.cells #[.int .i64 pa,.int .i64 va,.slice ba lb bc] 52)
 obtain⟨wC,eC⟩:∃wC,wC=wB.alloc (.cells #[.int .i64 pa,.int .i64 va,.slice ba lb bc] 52):=⟨_,rfl⟩
 have sC:wC.heap.size=w.heap.size+1+1+1:=by rw[eC,World.size_alloc,sB]
 have hA3:=(show wC.heap[w.heap.size]?=wB.heap[w.heap.size]? by rw[eC,e1 _ _ _ (by omega)]).trans hA2
 have hB3:=(show wC.heap[w.heap.size+1]?=wB.heap[w.heap.size+1]? by rw[eC,e1 _ _ _ (by omega)]).trans hB
 rw[<-eC,sB] at hC
 rw[<-eC]
 have hD:=heap_alloc_new wC (.cells #[.int .u8 k,.int .u8 o,.int .i64 d,.int .i64 r,.int .i64 a,.slice xa lx xc,.slice ya ly yc,.int .i64 n,.int .i64 t] 56)
 rw[sC] at hD
 obtain⟨p0,p1,p2,p3,p4⟩:=box5 ((e1 _ _ _ (by omega)).trans hA3)
 obtain⟨q0,q1,q2⟩:=box3 ((e1 _ _ _ (by omega)).trans hB3)
 obtain⟨b0,b1,b2⟩:=box3 ((e1 _ _ _ (by omega)).trans hC)
 obtain⟨x0,x1,x2,x3,x4,x5,x6,x7,x8⟩:=box9 hD
 exact⟨⟨p0,p2,p3⟩,⟨q0,q1⟩,⟨b1,b2⟩,x0,x1,x2,x3,x4,x5,x6,x7⟩
structure RopW (n₀:Nat) (w:World) (xa ya:Option Addr) (xc yc:Nat) (xs ys:List Int) (a0 a1 a2 a3 aa fa ba:Option Addr) (l0 k0 l1 k1 l2 k2 l3 k3 la ac lf fc lb bc:Nat) (D mI pa va k o d r a n t:Int) (wr:World):Prop where
 at':il w wr a0 a1 a2 a3 aa fa ba xa ya l0 k0 l1 k1 l2 k2 l3 k3 la ac lf fc lb bc xs.length xc ys.length yc D mI pa va k o d r a n t
 x:Row n₀ wr (.slice xa xs.length xc) xs
 y:Row n₀ wr (.slice ya ys.length yc) ys
 below:Below w.heap.size w wr
theorem RopW.drew{n₀:Nat}{w:World}{xa ya:Option Addr}{xc yc:Nat}{xs ys:List Int}{a0 a1 a2 a3 aa fa ba:Option Addr}{l0 k0 l1 k1 l2 k2 l3 k3 la ac lf fc lb bc:Nat}{D mI pa va k o d r a n t:Int}{wr:World}(h:RopW n₀ w xa ya xc yc xs ys a0 a1 a2 a3 aa fa ba l0 k0 l1 k1 l2 k2 l3 k3 la ac lf fc lb bc D mI pa va k o d r a n t wr)(m:Nat) :
 RopW n₀ w xa ya xc yc xs ys a0 a1 a2 a3 aa fa ba l0 k0 l1 k1 l2 k2 l3 k3 la ac lf fc lb bc D mI pa va k o d r a n t (wr.drewN m) :=
 ⟨h.at',h.x.drewN m,h.y.drewN m,h.below.trans ⟨rfl,rfl,rfl,Nat.le_refl _,fun _ _=>rfl⟩⟩
end
end Go.Proofs.YtjngffgkllakaaaGreatDoor
