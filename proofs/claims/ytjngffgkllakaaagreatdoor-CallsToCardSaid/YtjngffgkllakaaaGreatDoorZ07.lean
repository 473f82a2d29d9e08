/- A part of a proof: laws that the last text uses. -/
import Derived.Test.YtjngffgkllakaaaGreatDoorZ01
import Derived.Test.YtjngffgkllakaaaGreatDoorZ02
import Derived.Test.YtjngffgkllakaaaGreatDoorZ06
import Derived.Deep.Light
import Derived.WalkSmall
import Derived.Laws.OwnMore
import Derived.Laws.AppendOwn
import Derived.Lib.OthersKept
import Derived.Deep.AppendLies
import Derived.Maps.Own
import Derived.Maps.OwnOps
import Derived.Maps.Views
set_option linter.unusedSimpArgs false
set_option linter.unusedVariables false
namespace Go.Proofs.YtjngffgkllakaaaGreatDoor
open List renaming getElem_toArray → zA, getElem_cons_succ → zB, getElem_cons_zero → zC, setIfInBounds_toArray → zD, set_cons_zero → zE, set_cons_succ → zF
open Lib renaming hid → zH
section
open Go.RowKit CC
theorem ent_no{to:List (List Int)}{main:Int}(h:¬(GG.al to=true/\GG.inB to.length main=true)):entL to main=[]:=by unfold entL;rw[if_neg h]
def RowsR(B:Nat)(w:World)(vs:List Value)(gs:List (List Nat)):Prop :=
 ∀t,t<gs.length->∃a c,vs[t]?=some (.slice a (gs[t]?.getD []).length c)/\w.ownsRow B 3 1 (.slice a (gs[t]?.getD []).length c) (gs[t]?.getD []).length (ap ((gs[t]?.getD []).map Int.ofNat))
theorem qW{B n:Nat}{w3 w4:World}{gv:Value}{vs:List Value}{gs:List (List Nat)}(hl:vs.length=gs.length)(h:GG.Rows B w3 vs (gsI gs))(ho:w3.ownsRow B 54 1 gv n vs)(hg:w3.grownBy w4 gv.ownBlock):RowsR B w4 vs.reverse gs.reverse:=by
 intro t ht
 rw[List.length_reverse] at ht
 have hk:gs.length-1-t<gs.length:=by omega
 obtain⟨r,e,g⟩:=(h.kept ho (by decide) hg).2 (gs.length-1-t) (by rw[lD];exact hk)
 have e1:(gsI gs)[gs.length-1-t]?.getD []=(gs.reverse[t]?.getD []).map Int.ofNat:=by
  unfold gsI
  rw[List.getElem?_map,List.getElem?_reverse ht,List.getElem?_eq_getElem hk]
  rfl
 rw[e1,List.length_map] at g
 obtain⟨a,c,rfl⟩:=CC.iG g
 refine⟨a,c,?_,g⟩
 rw[List.getElem?_reverse (by omega),hl]
 exact e
set_option maxRecDepth 100000 in
set_option maxHeartbeats 12800000 in
theorem jZ{v:Value}{to:List (List Int)}(main:Int)(W:World)(hv:aq W.heap.size W v to)(hx:cQ to) :
 Calls Tryz.prog 18 #[v,.int .i64 main] W fun e W'=>∃u,e=.returned u/\Row W'.heap.size W' u (entL to main)/\Below W.heap.size W W':=by
 have hx0:=hx.1
 have HV:=zH hv
 have HX:=zH hx
 obtain⟨va,vc,rfl⟩:=hv.form
 clear hv hx
 by_cases c1:main<0
 ·have HE:=zH (ent_no (to:=to) (main:=main) (fun h=>by have:=of_decide_eq_true h.2;omega))
  have t1:decide (main<0)=true:=decide_eq_true c1
  go_enter Tryz.func18,Tryz.ntmps18
  go_wp2_with fail
  go_ret
  exact⟨_,rfl,by rw[HE.out];exact br _ _ _ _ (fun _=>rfl),Below.refl _ _⟩
 ·have t1:decide (main<0)=false:=decide_eq_false c1
  by_cases c2:(to.length:Int)<=main
  ·have HE:=zH (ent_no (to:=to) (main:=main) (fun h=>by have:=of_decide_eq_true h.2;omega))
   have t2:decide ((to.length:Int)<=main)=true:=decide_eq_true c2
   go_enter Tryz.func18,Tryz.ntmps18
   go_wp2_with fail
   go_ret
   exact⟨_,rfl,by rw[HE.out];exact br _ _ _ _ (fun _=>rfl),Below.refl _ _⟩
  ·have t2:decide ((to.length:Int)<=main)=false:=decide_eq_false c2
   obtain⟨m,rfl⟩:∃m:Nat,main=(m:Int):=⟨main.toNat,by omega⟩
   have hmn:m<to.length:=by omega
   have t3:decide (to.length<=m)=false:=decide_eq_false (by omega)
   cases hr:GG.al to
   ·have HR:=zH hr
    have HE:=zH (ent_no (to:=to) (main:=(m:Int)) (fun h=>by rw[hr] at h;exact absurd h.1 (by decide)))
    clear hr
    go_enter Tryz.func18,Tryz.ntmps18
    go_wp2_with (go_at_call 35;refine(aT _ to _ HV.out HX.out).mono ?_;rintro e w1 ⟨rfl,hb⟩;rw[HR.out];have HB1:=zH hb;clear hb)
    go_ret
    exact⟨_,rfl,by rw[HE.out];exact br _ _ _ _ (fun _=>rfl),HB1.out⟩
   ·have HR:=zH hr
    have hlen:=GG.aC hr
    have HE:=zH (show entL to (m:Int)=(List.range to.length).map (aR to m) by unfold entL;rw[if_pos ⟨hr,decide_eq_true (by omega)⟩,Int.toNat_natCast])
    have HM:=zH (qV hr)
    clear hr
    go_enter Tryz.func18,Tryz.ntmps18
    go_wp2_with fail
    refine(aT _ to _ HV.out HX.out).mono ?_
    rintro e w1 ⟨rfl,hb⟩
    rw[HR.out]
    have HB1:=zH hb
    clear hb
    have HI1:=zH (show bE (w1.alloc (.cells (madeCells #[.int .i64 0] to.length) 3)) w1.heap.size to.length (fun _=>0) from World.rowIs_made w1 (.int .i64 0) to.length 3)
    have hc1:=World.rowIs.cell HI1.out hmn
    have hf1:=World.rowIs.frozen HI1.out m
    have i1:(0:Int)<=m/\(m:Int)<to.length:=by omega
    have hmk:=run_make_row' (P:=Tryz.prog) 54 3 (.int .i64 0) 8 (by kernel_rfl) Tryz.infoGInt rfl .i64 .i64 to.length (by omega) (by omega)
    obtain⟨W2,eW2⟩:∃W2,W2=w1.alloc (.cells ((madeCells #[.int .i64 0] to.length).setIfInBounds m (.int .i64 1)) 3):=⟨_,rfl⟩
    have HI2:=zH (show bE W2 w1.heap.size to.length (CC.ge m) by
     have h:=HI1.out.set (f':=CC.ge m) m 1 (fun j=>rfl)
     rw[World.setCell_alloc_at _ _ _ _ _ rfl] at h
     rw[eW2];exact h)
    have HB2:=zH (show Below W.heap.size W W2 by rw[eW2];exact HB1.out.alloc HB1.out.size _)
    have hs2:W2.heap.size=w1.heap.size+1:=by rw[eW2];simp
    have EW2:=zH eW2
    clear eW2
    go_wp2_with fail
    clear hmk
    rw[<-EW2.out]
    refine(ll (to:=to) W2 (HV.out.on HB2.out HB2.out.size) HX.out).mono ?_
    rintro e w3 ⟨gv,vs,rfl,hown,hrows,hb3⟩
    rw[lD] at hown
    have hvl:vs.length=(bw to).length:=by have:=hown.1;omega
    obtain⟨ga,gc,rfl⟩:=CC.iG hown
    have HOWN:=zH hown
    have HROWS:=zH hrows
    have HB3:=zH (HB2.out.trans (hb3.mono HB2.out.size))
    have HI3:=zH (HI2.out.of (hb3.block _ (by omega)))
    have hs3:=hb3.size
    clear hown hrows hb3 hc1 hf1
    go_wp2_with fail
    refine(pI HOWN.out (by have:=HM.out;omega) (fun k hk=>by
     obtain⟨r,e,g⟩:=HROWS.out.2 k (by rw[lD];exact hk)
     obtain⟨a,c,rfl⟩:=CC.iG g
     exact⟨a,_,c,e⟩)).mono ?_
    rintro e w4 ⟨rfl,hown4,hg4⟩
    have HR4:=zH (qW hvl HROWS.out HOWN.out hg4)
    have HO4:=zH hown4
    have HB4:=zH (HB3.out.grown hg4 HB3.out.size (fun k e=>by have:=(HOWN.out.lt k e).1;have:=HB2.out.size;omega))
    have HI4:=zH (HI3.out.of (hg4.block _ (by omega) (fun e=>by have:=(HOWN.out.lt _ e.symm).1;omega)))
    have hs4:=hg4.size
    obtain⟨gs,hgs⟩:∃gs,gs=(bw to).reverse:=⟨_,rfl⟩
    have hgl:(bw to).length=gs.length:=by rw[hgs,List.length_reverse]
    have HGM:=zH (show ∀t,t<gs.length->gs[t]?.getD []∈bw to from fun t ht=>by rw[hgs];exact List.mem_reverse.1 (GG.bn (by rw[<-hgs];exact ht)))
    have HSU:=zH (show ∀t,t<gs.length->entT to m (t+1)=CC.cI (GG.am to) (entT to m t) (gs[t]?.getD []) from fun t ht=>by rw[hgs];exact nY m (by rw[<-hgs];exact ht))
    have HBD:=zH (show ∀t,t<=gs.length->∀x,x<to.length->-1<=entT to m t x/\entT to m t x<=1+65536*(t:Int) from fun t ht=>entT_bd HR.out m t (by rw[<-hgs];exact ht))
    have HALL:=zH (show entT to m gs.length=aR to m from entT_all to m (by rw[<-hgs];exact Nat.le_refl _))
    have hm256:gs.length<=256:=by have:=HM.out;omega
    rw[hgl] at HO4
    rw[<-hgs] at HR4
    rw[hgl]
    clear hown4 hg4 hgs hgl hvl HOWN HROWS HI3 HI2 EW2 HI1
    go_wp2_with fail
    go_loopw [38] (fun k wr=>∃t:Nat,t<=gs.length/\k=.int .i64 (t:Int)/\RowKit.Hid (bE wr w1.heap.size to.length (entT to m t)/\Kept w1.heap.size w4 wr)) (fun k _=>gs.length-(intOf k).toNat)
    case atStart=>exact⟨0,by omega,rfl,zH ⟨by rw[nX];exact HI4.out,Kept.refl _ _⟩⟩
    case round =>
     obtain⟨w5,rfl⟩:∃w5,w5=wr:=⟨_,rfl⟩
     obtain⟨t,ht,rfl,HH⟩:=hrel
     by_cases hlt:t<gs.length
     ·have HG:=zH (qU HR.out (HGM.out t hlt))
      have HST:=zH (HSU.out t hlt)
      have HBT:=zH (HBD.out t ht)
      obtain⟨xa,xc,hxr,hxo⟩:=HR4.out t hlt
      have hO5:=HH.out.2.own HO4.out (by omega)
      have HXO:=zH hxo
      obtain⟨g,eg⟩:∃g,g=gs[t]?.getD []:=⟨_,rfl⟩
      rw[<-eg] at HG HST hxr HXO
      obtain⟨gb,e1⟩:∃gb,ga=some ⟨gb,0,none⟩:=by
       rcases hO5.2 with⟨_,e2⟩ | ⟨q,cap,cur,e2,_⟩
       ·omega
       ·cases e2;exact⟨q,rfl⟩
      subst e1
      have hcg:=jY hO5 hxr
      have i2:(0:Int)<=t/\(t:Int)<gs.length:=by omega
      have HRW:=zH (fun(V:World) (hk:Kept w1.heap.size w4 V)=>show Row V.heap.size V (.slice xa g.length xc) (g.map Int.ofNat) from aS (hk.own HXO.out (by omega)))
      obtain⟨E,hE⟩:∃E,E=entT to m t:=⟨_,rfl⟩
      rw[<-hE] at HH HST HBT
      have HIB:=zH (fun q=>inT_bd HR.out (by omega) HG.out.2.2 HBT.out q)
      have HGR:=zH (fun(V:World) (hk:Kept w1.heap.size w4 V)=>hk.below HB4.out HB1.out.size HB4.out.size)
      have hg256:=HG.out.2.1
      clear eg hxo hxr hO5 hE
      go_wp2_with fail
      refine(qS w5 (HV.out.on (HGR.out w5 HH.out.2) (HGR.out w5 HH.out.2).size) HR.out (HRW.out w5 HH.out.2) HG.out.1 HG.out.2.1 HG.out.2.2).mono ?_
      rintro e w6 ⟨rfl,d,rfl⟩
      have HK6:=zH (HH.out.2.drewN d)
      have HI6:=zH (show bE (w5.drewN d) w1.heap.size to.length E from HH.out.1.of rfl)
      clear HH
      generalize w5.drewN d=w6 at HK6 HI6 ⊢
      cases hc:CC.gd (GG.am to) g
      ·have HS7:=zH (show bE w6 w1.heap.size to.length (inT (GG.am to) E g 0) by unfold inT;rw[hc];exact HI6.out)
       clear hc
       go_wp2_with fail
       go_loopw [62] (fun k wr=>∃q:Nat,q<=g.length/\k=.int .i64 (q:Int)/\RowKit.Hid (bE wr w1.heap.size to.length (inT (GG.am to) E g q)/\Kept w1.heap.size w4 wr)) (fun k _=>g.length-(intOf k).toNat)
       case atStart=>exact⟨0,by omega,rfl,zH ⟨HS7.out,HK6.out⟩⟩
       case round =>
        obtain⟨w9,rfl⟩:∃w9,w9=wr:=⟨_,rfl⟩
        obtain⟨q,hq,rfl,HH⟩:=hrel
        by_cases hqg:q<g.length
        ·have hgq:q<(g.map Int.ofNat).length:=by rw[List.length_map];exact hqg
         obtain⟨rb,rf,e1,hrc⟩:=Row.cellAt (show Row w9.heap.size w9 (.slice xa g.length xc) (g.map Int.ofNat) from HRW.out w9 HH.out.2) hgq
         cases e1
         have HQG:=zH hqg
         clear hgq
         obtain⟨x,ex⟩:∃x,x=g[q]?.getD 0:=⟨_,rfl⟩
         have hxv:(g.map Int.ofNat)[q]?.getD 0=(x:Int):=by rw[ex,List.getElem?_map,List.getElem?_eq_getElem hqg];rfl
         rw[hxv] at hrc
         have hxn:x<to.length:=HG.out.2.2 x (by rw[ex];exact GG.bn hqg)
         have i3:(0:Int)<=q/\(q:Int)<g.length:=by omega
         have i4:(0:Int)<=x/\(x:Int)<to.length:=by omega
         have HVW:=zH (HV.out.below (HGR.out w9 HH.out.2))
         obtain⟨vb,vf,vc2,e1⟩:=HVW.out.addr (by omega)
         cases e1
         obtain⟨ra,rac,hx1,hrx⟩:=HVW.out.at hxn
         have hrl:=GG.dz (GG.aZ HR.out hxn)
         have HRI:=zH (fun y hy=>GG.df (GG.aZ HR.out hxn) y hy)
         have HN:=zH (show inT (GG.am to) E g (q+1)=CC.bC (inT (GG.am to) E g q) x ((to[x]?.getD []).map Int.toNat) by rw[mu (GG.am to) E hqg,<-ex];rfl)
         obtain⟨r,er⟩:∃r,r=to[x]?.getD []:=⟨_,rfl⟩
         rw[<-er] at hx1 hrx hrl HRI HN
         have HRX:=zH hrx
         have HBQ:=zH (HIB.out q)
         clear ex hxv er hrx
         go_wp2_with fail
         refine(kG HH.out.1 hxn HRX.out HB1.out.size HRI.out (by omega) hlen.2 HBQ.out (by omega) (by omega)).mono ?_
         rintro e wz ⟨rfl,hi9,hk9⟩
         have H9:=zH (show bE wz w1.heap.size to.length (inT (GG.am to) E g (q+1))/\Kept w1.heap.size w4 wz from⟨by rw[HN.out];exact hi9,HH.out.2.trans hk9⟩)
         clear hi9 hk9
         go_wp2_with fail
         go_roundw
         case rel=>exact⟨q+1,by have:=HQG.out;omega,by go_num,H9⟩
         case measure=>have:=HQG.out;simp [intOf];omega
        ·have HF:=zH (show bE w9 w1.heap.size to.length (entT to m (t+1))/\Kept w1.heap.size w4 w9 from⟨by
          have h1:=HH.out.1
          rw[lE _ _ (by omega)] at h1
          rw[HST.out]
          exact h1,HH.out.2⟩)
         clear HH
         go_wp2_with fail
         go_roundw
         case rel=>exact⟨t+1,by omega,by go_num,HF⟩
         case measure=>simp [intOf];omega
      ·have HC:=zH hc
       clear hc
       go_wp2_with fail
       refine(pH (HRW.out w6 HK6.out) HG.out.2.1 HG.out.2.2 HI6.out).mono ?_
       rintro e w7 ⟨rfl,hb7⟩
       have HK7:=zH (HK6.out.trans ⟨hb7.os,hb7.tape,hb7.output,hb7.size,fun k hk _=>hb7.block k hk⟩)
       have HI7:=zH (HI6.out.of (hb7.block _ (World.rowIs.lt HI6.out)))
       clear hb7
       cases hh:CC.hasB E g
       ·have HS7:=zH (show bE w7 w1.heap.size to.length (inT (GG.am to) E g 0) by unfold inT;rw[HC.out,hh];exact HI7.out)
        clear hh
        go_wp2_with fail
        go_loopw [62] (fun k wr=>∃q:Nat,q<=g.length/\k=.int .i64 (q:Int)/\RowKit.Hid (bE wr w1.heap.size to.length (inT (GG.am to) E g q)/\Kept w1.heap.size w4 wr)) (fun k _=>g.length-(intOf k).toNat)
        case atStart=>exact⟨0,by omega,rfl,zH ⟨HS7.out,HK7.out⟩⟩
        case round =>
         obtain⟨w9,rfl⟩:∃w9,w9=wr:=⟨_,rfl⟩
         obtain⟨q,hq,rfl,HH⟩:=hrel
         by_cases hqg:q<g.length
         ·have hgq:q<(g.map Int.ofNat).length:=by rw[List.length_map];exact hqg
          obtain⟨rb,rf,e1,hrc⟩:=Row.cellAt (show Row w9.heap.size w9 (.slice xa g.length xc) (g.map Int.ofNat) from HRW.out w9 HH.out.2) hgq
          cases e1
          have HQG:=zH hqg
          clear hgq
          obtain⟨x,ex⟩:∃x,x=g[q]?.getD 0:=⟨_,rfl⟩
          have hxv:(g.map Int.ofNat)[q]?.getD 0=(x:Int):=by rw[ex,List.getElem?_map,List.getElem?_eq_getElem hqg];rfl
          rw[hxv] at hrc
          have hxn:x<to.length:=HG.out.2.2 x (by rw[ex];exact GG.bn hqg)
          have i3:(0:Int)<=q/\(q:Int)<g.length:=by omega
          have i4:(0:Int)<=x/\(x:Int)<to.length:=by omega
          have HVW:=zH (HV.out.below (HGR.out w9 HH.out.2))
          obtain⟨vb,vf,vc2,e1⟩:=HVW.out.addr (by omega)
          cases e1
          obtain⟨ra,rac,hx1,hrx⟩:=HVW.out.at hxn
          have hrl:=GG.dz (GG.aZ HR.out hxn)
          have HRI:=zH (fun y hy=>GG.df (GG.aZ HR.out hxn) y hy)
          have HN:=zH (show inT (GG.am to) E g (q+1)=CC.bC (inT (GG.am to) E g q) x ((to[x]?.getD []).map Int.toNat) by rw[mu (GG.am to) E hqg,<-ex];rfl)
          obtain⟨r,er⟩:∃r,r=to[x]?.getD []:=⟨_,rfl⟩
          rw[<-er] at hx1 hrx hrl HRI HN
          have HRX:=zH hrx
          have HBQ:=zH (HIB.out q)
          clear ex hxv er hrx
          go_wp2_with fail
          refine(kG HH.out.1 hxn HRX.out HB1.out.size HRI.out (by omega) hlen.2 HBQ.out (by omega) (by omega)).mono ?_
          rintro e wz ⟨rfl,hi9,hk9⟩
          have H9:=zH (show bE wz w1.heap.size to.length (inT (GG.am to) E g (q+1))/\Kept w1.heap.size w4 wz from⟨by rw[HN.out];exact hi9,HH.out.2.trans hk9⟩)
          clear hi9 hk9
          go_wp2_with fail
          go_roundw
          case rel=>exact⟨q+1,by have:=HQG.out;omega,by go_num,H9⟩
          case measure=>have:=HQG.out;simp [intOf];omega
         ·have HF:=zH (show bE w9 w1.heap.size to.length (entT to m (t+1))/\Kept w1.heap.size w4 w9 from⟨by
           have h1:=HH.out.1
           rw[lE _ _ (by omega)] at h1
           rw[HST.out]
           exact h1,HH.out.2⟩)
          clear HH
          go_wp2_with fail
          go_roundw
          case rel=>exact⟨t+1,by omega,by go_num,HF⟩
          case measure=>simp [intOf];omega
       ·have HHB:=zH hh
        clear hh
        go_wp2_with fail
        go_loopw [52] (fun k wr=>∃q:Nat,q<=g.length/\k=.int .i64 (q:Int)/\RowKit.Hid (bE wr w1.heap.size to.length (CC.jp E (g.take q))/\Kept w1.heap.size w4 wr)) (fun k _=>g.length-(intOf k).toNat)
        case atStart=>exact⟨0,by omega,rfl,zH ⟨World.rowIs.congr HI7.out (fun i _=>by simp [CC.jp]),HK7.out⟩⟩
        case round =>
         obtain⟨w8,rfl⟩:∃w8,w8=wr:=⟨_,rfl⟩
         obtain⟨q,hq,rfl,HH⟩:=hrel
         by_cases hqg:q<g.length
         ·have hgq:q<(g.map Int.ofNat).length:=by rw[List.length_map];exact hqg
          obtain⟨rb,rf,e1,hrc⟩:=Row.cellAt (show Row w8.heap.size w8 (.slice xa g.length xc) (g.map Int.ofNat) from HRW.out w8 HH.out.2) hgq
          cases e1
          have HQG:=zH hqg
          clear hgq
          obtain⟨x,ex⟩:∃x,x=g[q]?.getD 0:=⟨_,rfl⟩
          have hxv:(g.map Int.ofNat)[q]?.getD 0=(x:Int):=by rw[ex,List.getElem?_map,List.getElem?_eq_getElem hqg];rfl
          rw[hxv] at hrc
          have hxn:x<to.length:=HG.out.2.2 x (by rw[ex];exact GG.bn hqg)
          have HTK:=zH (show g.take (q+1)=g.take q ++ [x] by rw[List.take_succ_eq_append_getElem hqg,ex,List.getElem?_eq_getElem hqg];rfl)
          have hcx:=World.rowIs.cell HH.out.1 hxn
          have hfx:=World.rowIs.frozen HH.out.1 x
          have i3:(0:Int)<=q/\(q:Int)<g.length:=by omega
          have i4:(0:Int)<=x/\(x:Int)<to.length:=by omega
          have HN:=zH (show bE (w8.setCell ⟨w1.heap.size,x,none⟩ (.int .i64 (-1))) w1.heap.size to.length (CC.jp E (g.take (q+1)))/\Kept w1.heap.size w4 (w8.setCell ⟨w1.heap.size,x,none⟩ (.int .i64 (-1))) from⟨HH.out.1.set x (-1) (fun j=>by
           rw[HTK.out]
           unfold CC.jp
           by_cases e2:j=x
           ·rw[if_pos e2,if_pos (by rw[e2];simp)]
           ·rw[if_neg e2]
            by_cases e3:j∈g.take q
            ·rw[if_pos e3,if_pos (List.mem_append.2 (.inl e3))]
            ·rw[if_neg e3,if_neg (fun h=>by rcases List.mem_append.1 h with h | h;exact e3 h;exact e2 (List.mem_singleton.1 h))]),HH.out.2.set x _⟩)
          clear ex hxv
          go_wp2_with fail
          go_roundw
          case rel=>exact⟨q+1,by have:=HQG.out;omega,by go_num,HN⟩
          case measure=>have:=HQG.out;simp [intOf];omega
         ·have HS7:=zH (show bE w8 w1.heap.size to.length (inT (GG.am to) E g 0) by
           have h1:=HH.out.1
           rw[List.take_of_length_le (by omega)] at h1
           unfold inT
           rw[HC.out,HHB.out]
           exact h1)
          have HK8:=zH HH.out.2
          clear HH
          go_wp2_with fail
          go_loopw [62] (fun k wr=>∃q:Nat,q<=g.length/\k=.int .i64 (q:Int)/\RowKit.Hid (bE wr w1.heap.size to.length (inT (GG.am to) E g q)/\Kept w1.heap.size w4 wr)) (fun k _=>g.length-(intOf k).toNat)
          case atStart=>exact⟨0,by omega,rfl,zH ⟨HS7.out,HK8.out⟩⟩
          case round =>
           obtain⟨w9,rfl⟩:∃w9,w9=wr:=⟨_,rfl⟩
           obtain⟨q,hq,rfl,HH⟩:=hrel
           by_cases hqg:q<g.length
           ·have hgq:q<(g.map Int.ofNat).length:=by rw[List.length_map];exact hqg
            obtain⟨rb,rf,e1,hrc⟩:=Row.cellAt (show Row w9.heap.size w9 (.slice xa g.length xc) (g.map Int.ofNat) from HRW.out w9 HH.out.2) hgq
            cases e1
            have HQG:=zH hqg
            clear hgq
            obtain⟨x,ex⟩:∃x,x=g[q]?.getD 0:=⟨_,rfl⟩
            have hxv:(g.map Int.ofNat)[q]?.getD 0=(x:Int):=by rw[ex,List.getElem?_map,List.getElem?_eq_getElem hqg];rfl
            rw[hxv] at hrc
            have hxn:x<to.length:=HG.out.2.2 x (by rw[ex];exact GG.bn hqg)
            have i3:(0:Int)<=q/\(q:Int)<g.length:=by omega
            have i4:(0:Int)<=x/\(x:Int)<to.length:=by omega
            have HVW:=zH (HV.out.below (HGR.out w9 HH.out.2))
            obtain⟨vb,vf,vc2,e1⟩:=HVW.out.addr (by omega)
            cases e1
            obtain⟨ra,rac,hx1,hrx⟩:=HVW.out.at hxn
            have hrl:=GG.dz (GG.aZ HR.out hxn)
            have HRI:=zH (fun y hy=>GG.df (GG.aZ HR.out hxn) y hy)
            have HN:=zH (show inT (GG.am to) E g (q+1)=CC.bC (inT (GG.am to) E g q) x ((to[x]?.getD []).map Int.toNat) by rw[mu (GG.am to) E hqg,<-ex];rfl)
            obtain⟨r,er⟩:∃r,r=to[x]?.getD []:=⟨_,rfl⟩
            rw[<-er] at hx1 hrx hrl HRI HN
            have HRX:=zH hrx
            have HBQ:=zH (HIB.out q)
            clear ex hxv er hrx
            go_wp2_with fail
            refine(kG HH.out.1 hxn HRX.out HB1.out.size HRI.out (by omega) hlen.2 HBQ.out (by omega) (by omega)).mono ?_
            rintro e wz ⟨rfl,hi9,hk9⟩
            have H9:=zH (show bE wz w1.heap.size to.length (inT (GG.am to) E g (q+1))/\Kept w1.heap.size w4 wz from⟨by rw[HN.out];exact hi9,HH.out.2.trans hk9⟩)
            clear hi9 hk9
            go_wp2_with fail
            go_roundw
            case rel=>exact⟨q+1,by have:=HQG.out;omega,by go_num,H9⟩
            case measure=>have:=HQG.out;simp [intOf];omega
           ·have HF:=zH (show bE w9 w1.heap.size to.length (entT to m (t+1))/\Kept w1.heap.size w4 w9 from⟨by
             have h1:=HH.out.1
             rw[lE _ _ (by omega)] at h1
             rw[HST.out]
             exact h1,HH.out.2⟩)
            clear HH
            go_wp2_with fail
            go_roundw
            case rel=>exact⟨t+1,by omega,by go_num,HF⟩
            case measure=>simp [intOf];omega
     ·have HF:=zH (show bE w5 w1.heap.size to.length (aR to m) by
       have h1:=HH.out.1
       rwa [show t=gs.length by omega,HALL.out] at h1)
      have HBF:=zH (HH.out.2.below HB4.out HB1.out.size HB4.out.size)
      clear HH
      go_wp2_with fail
      go_ret
      exact⟨_,rfl,by rw[HE.out];exact HF.out.row,HBF.out⟩
end
section
open Go.RowKit CC
def exC:List (List Int):=[[1,2],[2],[]]
theorem mv:gsI (bw exC)=[[2],[1],[0]]:=by decide +kernel
theorem qX:entL exC 0=[1,2,3]:=by decide +kernel
theorem exC_small:cQ exC:=⟨by decide,by decide⟩
theorem eN{W:World}{b:Nat}{xs:List Int}{t:TypeId}(h:W.heap[b]?=some (.cells (ap xs).toArray t)):Row W.heap.size W (.slice (some ⟨b,0,none⟩) xs.length xs.length) xs :=
 .inr ⟨b,0,xs.length,by rw[aY],(Array.getElem?_eq_some_iff.1 h).1,by rw[aY];exact Nat.le_refl _,fun j u hj=>by
  simp only[World.cell?,h,Nat.zero_add]
  simpa using hj⟩
def lit3(W:World)(a b:List Int)(v:Value):World:=((W.alloc (.cells (ap a).toArray 3)).alloc (.cells (ap b).toArray 3)).alloc (.cells #[.slice (some ⟨W.heap.size,0,none⟩) a.length a.length,.slice (some ⟨W.heap.size+1,0,none⟩) b.length b.length,v] 54)
theorem tk(W:World)(a b:List Int)(v:Value):Below W.heap.size W (lit3 W a b v):=(((Below.refl _ _).alloc (Nat.le_refl _) _).alloc (by simp) _).alloc (by simp;omega) _
theorem lit3_mem{W:World}{a b c:List Int}{v:Value}(h:Row (lit3 W a b v).heap.size (lit3 W a b v) v c):aq (lit3 W a b v).heap.size (lit3 W a b v) (.slice (some ⟨W.heap.size+1+1,0,none⟩) 3 3) [a,b,c]:=by
 have hs:(lit3 W a b v).heap.size=W.heap.size+3:=by simp [lit3]
 have h2:(lit3 W a b v).heap[W.heap.size+1+1]?=some (.cells #[.slice (some ⟨W.heap.size,0,none⟩) a.length a.length,.slice (some ⟨W.heap.size+1,0,none⟩) b.length b.length,v] 54):=dF (by simp)
 have h0:(lit3 W a b v).heap[W.heap.size]?=some (.cells (ap a).toArray 3):=by
  unfold lit3
  rw[heap_alloc_old _ _ (by simp;omega),heap_alloc_old _ _ (by simp),heap_alloc_new]
 have h1:(lit3 W a b v).heap[W.heap.size+1]?=some (.cells (ap b).toArray 3):=by
  unfold lit3
  rw[heap_alloc_old _ _ (by simp)]
  exact dF (by simp)
 refine⟨[.slice (some ⟨W.heap.size,0,none⟩) a.length a.length,.slice (some ⟨W.heap.size+1,0,none⟩) b.length b.length,v],.inr ⟨W.heap.size+1+1,0,3,rfl,by omega,Nat.le_refl 3,fun j u hj=>?_⟩,rfl,fun j hj=>?_⟩
 ·simp only[World.cell?,h2,Nat.zero_add]
  simpa using hj
 ·match j,hj with
  | 0,_=>exact⟨_,rfl,eN h0⟩
  | 1,_=>exact⟨_,rfl,eN h1⟩
  | 2,_=>exact⟨_,rfl,h⟩
theorem lit3_nil(W:World)(a b:List Int):aq (lit3 W a b (.slice none 0 0)).heap.size (lit3 W a b (.slice none 0 0)) (.slice (some ⟨W.heap.size+1+1,0,none⟩) 3 3) [a,b,[]]:=lit3_mem (br _ _ _ _ (fun _=>rfl))
def lit4(W:World)(a b c:List Int):World:=(((W.alloc (.cells (ap a).toArray 3)).alloc (.cells (ap b).toArray 3)).alloc (.cells (ap c).toArray 3)).alloc (.cells #[.slice (some ⟨W.heap.size,0,none⟩) a.length a.length,.slice (some ⟨W.heap.size+1,0,none⟩) b.length b.length,.slice (some ⟨W.heap.size+1+1,0,none⟩) c.length c.length] 54)
theorem tl(W:World)(a b c:List Int):Below W.heap.size W (lit4 W a b c):=((((Below.refl _ _).alloc (Nat.le_refl _) _).alloc (by simp) _).alloc (by simp;omega) _).alloc (by simp;omega) _
theorem lit4_mem(W:World)(a b c:List Int):aq (lit4 W a b c).heap.size (lit4 W a b c) (.slice (some ⟨W.heap.size+1+1+1,0,none⟩) 3 3) [a,b,c]:=by
 have hs:(lit4 W a b c).heap.size=W.heap.size+4:=by simp [lit4]
 have h3:(lit4 W a b c).heap[W.heap.size+1+1+1]?=some (.cells #[.slice (some ⟨W.heap.size,0,none⟩) a.length a.length,.slice (some ⟨W.heap.size+1,0,none⟩) b.length b.length,.slice (some ⟨W.heap.size+1+1,0,none⟩) c.length c.length] 54):=dF (by simp)
 have h0:(lit4 W a b c).heap[W.heap.size]?=some (.cells (ap a).toArray 3):=by
  unfold lit4
  rw[heap_alloc_old _ _ (by simp;omega),heap_alloc_old _ _ (by simp;omega),heap_alloc_old _ _ (by simp),heap_alloc_new]
 have h1:(lit4 W a b c).heap[W.heap.size+1]?=some (.cells (ap b).toArray 3):=by
  unfold lit4
  rw[heap_alloc_old _ _ (by simp),heap_alloc_old _ _ (by simp)]
  exact dF (by simp)
 have h2:(lit4 W a b c).heap[W.heap.size+1+1]?=some (.cells (ap c).toArray 3):=by
  unfold lit4
  rw[heap_alloc_old _ _ (by simp)]
  exact dF (by simp)
 refine⟨[.slice (some ⟨W.heap.size,0,none⟩) a.length a.length,.slice (some ⟨W.heap.size+1,0,none⟩) b.length b.length,.slice (some ⟨W.heap.size+1+1,0,none⟩) c.length c.length],.inr ⟨W.heap.size+1+1+1,0,3,rfl,by omega,Nat.le_refl 3,fun j u hj=>?_⟩,rfl,fun j hj=>?_⟩
 ·simp only[World.cell?,h3,Nat.zero_add]
  simpa using hj
 ·match j,hj with
  | 0,_=>exact⟨_,rfl,eN h0⟩
  | 1,_=>exact⟨_,rfl,eN h1⟩
  | 2,_=>exact⟨_,rfl,eN h2⟩
theorem small3(a b c:List Int)(h:a.length+b.length+c.length<=1000):cQ [a,b,c]:=⟨by show 3<=17592186044416;decide,by
 intro r hr
 simp at hr
 rcases hr with h | h | h <;> subst h <;> omega⟩
set_option maxRecDepth 100000 in
set_option maxHeartbeats 3200000 in
theorem mw(W:World):Calls Tryz.prog 11 #[] W fun e W'=>e=.returned (.bool true)/\Below W.heap.size W W':=by
 have HM:=zH (lit3_nil W [1,2] [2])
 have HB:=zH (tk W [1,2] [2] (.slice none 0 0))
 have HS:=zH exC_small
 have hs:=(show (lit3 W [1,2] [2] (.slice none 0 0)).heap.size=W.heap.size+3 by simp [lit3])
 go_enter Tryz.func11,Tryz.ntmps11
 go_wp2_with fail
 rw[show ((W.alloc (.cells #[.int .i64 1,.int .i64 2] 3)).alloc (.cells #[.int .i64 2] 3)).alloc (.cells #[.slice (some ⟨W.heap.size,0,none⟩) 2 2,.slice (some ⟨W.heap.size+1,0,none⟩) 1 1,.slice none 0 0] 54)=lit3 W [1,2] [2] (.slice none 0 0) from rfl]
 refine(ll (to:=exC) _ HM.out HS.out).mono ?_
 rintro e w1 ⟨gv,vs,rfl,hown,hrows,hb1⟩
 have HG1:=zH (show aq w1.heap.size w1 gv [[2],[1],[0]] by rw[<-mv];exact hrows.graph hown)
 have HM1:=zH (HM.out.on hb1 hb1.size)
 have HB1:=zH (HB.out.trans (hb1.mono (by omega)))
 obtain⟨ga,gc,rfl⟩:=CC.iG hown
 rw[mv]
 clear hown hrows hb1
 go_wp2_with fail
 rw[show (((w1.alloc (.cells #[.int .i64 2] 3)).alloc (.cells #[.int .i64 1] 3)).alloc (.cells #[.int .i64 0] 3)).alloc (.cells #[.slice (some ⟨w1.heap.size,0,none⟩) 1 1,.slice (some ⟨w1.heap.size+1,0,none⟩) 1 1,.slice (some ⟨w1.heap.size+1+1,0,none⟩) 1 1] 54)=lit4 w1 [2] [1] [0] from rfl]
 have HB2:=zH (tl w1 [2] [1] [0])
 refine(qd _ _ [[2],[1],[0]] [[2],[1],[0]] _ _ (HG1.out.on HB2.out HB2.out.size) (lit4_mem w1 [2] [1] [0]) (small3 _ _ _ (by decide)) (small3 _ _ _ (by decide))).mono ?_
 rintro e w2 ⟨rfl,d,e2⟩
 rw[e2,decide_eq_true (rfl:([[2],[1],[0]]:List (List Int))=[[2],[1],[0]])]
 have HB3:=zH (show Below w1.heap.size w1 ((lit4 w1 [2] [1] [0]).drewN d) from HB2.out.trans ⟨rfl,rfl,rfl,Nat.le_refl _,fun _ _=>rfl⟩)
 clear e2 HB2
 generalize (lit4 w1 [2] [1] [0]).drewN d=w3 at HB3 ⊢
 have HM3:=zH (HM1.out.on HB3.out HB3.out.size)
 have HB4:=zH (HB1.out.trans (HB3.out.mono HB1.out.size))
 go_wp2_with fail
 refine(jZ (to:=exC) 0 w3 HM3.out HS.out).mono ?_
 rintro e w4 ⟨u,rfl,hr,hb4⟩
 rw[qX] at hr
 obtain⟨ua,uc,rfl⟩:=hr.form
 have HR:=zH (hr.below ((Below.refl w4.heap.size w4).alloc (Nat.le_refl _) (.cells #[.int .i64 1,.int .i64 2,.int .i64 3] 3)))
 have HB5:=zH (HB4.out.trans (hb4.mono HB4.out.size))
 have HL:=zH (show Row w4.heap.size.succ (w4.alloc (.cells #[.int .i64 1,.int .i64 2,.int .i64 3] 3)) (.slice (some ⟨w4.heap.size,0,none⟩) 3 3) [1,2,3] by
  have h:=eN (W:=w4.alloc (.cells (ap [1,2,3]).toArray 3)) (b:=w4.heap.size) (xs:=[1,2,3]) (t:=3) (dF rfl)
  have e:(w4.alloc (.cells (ap [1,2,3]).toArray 3)).heap.size=w4.heap.size.succ:=by simp
  rw[e] at h
  exact h)
 clear hr hb4
 go_wp2_with fail
 refine(ints_any _ _ [1,2,3] [1,2,3] w4.heap.size.succ _ (HR.out.mono (Nat.le_succ _)) HL.out (by decide) (by decide)).mono ?_
 rintro e w5 ⟨rfl,d,e5⟩
 rw[e5,decide_eq_true (rfl:([1,2,3]:List Int)=[1,2,3])]
 have HB6:=zH (show Below W.heap.size W ((w4.alloc (.cells #[.int .i64 1,.int .i64 2,.int .i64 3] 3)).drewN d) from(HB5.out.alloc HB5.out.size _).trans ⟨rfl,rfl,rfl,Nat.le_refl _,fun _ _=>rfl⟩)
 clear e5
 generalize (w4.alloc (.cells #[.int .i64 1,.int .i64 2,.int .i64 3] 3)).drewN d=w6 at HB6 ⊢
 go_wp2_with fail
 go_ret
 exact⟨rfl,HB6.out⟩
end
section
open Go.RowKit CC
structure ReachT (W:World) (n i:Nat) (L:Nat->Nat->Bool) (V:World) (f:Nat->Value):Prop where
 below:Below W.heap.size W V
 tab:V.rowIs W.heap.size 38 n f
 rows:∀j,j<i->∃rb,f j=.slice (some ⟨rb,0,none⟩) n n/\W.heap.size<rb/\dt V rb n (L j)
theorem ReachT.next{W V w1:World}{n i rb:Nat}{L:Nat->Nat->Bool}{f:Nat->Value}(h:ReachT W n i L V f)(hb:Below V.heap.size V w1)(hr:dt w1 rb n (L i))(hrb:V.heap.size<=rb) :
 ReachT W n (i+1) L (w1.setCell ⟨W.heap.size,i,none⟩ (.slice (some ⟨rb,0,none⟩) n n)) (fun j=>if j=i then .slice (some ⟨rb,0,none⟩) n n else f j):=by
 have hlt:=World.rowIs.lt h.tab
 have h1:w1.rowIs W.heap.size 38 n f:=World.rowIs.of_block h.tab (hb.block _ hlt)
 refine⟨(h.below.trans (hb.mono h.below.size)).setCell (p:=⟨W.heap.size,i,none⟩) (Nat.le_refl _) _,World.rowIs.congr (World.rowIs.set h1 i _) (fun j _=>by by_cases e:j=i <;> simp [e]),fun j hj=>?_⟩
 by_cases e:j=i
 ·subst e
  exact⟨rb,by rw[if_pos rfl],by omega,World.rowIs.of_block hr (Below.heap_setCell _ _ _ _ (by show rb≠W.heap.size;omega))⟩
 ·obtain⟨r,q1,q2,q3⟩:=h.rows j (by omega)
  exact⟨r,by rw[if_neg e];exact q1,q2,World.rowIs.of_block q3 ((Below.heap_setCell _ _ _ _ (by show r≠W.heap.size;omega)).trans (hb.block _ (World.rowIs.lt q3)))⟩
theorem ReachT.tabB{W V:World}{n:Nat}{L:Nat->Nat->Bool}{f:Nat->Value}(h:ReachT W n n L V f):BTab V.heap.size V (.slice (some ⟨W.heap.size,0,none⟩) n n) n n L:=by
 refine⟨(List.range n).map f,.inr ⟨W.heap.size,0,n,by simp,World.rowIs.lt h.tab,by simp,fun j u hj=>?_⟩,by simp,fun j hj=>?_⟩
 ·have hjn:j<n:=by have:=(List.getElem?_eq_some_iff.1 hj).1;simpa using this
  have:u=f j:=by simpa [hjn] using hj.symm
  rw[this,Nat.zero_add]
  exact World.rowIs.cell h.tab hjn
 ·obtain⟨r,q1,q2,q3⟩:=h.rows j hj
  exact⟨_,by simp [hj,q1],dt.row q3⟩
theorem infoCRow:(Tryz.prog.info? 38).map (fun i=>(i.zero,i.size,i.bytes))=some (some (.slice none 0 0),1,24):=by kernel_rfl
set_option maxRecDepth 100000 in
set_option maxHeartbeats 3200000 in
theorem pJ{v:Value}{to:List (List Int)}(W:World)(hv:aq W.heap.size W v to)(hr:GG.al to=true) :
 Calls Tryz.prog 48 #[v] W fun e W'=>∃u,e=.returned u/\BTab W'.heap.size W' u to.length to.length (aB to)/\Below W.heap.size W W':=by
 have hlen:=GG.aC hr
 have HV:=zH hv
 have HR:=zH hr
 obtain⟨va,vc,rfl⟩:=hv.form
 have hmk:=run_make_row' (P:=Tryz.prog) 101 38 (.slice none 0 0) 24 (by kernel_rfl) infoCRow rfl .i64 .i64 to.length (by omega) (by omega)
 have H0:=zH (show ReachT W to.length 0 (aB to) (W.alloc (.cells (madeCells #[.slice none 0 0] to.length) 38)) (fun _=>.slice none 0 0) from⟨(Below.refl _ _).alloc (Nat.le_refl _) _,World.rowIs_made W (.slice none 0 0) to.length 38,fun j hj=>absurd hj (Nat.not_lt_zero _)⟩)
 clear hv hr
 go_enter Tryz.func48,Tryz.ntmps48
 go_wp2_with fail
 clear hmk
 go_loopw [4] (fun k wr=>∃i:Nat,i<=to.length/\k=.int .i64 (i:Int)/\RowKit.Hid (∃f,ReachT W to.length i (aB to) wr f)) (fun k _=>to.length-(intOf k).toNat)
 case atStart=>exact⟨0,by omega,rfl,zH ⟨_,H0.out⟩⟩
 case round =>
  obtain⟨w2,rfl⟩:∃w2,w2=wr:=⟨_,rfl⟩
  obtain⟨i,hi,rfl,HH⟩:=hrel
  obtain⟨f,hf⟩:=HH.out
  have HF:=zH hf
  clear HH hf
  by_cases hlt:i<to.length
  ·have i1:(0:Int)<=i/\(i:Int)<to.length:=by omega
   go_wp2_with fail
   refine(iw (to:=to) i (-1) w2 (HV.out.on HF.out.below HF.out.below.size) HR.out hlt (by omega)).mono ?_
   rintro e w3 ⟨rfl,hfl,hb⟩
   have HB:=zH hb
   have hc:=World.rowIs.cell (World.rowIs.of_block HF.out.tab (hb.block _ (World.rowIs.lt HF.out.tab))) hlt
   have hfz:=World.rowIs.frozen (World.rowIs.of_block HF.out.tab (hb.block _ (World.rowIs.lt HF.out.tab))) i
   have HN:=zH (HF.out.next hb hfl (Nat.le_refl _))
   clear hfl hb
   obtain⟨y,hy⟩:∃y,y=f i:=⟨_,rfl⟩
   rw[<-hy] at hc
   clear hy
   go_wp2_with fail
   go_roundw
   case rel=>exact⟨i+1,by omega,by go_num,zH ⟨_,HN.out⟩⟩
   case measure=>simp [intOf];omega
  ·have HE:=zH (show ReachT W to.length to.length (aB to) w2 f by have h:=HF.out;rwa [show i=to.length by omega] at h)
   go_wp2_with fail
   go_ret
   exact⟨_,rfl,HE.out.tabB,HE.out.below⟩
end
section
open Go.RowKit CC
def rcB(to:List (List Int))(a:Nat):Bool:=(GG.am to a).any fun j=>aB to j a
theorem rcB_iff{to:List (List Int)}{a:Nat}:rcB to a=true↔CC.jW (GG.am to) (aB to) a:=by
 unfold rcB CC.jW
 rw[List.any_eq_true]
theorem rcB_yes{to:List (List Int)}{a k j:Nat}(hk:k<(to[a]?.getD []).length)(hj:(to[a]?.getD [])[k]?.getD 0=(j:Int))(h:aB to j a=true):rcB to a=true:=by
 unfold rcB
 rw[List.any_eq_true]
 refine⟨j,?_,h⟩
 unfold GG.am
 rw[List.mem_map]
 exact⟨(j:Int),by rw[<-hj];exact GG.bn hk,by simp⟩
theorem rcB_no{to:List (List Int)}{a:Nat}(h:∀k,k<(to[a]?.getD []).length->aB to ((to[a]?.getD [])[k]?.getD 0).toNat a=false):rcB to a=false:=by
 unfold rcB
 rw[List.any_eq_false]
 intro j hj
 unfold GG.am at hj
 obtain⟨x,hx,rfl⟩:=List.mem_map.1 hj
 obtain⟨k,hk,e⟩:=List.mem_iff_getElem.1 hx
 have:=h k hk
 rw[List.getElem?_eq_getElem hk,Option.getD_some,e] at this
 rw[this]
 decide
set_option maxRecDepth 100000 in
set_option maxHeartbeats 3200000 in
theorem lm{n₀:Nat}{v bv:Value}{to:List (List Int)}(a:Nat)(W:World)(hv:aq n₀ W v to)(hb:BTab n₀ W bv to.length to.length (aB to))(hr:GG.al to=true)(ha:a<to.length) :
 Calls Tryz.prog 49 #[v,bv,.int .i64 a] W fun e W'=>e=.returned (.bool (rcB to a))/\W'=W:=by
 have hlen:=GG.aC hr
 obtain⟨vb,vf,vc,e1⟩:=hv.addr (by omega)
 subst e1
 obtain⟨bb,bf,bc,_,_,_,e2,_⟩:=hb.at ha ha
 subst e2
 obtain⟨ra,rac,hx1,hrx⟩:=hv.at ha
 have hrl:=GG.dz (GG.aZ hr ha)
 have HRI:=zH (fun y hy=>GG.df (GG.aZ hr ha) y hy)
 have HB:=zH hb
 have HRX:=zH hrx
 have HYES:=zH (fun(k j:Nat) hk hj h=>rcB_yes (to:=to) (a:=a) (k:=k) (j:=j) hk hj h)
 have HNO:=zH (rcB_no (to:=to) (a:=a))
 obtain⟨r,er⟩:∃r,r=to[a]?.getD []:=⟨_,rfl⟩
 rw[<-er] at hx1 hrl HRX HRI HYES HNO
 have i1:(0:Int)<=a/\(a:Int)<to.length:=by omega
 clear hv hb hr hrx er
 go_enter Tryz.func49,Tryz.ntmps49
 go_wp2_with fail
 go_loopw [7] (fun k wr=>∃q:Nat,q<=r.length/\k=.int .i64 (q:Int)/\W=wr/\RowKit.Hid (∀j,j<q->aB to (r[j]?.getD 0).toNat a=false)) (fun k _=>r.length-(intOf k).toNat)
 case atStart=>exact⟨0,by omega,rfl,rfl,zH (fun j hj=>absurd hj (Nat.not_lt_zero _))⟩
 case round =>
  obtain⟨q,hq,rfl,rfl,HI⟩:=hrel
  by_cases hqr:q<r.length
  ·obtain⟨rb,rf,e1,hrc⟩:=HRX.out.cellAt hqr
   cases e1
   have hin:=HRI.out _ (GG.bn (d:=0) hqr)
   obtain⟨x,ex⟩:∃x,x=r[q]?.getD 0:=⟨_,rfl⟩
   rw[<-ex] at hrc hin
   obtain⟨j,rfl⟩:∃j:Nat,x=(j:Int):=⟨x.toNat,by omega⟩
   have hjn:j<to.length:=by omega
   obtain⟨tb,tf,tc,rb2,rf2,rc2,e3,hr2,hc2⟩:=HB.out.at hjn ha
   cases e3
   have i2:(0:Int)<=q/\(q:Int)<r.length:=by omega
   have i3:(0:Int)<=j/\(j:Int)<to.length:=by omega
   have HQ:=zH hqr
   obtain⟨z,hz⟩:∃z,z=aB to j a:=⟨_,rfl⟩
   rw[<-hz] at hc2
   cases z
   ·have HN:=zH (show ∀j',j'<q+1->aB to (r[j']?.getD 0).toNat a=false from fun j' hj'=>by
     by_cases e:j'=q
     ·rw[e,<-ex,Int.toNat_natCast];exact hz.symm
     ·exact HI.out j' (by omega))
    clear hz ex
    go_wp2_with fail
    go_roundw
    case rel=>exact⟨q+1,by have:=HQ.out;omega,by go_num,by first | rfl | trivial,HN⟩
    case measure=>have:=HQ.out;simp [intOf];omega
   ·have HE:=zH (HYES.out q j hqr ex.symm hz.symm)
    clear hz ex
    go_wp2_with fail
    go_ret
    exact⟨by rw[HE.out];rfl,rfl⟩
  ·have HE:=zH (HNO.out (fun k hk=>HI.out k (by omega)))
   go_wp2_with fail
   go_ret
   exact⟨by rw[HE.out];rfl,rfl⟩
theorem lnC_set{W:World}{g n:Nat}{ns:List Int}(h:bE W g n (CC.ln ns)){i:Nat}(hi:i<ns.length)(c:Int):bE (W.setCell ⟨g,i,none⟩ (.int .i64 c)) g n (CC.ln (ns.set i c)) :=
 h.set i c (fun j=>CC.pF hi j)
structure LongS (W wr:World) (n:Nat) (adj:Nat->List Nat) (L:Nat->Nat->Bool) (main at_:Nat) (e:Nat->Int) (r i:Nat) (ns:List Int):Prop where
 ints:bE wr W.heap.size n (CC.ln ns)
 long:CC.LongI n L main at_ e r ns
 round:CC.jw n adj L at_ e r ns i
 below:Below W.heap.size W wr
theorem LongS.drew{W wr:World}{n:Nat}{adj:Nat->List Nat}{L:Nat->Nat->Bool}{main at_:Nat}{e:Nat->Int}{r i:Nat}{ns:List Int}(h:LongS W wr n adj L main at_ e r i ns)(d:Nat):LongS W (wr.drewN d) n adj L main at_ e r i ns :=
 ⟨h.ints.of rfl,h.long,h.round,h.below.trans ⟨rfl,rfl,rfl,Nat.le_refl _,fun _ _=>rfl⟩⟩
set_option maxRecDepth 100000 in
set_option maxHeartbeats 12800000 in
theorem rlong_any{n₀:Nat}{v bv:Value}{to:List (List Int)}{main at_:Nat}{e:Nat->Int}(W:World)(hv:aq n₀ W v to)(hb:BTab n₀ W bv to.length to.length (aB to))(hn₀:n₀<=W.heap.size)(hr:GG.al to=true)(hH:CC.LongH to.length (GG.am to) (aB to) main at_ e) :
 Calls Tryz.prog 50 #[v,bv,.int .i64 main,.int .i64 at_] W fun e' W'=>e'=.returned (.int .i64 (e at_))/\Below W.heap.size W W':=by
 have hlen:=GG.aC hr
 have hm:=hH.hm
 have ha:=hH.hat
 obtain⟨vb,vf,vc,e1⟩:=hv.addr (by omega)
 subst e1
 obtain⟨bb,bf,bc,_,_,_,e2,_⟩:=hb.at hm hm
 subst e2
 have HV:=zH hv
 have HB:=zH hb
 have HR:=zH hr
 have HH:=zH hH
 have hmk:=run_make_row' (P:=Tryz.prog) 54 3 (.int .i64 0) 8 (by kernel_rfl) Tryz.infoGInt rfl .i64 .i64 to.length (by omega) (by omega)
 have HI1:=zH (show bE (W.alloc (.cells (madeCells #[.int .i64 0] to.length) 3)) W.heap.size to.length (CC.ln (List.replicate to.length 0)) from World.rowIs.congr (World.rowIs_made W (.int .i64 0) to.length 3) (fun j hj=>by unfold CC.ln;simp [hj]))
 have hc1:=World.rowIs.cell HI1.out hm
 have hf1:=World.rowIs.frozen HI1.out main
 have hz1:CC.ln (List.replicate to.length (0:Int)) main=0:=by unfold CC.ln;simp [hm]
 rw[hz1] at hc1
 have i1:(0:Int)<=main/\(main:Int)<to.length:=by omega
 have i0:(0:Int)<=at_/\(at_:Int)<to.length:=by omega
 obtain⟨W2,eW2⟩:∃W2,W2=W.alloc (.cells ((madeCells #[.int .i64 0] to.length).setIfInBounds main (.int .i64 1)) 3):=⟨_,rfl⟩
 have HS2:=zH (show LongS W W2 to.length (GG.am to) (aB to) main at_ e 0 0 ((List.replicate to.length 0).set main 1) from⟨by
  have h:=lnC_set HI1.out (i:=main) (by simpa using hm) 1
  rw[World.setCell_alloc_at _ _ _ _ _ rfl] at h
  rw[eW2];exact h,CC.sV hH,fun p hp=>absurd hp (Nat.not_lt_zero _),by rw[eW2];exact(Below.refl _ _).alloc (Nat.le_refl _) _⟩)
 have EW2:=zH eW2
 clear eW2 hv hb hr hH hz1
 go_enter Tryz.func50,Tryz.ntmps50
 go_wp2_with fail
 rw[<-EW2.out]
 clear hmk hc1 hf1
 go_loopw [10] (fun k wr=>∃r:Nat,r<=to.length/\k=.int .i64 (r:Int)/\RowKit.Hid (∃ns,LongS W wr to.length (GG.am to) (aB to) main at_ e r 0 ns)) (fun k _=>to.length-(intOf k).toNat)
 case atStart=>exact⟨0,by omega,rfl,zH ⟨_,HS2.out⟩⟩
 case round =>
  obtain⟨w3,rfl⟩:∃w3,w3=wr:=⟨_,rfl⟩
  obtain⟨r,hr,rfl,HQ⟩:=hrel
  by_cases hrn:r<to.length
  ·have HRN :=zH hrn
   go_wp2_with fail
   go_loopw [11] (fun k wr=>∃i:Nat,i<=to.length/\k=.int .i64 (i:Int)/\RowKit.Hid (∃ns,LongS W wr to.length (GG.am to) (aB to) main at_ e r i ns)) (fun k _=>to.length-(intOf k).toNat)
   case atStart=>exact⟨0,by omega,rfl,HQ⟩
   case round =>
    obtain⟨w4,rfl⟩:∃w4,w4=wr:=⟨_,rfl⟩
    obtain⟨i,hi,rfl,HQ4⟩:=hrel
    clear HQ
    by_cases hin:i<to.length
    ·have HIN :=zH hin
     have hrl:=GG.dz (GG.aZ HR.out hin)
     have HRI:=zH (fun y hy=>GG.df (GG.aZ HR.out hin) y hy)
     have HAL:=zH (GG.oP to i)
     have HAG:=zH (fun(k:Nat) (hk:k<(to[i]?.getD []).length)=>GG.adj_get hk)
     have HGA:=zH (fun(V:World) (hV:aq n₀ V (.slice (some ⟨vb,vf,none⟩) to.length vc) to)=>hV.at hin)
     obtain⟨row,er⟩:∃row,row=to[i]?.getD []:=⟨_,rfl⟩
     rw[<-er] at hrl HRI HAL HAG HGA
     clear er
     have HQ5:=zH (show ∃ns,LongS W w4 to.length (GG.am to) (aB to) main at_ e r i ns/\CC.RowI (GG.am to) (aB to) at_ e r ns i 0 by
      obtain⟨ns,h⟩:=HQ4.out
      exact⟨ns,h,CC.row_start _ _ _ _ _ _ _⟩)
     clear HQ4
     have i2:(0:Int)<=i/\(i:Int)<to.length:=by omega
     go_wp2_with fail
     go_loopw [12] (fun k wr=>∃q:Nat,q<=row.length/\k=.int .i64 (q:Int)/\RowKit.Hid (∃ns,LongS W wr to.length (GG.am to) (aB to) main at_ e r i ns/\CC.RowI (GG.am to) (aB to) at_ e r ns i q)) (fun k _=>row.length-(intOf k).toNat)
     case atStart=>exact⟨0,by omega,rfl,HQ5⟩
     case round =>
      obtain⟨w5,rfl⟩:∃w5,w5=wr:=⟨_,rfl⟩
      obtain⟨q,hq,rfl,HQ6⟩:=hrel
      clear HQ5
      obtain⟨ns,hS,hRow⟩:=HQ6.out
      have HS:=zH hS
      have HRow:=zH hRow
      clear HQ6 hRow
      have HBL:=zH (hS.below.mono hn₀)
      obtain⟨ra,rac,hx1,hrx⟩:=HGA.out w5 (HV.out.below HBL.out)
      have hci:=World.rowIs.cell hS.ints HIN.out
      have hbd:=hS.long.bd i HIN.out
      have hle:∀x,x<to.length->1<=e x->e x<=to.length:=fun x hx h1=>CC.ent_le HH.out.pre HH.out.ha HH.out.hm HH.out.hs x hx h1
      have hei:=hle i HIN.out
      clear hS
      obtain⟨z,hz⟩:∃z,z=CC.ln ns i:=⟨_,rfl⟩
      have HZ:=zH hz
      rw[<-hz] at hci hbd
      have hzb:0<=z/\z<=256:=by
       rcases hbd with h | ⟨_,h1,h2⟩
       ·omega
       ·have:=hei (by omega);omega
      clear hz hbd hei
      by_cases hqr:q<row.length
      ·have HQR :=zH hqr
       have i4:(0:Int)<=q/\(q:Int)<row.length:=by omega
       by_cases hz0:z<=0
       ·have hg:decide ((0:Int)<z)=false:=decide_eq_false (by omega)
        have HN:=zH (show ∃ns,LongS W w5 to.length (GG.am to) (aB to) main at_ e r (i+1) ns from⟨ns,HS.out.ints,HS.out.long,CC.mo HS.out.round (CC.row_zero HH.out HS.out.long (by rw[<-HZ.out];exact hz0) _),HS.out.below⟩)
        clear hrx hle
        go_wp2_with fail
        go_roundw
        case rel=>exact⟨i+1,by have:=HIN.out;omega,by go_num,HN⟩
        case measure=>have:=HIN.out;simp [intOf];omega
       ·have hg:decide ((0:Int)<z)=true:=decide_eq_true (by omega)
        obtain⟨rb,rf,e1,hrc⟩:=Row.cellAt (show Row n₀ w5 (.slice ra row.length rac) row from hrx) hqr
        cases e1
        have hji:=HRI.out _ (GG.bn (d:=0) hqr)
        have hjm:=HAG.out q hqr
        obtain⟨x,ex⟩:∃x,x=row[q]?.getD 0:=⟨_,rfl⟩
        rw[<-ex] at hrc hji hjm
        obtain⟨j,rfl⟩:∃j:Nat,x=(j:Int):=⟨x.toNat,by omega⟩
        rw[Int.toNat_natCast] at hjm
        have hjn:j<to.length:=by omega
        have HJM:=zH (List.mem_of_getElem? hjm)
        have HJD:=zH (show (GG.am to i)[q]?.getD 0=j by rw[hjm];rfl)
        have HBT:=zH (HB.out.below HBL.out)
        obtain⟨tb,tf,tc,rb2,rf2,rc2,e3,hr2,hc2⟩:=HBT.out.at hjn ha
        cases e3
        have hcj:=World.rowIs.cell HS.out.ints hjn
        have hfj:=World.rowIs.frozen HS.out.ints j
        have hbj:=HS.out.long.bd j hjn
        have hej:=hle j hjn
        obtain⟨y,hy⟩:∃y,y=CC.ln ns j:=⟨_,rfl⟩
        have HY:=zH hy
        rw[<-hy] at hcj hbj
        have hyb:0<=y/\y<=256:=by
         rcases hbj with h | ⟨_,h1,h2⟩
         ·omega
         ·have:=hej (by omega);omega
        have hw:IntKind.i64.wrap (z+1)=z+1:=by rw[IntKind.wrap_i64];omega
        have hw2:wrap64 (z+1)=z+1:=by unfold wrap64;omega
        have i5:(0:Int)<=j/\(j:Int)<to.length:=by omega
        have HKL:=zH (show q<(GG.am to i).length by rw[HAL.out];exact hqr)
        have HSD:=zH (fun d=>HS.out.drew d)
        obtain⟨l,hl⟩:∃l,l=aB to j at_:=⟨_,rfl⟩
        rw[<-hl] at hc2
        have HL:=zH hl
        clear hrx hle hjm hy hbj hej ex hl hjn
        cases l
        ·have HN:=zH (fun d=>show ∃ns,LongS W (w5.drewN d) to.length (GG.am to) (aB to) main at_ e r i ns/\CC.RowI (GG.am to) (aB to) at_ e r ns i (q+1) from⟨ns,HSD.out d,CC.mn HH.out HS.out.long HKL.out HRow.out (fun h=>by rw[HJD.out,<-HL.out] at h;cases h)⟩)
         go_wp2_with fail
         go_quiet (fail)
         go_wp2_with fail
         go_roundw
         case rel=>exact⟨q+1,by have:=HQR.out;omega,by go_num,zH (HN.out _)⟩
         case measure=>have:=HQR.out;simp [intOf];omega
        ·by_cases hyz:y<z+1
         ·have hd:decide (y<z+1)=true:=decide_eq_true hyz
          have HN:=zH (fun(V:World) (hV:LongS W V to.length (GG.am to) (aB to) main at_ e r i ns)=>show ∃ns,LongS W (V.setCell ⟨W.heap.size,j,none⟩ (.int .i64 (z+1))) to.length (GG.am to) (aB to) main at_ e r i ns/\CC.RowI (GG.am to) (aB to) at_ e r ns i (q+1) by
           obtain⟨h1,h2,h3⟩:=CC.sW HH.out hV.long HJM.out (by rw[<-HZ.out];omega) HL.out.symm (by rw[<-HZ.out,<-HY.out];exact hyz)
           rw[<-HZ.out] at h1 h2 h3
           refine⟨ns.set j (z+1),⟨lnC_set hV.ints (by rw[hV.long.len];omega) (z+1),h1,hV.round.mono h2,hV.below.setCell (p:=⟨W.heap.size,j,none⟩) (Nat.le_refl _) _⟩,CC.mn HH.out h1 HKL.out (HRow.out.mono h2) (fun _=>?_)⟩
           rw[HJD.out,h3]
           have hni:CC.ln (ns.set j (z+1)) i<=z:=by
            rw[CC.pF (by rw[hV.long.len];omega)]
            by_cases e4:i=j
            ·exfalso
             have h5:=HH.out.no i HIN.out (by
              rcases hV.long.bd i HIN.out with h | h
              ·rw[<-HZ.out] at h;omega
              ·exact h.1) (by rw[e4];exact HL.out.symm)
             exact h5 ⟨j,HJM.out,by rw[e4];exact HH.out.pre.refl j (by omega)⟩
            ·rw[if_neg e4,HZ.out];exact Int.le_refl _
           omega)
          have hcjD:=fun d=>show (w5.drewN d).cell? ⟨W.heap.size,j,none⟩=some (.int .i64 y) from hcj
          have hciD:=fun d=>show (w5.drewN d).cell? ⟨W.heap.size,i,none⟩=some (.int .i64 z) from hci
          have hfjD:=fun d=>show (w5.drewN d).frozen? ⟨W.heap.size,j,none⟩=false from hfj
          go_wp2_with fail
          go_quiet (fail)
          have hA:=hcjD nq
          have hB:=hciD nq
          have hC:=hfjD nq
          have HSQ:=zH (HSD.out nq)
          clear hcj hci hfj hcjD hciD hfjD hc2 hr2 hrc hx1
          generalize w5.drewN nq=w6 at hA hB hC HSQ ⊢
          go_wp2_with fail
          go_roundw
          case rel=>exact⟨q+1,by have:=HQR.out;omega,by go_num,zH (HN.out _ HSQ.out)⟩
          case measure=>have:=HQR.out;simp [intOf];omega
         ·have hd:decide (y<z+1)=false:=decide_eq_false hyz
          have HN:=zH (fun d=>show ∃ns,LongS W (w5.drewN d) to.length (GG.am to) (aB to) main at_ e r i ns/\CC.RowI (GG.am to) (aB to) at_ e r ns i (q+1) from⟨ns,HSD.out d,CC.mn HH.out HS.out.long HKL.out HRow.out (fun h=>by rw[HJD.out,<-HZ.out,<-HY.out];omega)⟩)
          go_wp2_with fail
          go_quiet (fail)
          go_wp2_with fail
          go_roundw
          case rel=>exact⟨q+1,by have:=HQR.out;omega,by go_num,zH (HN.out _)⟩
          case measure=>have:=HQR.out;simp [intOf];omega
      ·have HN:=zH (show ∃ns,LongS W w5 to.length (GG.am to) (aB to) main at_ e r (i+1) ns from⟨ns,HS.out.ints,HS.out.long,CC.mo HS.out.round (by have h:=HRow.out;rwa [show q=(GG.am to i).length by rw[HAL.out];omega] at h),HS.out.below⟩)
       clear hrx hle
       go_wp2_with fail
       go_roundw
       case rel=>exact⟨i+1,by have:=HIN.out;omega,by go_num,HN⟩
       case measure=>have:=HIN.out;simp [intOf];omega
    ·have HN:=zH (show ∃ns,LongS W w4 to.length (GG.am to) (aB to) main at_ e (r+1) 0 ns by
      obtain⟨ns,h⟩:=HQ4.out
      exact⟨ns,h.ints,CC.sX HH.out h.long (by have h1:=h.round;rwa [show i=to.length by omega] at h1),fun p hp=>absurd hp (Nat.not_lt_zero _),h.below⟩)
     clear HQ4
     go_wp2_with fail
     go_roundw
     case rel=>exact⟨r+1,by have:=HRN.out;omega,by go_num,HN⟩
     case measure=>have:=HRN.out;simp [intOf];omega
  ·have HE:=zH (show w3.cell? ⟨W.heap.size,at_,none⟩=some (.int .i64 (e at_))/\Below W.heap.size W w3 by
    obtain⟨ns,h⟩:=HQ.out
    refine⟨?_,h.below⟩
    have h1:=World.rowIs.cell h.ints ha
    rw[CC.long_end HH.out (by have h2:=h.long;rwa [show r=to.length by omega] at h2)] at h1
    exact h1)
   have hce:=HE.out.1
   obtain⟨z,hz⟩:∃z,z=e at_:=⟨_,rfl⟩
   rw[<-hz] at hce
   have HZ:=zH hz
   clear HQ hz
   go_wp2_with fail
   go_ret
   exact⟨by rw[<-HZ.out];rfl,HE.out.2⟩
end
section
open Go.RowKit CC
def cirK(to:List (List Int))(main i k:Nat):Bool:=(List.range k).any fun j=>aB to main j && aB to j i && rcB to j
theorem cirK_succ(to:List (List Int))(main i k:Nat):cirK to main i (k+1)=(cirK to main i k || (aB to main k && aB to k i && rcB to k)):=by
 unfold cirK
 rw[List.range_succ,List.any_append]
 simp
theorem qY{to:List (List Int)}{main i:Nat}:cirK to main i to.length=true↔∃k,k<to.length/\aB to main k=true/\aB to k i=true/\CC.jW (GG.am to) (aB to) k:=by
 unfold cirK
 rw[List.any_eq_true]
 constructor
 ·rintro ⟨k,hk,h⟩
  rw[Bool.and_eq_true,Bool.and_eq_true] at h
  exact⟨k,List.mem_range.1 hk,h.1.1,h.1.2,rcB_iff.1 h.2⟩
 ·rintro ⟨k,hk,h1,h2,h3⟩
  exact⟨k,List.mem_range.2 hk,by rw[h1,h2,rcB_iff.2 h3];rfl⟩
theorem ent_zero{to:List (List Int)}(h:GG.al to=true){main i:Nat}(hm:main<to.length)(hi:i<to.length)(hl:aB to main i=false):aR to main i=0:=(fB h hm i hi).z.2 hl
theorem ent_round{to:List (List Int)}(h:GG.al to=true){main i:Nat}(hm:main<to.length)(hi:i<to.length)(hl:aB to main i=true)(hc:cirK to main i to.length=true):aR to main i = -1:=by
 obtain⟨k,_,h1,h2,h3⟩:=qY.1 hc
 exact(fB h hm i hi).m.2 ⟨hl,k,h1,h2,h3⟩
theorem ent_long{to:List (List Int)}(h:GG.al to=true){main i:Nat}(hm:main<to.length)(hi:i<to.length)(hl:aB to main i=true)(hc:cirK to main i to.length=false):CC.LongH to.length (GG.am to) (aB to) main i (aR to main) :=
 ⟨iE h,qO h,hm,hi,hl,fun x hx=>fB h hm x hx,fun k hk h1 h2 h3=>by
  have:=qY.2 ⟨k,hk,h1,h2,h3⟩
  rw[hc] at this
  cases this⟩
theorem mx(f:Nat->Int)(i:Nat):ap ((List.range (i+1)).map f)=ap ((List.range i).map f) ++ [.int .i64 (f i)]:=by
 simp [ap,List.range_succ]
theorem my{to:List (List Int)}{main:Int}(h:¬(GG.al to=true/\GG.inB to.length main=true)):entL to main=[]:=by unfold entL;rw[if_neg h]
set_option maxRecDepth 100000 in
set_option maxHeartbeats 12800000 in
theorem pK{v:Value}{to:List (List Int)}(main:Int)(W:World)(hv:aq W.heap.size W v to)(hx:cQ to) :
 Calls Tryz.prog 22 #[v,.int .i64 main] W fun e W'=>∃u,e=.returned u/\Row W'.heap.size W' u (entL to main)/\Below W.heap.size W W':=by
 have HV:=zH hv
 have HX:=zH hx
 obtain⟨va,vc,rfl⟩:=hv.form
 clear hv hx
 cases hr:GG.al to
 ·have HR:=zH hr
  have HE:=zH (my (to:=to) (main:=main) (fun h=>by rw[hr] at h;exact absurd h.1 (by decide)))
  clear hr
  go_enter Tryz.func22,Tryz.ntmps22
  go_wp2_with fail
  refine(dJ _ to _ _ HV.out HX.out).mono ?_
  rintro e w1 ⟨rfl,d,e1⟩
  rw[HR.out,e1]
  clear e1
  go_wp2_with fail
  go_ret
  exact⟨_,rfl,by rw[HE.out];exact br _ _ _ _ (fun _=>rfl),(Below.refl _ _).trans ⟨rfl,rfl,rfl,Nat.le_refl _,fun _ _=>rfl⟩⟩
 ·have HR:=zH hr
  have hlen:=GG.aC hr
  by_cases c1:main<0
  ·have HE:=zH (my (to:=to) (main:=main) (fun h=>by have:=of_decide_eq_true h.2;omega))
   have t1:decide (main<0)=true:=decide_eq_true c1
   clear hr
   go_enter Tryz.func22,Tryz.ntmps22
   go_wp2_with fail
   refine(dJ _ to _ _ HV.out HX.out).mono ?_
   rintro e w1 ⟨rfl,d,e1⟩
   rw[HR.out,e1]
   clear e1
   go_wp2_with fail
   go_ret
   exact⟨_,rfl,by rw[HE.out];exact br _ _ _ _ (fun _=>rfl),(Below.refl _ _).trans ⟨rfl,rfl,rfl,Nat.le_refl _,fun _ _=>rfl⟩⟩
  ·have t1:decide (main<0)=false:=decide_eq_false c1
   by_cases c2:(to.length:Int)<=main
   ·have HE:=zH (my (to:=to) (main:=main) (fun h=>by have:=of_decide_eq_true h.2;omega))
    have t2:decide ((to.length:Int)<=main)=true:=decide_eq_true c2
    clear hr
    go_enter Tryz.func22,Tryz.ntmps22
    go_wp2_with fail
    refine(dJ _ to _ _ HV.out HX.out).mono ?_
    rintro e w1 ⟨rfl,d,e1⟩
    rw[HR.out,e1]
    clear e1
    go_wp2_with fail
    go_ret
    exact⟨_,rfl,by rw[HE.out];exact br _ _ _ _ (fun _=>rfl),(Below.refl _ _).trans ⟨rfl,rfl,rfl,Nat.le_refl _,fun _ _=>rfl⟩⟩
   ·have t2:decide ((to.length:Int)<=main)=false:=decide_eq_false c2
    obtain⟨m,rfl⟩:∃m:Nat,main=(m:Int):=⟨main.toNat,by omega⟩
    have hmn:m<to.length:=by omega
    have t3:decide (to.length<=m)=false:=decide_eq_false (by omega)
    have HE:=zH (show entL to (m:Int)=(List.range to.length).map (aR to m) by unfold entL;rw[if_pos ⟨hr,decide_eq_true (by omega)⟩,Int.toNat_natCast])
    have HZ:=zH (fun i (hi:i<to.length)=>ent_zero hr (i:=i) hmn hi)
    have HRO:=zH (fun i (hi:i<to.length)=>ent_round hr (i:=i) hmn hi)
    have HLO:=zH (fun i (hi:i<to.length)=>ent_long hr (i:=i) hmn hi)
    obtain⟨i0,hi0,hy0,hy1,hy2⟩:=info_parts Tryz.infoGInt
    clear hr c1 c2
    go_enter Tryz.func22,Tryz.ntmps22
    go_wp2_with fail
    refine(dJ _ to _ _ HV.out HX.out).mono ?_
    rintro e w1 ⟨rfl,d,e1⟩
    rw[HR.out,e1]
    have HB1:=zH (show Below W.heap.size W (W.drewN d) from(Below.refl _ _).trans ⟨rfl,rfl,rfl,Nat.le_refl _,fun _ _=>rfl⟩)
    clear e1
    generalize W.drewN d=w1 at HB1 ⊢
    go_wp2_with fail
    refine(pJ (to:=to) w1 (HV.out.on HB1.out HB1.out.size) HR.out).mono ?_
    rintro e w2 ⟨bv,rfl,hbt,hb2⟩
    have HBT:=zH hbt
    obtain⟨bb,bf,bc,_,_,_,e0,_⟩:=hbt.at (show 0<to.length by omega) (show 0<to.length by omega)
    subst e0
    have HB2:=zH (HB1.out.trans (hb2.mono HB1.out.size))
    clear hbt hb2
    go_wp2_with fail
    go_loopw [6,7] (fun out k wr=>∃i:Nat,i<=to.length/\k=.int .i64 (i:Int)/\RowKit.Hid (wr.ownsRow w2.heap.size 3 1 out i (ap ((List.range i).map (aR to m)))/\Below w2.heap.size w2 wr)) (fun _ k _=>to.length-(intOf k).toNat)
    case atStart=>exact⟨0,by omega,rfl,zH ⟨World.ownsRow_nil _ _ _ _,Below.refl _ _⟩⟩
    case round =>
     obtain⟨w3,rfl⟩:∃w3,w3=wr:=⟨_,rfl⟩
     obtain⟨i,hi,rfl,HQ⟩:=hrel
     obtain⟨oa,oc,rfl⟩:=CC.iG HQ.out.1
     by_cases hin:i<to.length
     ·have HIN :=zH hin
      have HO:=zH HQ.out.1
      have HB3:=zH HQ.out.2
      have HT3:=zH (HBT.out.below HB3.out)
      have HBW:=zH (HB2.out.trans (HB3.out.mono HB2.out.size))
      clear HQ
      obtain⟨tb,tf,tc,rb,rf,rc,e3,hr3,hc3⟩:=HT3.out.at hmn hin
      cases e3
      have j1:(0:Int)<=m/\(m:Int)<to.length:=by omega
      have j2:(0:Int)<=i/\(i:Int)<to.length:=by omega
      have HNX:=zH (fun(V:World) (hV:Below w2.heap.size w2 V) (hO:V.ownsRow w2.heap.size 3 1 (.slice oa i oc) i (ap ((List.range i).map (aR to m)))) (Z:World) (v1:Value) (ho:Z.ownsRow w2.heap.size 3 1 v1 (i+1) (ap ((List.range i).map (aR to m)) ++ [.int .i64 (aR to m i)])) (hg:(V.alloc (.cells #[.int .i64 (aR to m i)] 3)).grownBy Z (Value.slice oa i oc).ownBlock)=>show Z.ownsRow w2.heap.size 3 1 v1 (i+1) (ap ((List.range (i+1)).map (aR to m)))/\Below w2.heap.size w2 Z from⟨by rw[mx];exact ho,(hV.alloc hV.size _).grown hg (by have:=hV.size;simp;omega) (fun k e=>(hO.lt k e).1)⟩)
      obtain⟨l,hl⟩:∃l,l=aB to m i:=⟨_,rfl⟩
      rw[<-hl] at hc3
      have HL:=zH hl
      clear hl
      cases l
      ·have HEI:=zH (HZ.out i HIN.out HL.out.symm)
       have hz0:((0:Int) == 0)=true:=rfl
       obtain⟨x,hx⟩:∃x,x=aR to m i:=⟨_,rfl⟩
       rw[<-hx] at HEI HNX
       have hx0:x=0:=HEI.out
       subst hx0
       clear hx
       go_wp2_with (at_builtin
                    refine GG.wpList_append_any rfl _ _ 54 rfl w2.heap.size 3 i0 (.int .i64 0) 1 8 Tryz.underlying54 hi0 hy0 hy1 hy2 rfl (by decide) (.slice oa i oc) i (ap ((List.range i).map (aR to m))) rfl (HO.out.alloc _) (.slice (some ⟨w3.heap.size,0,none⟩) 1 1) 1 [.int .i64 0] rfl rfl (.inr ⟨_,_,rfl,GG.aW _ _ _⟩) (by intro u hu;rw[List.mem_singleton.1 hu];rfl) (by unfold maxLen;omega) (by omega) (by have:=HB3.out.size;simp;omega) ?_
                    intro v1 w9 ho hg
                    have HN9:=zH (HNX.out w3 HB3.out HO.out w9 v1 ho hg)
                    clear ho hg)
       go_roundw
       case rel=>exact⟨i+1,by have:=HIN.out;omega,by go_num,HN9⟩
       case measure=>have:=HIN.out;simp [intOf];omega
      ·go_wp2_with fail
       clear hr3 hc3
       go_loopw [8,9] (fun nv k wr=>∃q:Nat,q<=to.length/\k=.int .i64 (q:Int)/\w3=wr/\∃t:Int,nv=.int .i64 t/\RowKit.Hid (t=if cirK to m i q=true then -1 else 0)) (fun _ k _=>to.length-(intOf k).toNat)
       case atStart=>exact⟨0,by omega,rfl,rfl,0,rfl,zH (by simp [cirK])⟩
       case round =>
        obtain⟨q,hq,rfl,rfl,t,rfl,HT⟩:=hrel
        by_cases hqn:q<to.length
        ·have HQN:=zH hqn
         obtain⟨tb1,tf1,tc1,rb1,rf1,rc1,e1,hr1,hc1⟩:=HT3.out.at hmn hqn
         cases e1
         obtain⟨tb2,tf2,tc2,rb2,rf2,rc2,e2,hr2,hc2⟩:=HT3.out.at hqn HIN.out
         cases e2
         have j3:(0:Int)<=q/\(q:Int)<to.length:=by omega
         have HSU:=zH (cirK_succ to m i q)
         obtain⟨z1,hz1⟩:∃z1,z1=aB to m q:=⟨_,rfl⟩
         obtain⟨z2,hz2⟩:∃z2,z2=aB to q i:=⟨_,rfl⟩
         rw[<-hz1] at hc1
         rw[<-hz2] at hc2
         cases z1
         ·have HN:=zH (show t=if cirK to m i (q+1)=true then -1 else 0 by rw[HSU.out,<-hz1];simp only[Bool.false_and,Bool.or_false];exact HT.out)
          clear hz1 hz2
          go_wp2_with fail
          go_roundw
          case rel=>exact⟨q+1,by have:=HQN.out;omega,by go_num,by first | rfl | trivial,t,rfl,HN⟩
          case measure=>have:=HQN.out;simp [intOf];omega
         ·cases z2
          ·have HN:=zH (show t=if cirK to m i (q+1)=true then -1 else 0 by rw[HSU.out,<-hz2];simp only[Bool.and_false,Bool.false_and,Bool.or_false];exact HT.out)
           clear hz1 hz2
           go_wp2_with fail
           go_roundw
           case rel=>exact⟨q+1,by have:=HQN.out;omega,by go_num,by first | rfl | trivial,t,rfl,HN⟩
           case measure=>have:=HQN.out;simp [intOf];omega
          ·obtain⟨z3,hz3⟩:∃z3,z3=rcB to q:=⟨_,rfl⟩
           have HZ3:=zH hz3.symm
           cases z3
           ·have HN:=zH (show t=if cirK to m i (q+1)=true then -1 else 0 by rw[HSU.out,<-hz3];simp only[Bool.and_false,Bool.or_false];exact HT.out)
            clear hz1 hz2 hz3
            go_wp2_with (go_at_call 49;refine(lm (n₀:=w2.heap.size) q w3 ((HV.out.on HB2.out HB2.out.size).below HB3.out) HT3.out HR.out HQN.out).mono ?_;rintro e w' ⟨rfl,e8⟩;rw[e8,HZ3.out];clear e8)
            go_roundw
            case rel=>exact⟨q+1,by have:=HQN.out;omega,by go_num,by first | rfl | trivial,t,rfl,HN⟩
            case measure=>have:=HQN.out;simp [intOf];omega
           ·have HN:=zH (show (-1:Int)=if cirK to m i (q+1)=true then -1 else 0 by rw[HSU.out,<-hz1,<-hz2,<-hz3];simp)
            clear hz1 hz2 hz3
            go_wp2_with (go_at_call 49;refine(lm (n₀:=w2.heap.size) q w3 ((HV.out.on HB2.out HB2.out.size).below HB3.out) HT3.out HR.out HQN.out).mono ?_;rintro e w' ⟨rfl,e8⟩;rw[e8,HZ3.out];clear e8)
            go_roundw
            case rel=>exact⟨q+1,by have:=HQN.out;omega,by go_num,by first | rfl | trivial,-1,rfl,HN⟩
            case measure=>have:=HQN.out;simp [intOf];omega
        ·have HQE:=zH (show q=to.length by omega)
         cases hck:cirK to m i to.length
         ·have HT0:=zH (show t=0 by have h:=HT.out;rw[HQE.out,hck] at h;exact h)
          have HLH:=zH (HLO.out i HIN.out HL.out.symm hck)
          have ht:=HT0.out
          subst ht
          clear hck HT
          obtain⟨x,hx⟩:∃x,x=aR to m i:=⟨_,rfl⟩
          have HXX:=zH hx
          rw[<-hx] at HNX
          clear hx
          go_wp2_with fail
          refine(rlong_any (n₀:=w2.heap.size) w3 ((HV.out.on HB2.out HB2.out.size).below HB3.out) HT3.out HB3.out.size HR.out HLH.out).mono ?_
          rintro e w4 ⟨rfl,hb4⟩
          rw[<-HXX.out]
          have HB4:=zH (HB3.out.trans (hb4.mono HB3.out.size))
          have HO4:=zH (show w4.ownsRow w2.heap.size 3 1 (.slice oa i oc) i (ap ((List.range i).map (aR to m))) from own_of_block HO.out (fun k e=>hb4.block _ (HO.out.lt k e).2))
          clear hb4
          go_wp2_with (at_builtin
                       refine GG.wpList_append_any rfl _ _ 54 rfl w2.heap.size 3 i0 (.int .i64 0) 1 8 Tryz.underlying54 hi0 hy0 hy1 hy2 rfl (by decide) (.slice oa i oc) i (ap ((List.range i).map (aR to m))) rfl (HO4.out.alloc _) (.slice (some ⟨w4.heap.size,0,none⟩) 1 1) 1 [.int .i64 x] rfl rfl (.inr ⟨_,_,rfl,GG.aW _ _ _⟩) (by intro u hu;rw[List.mem_singleton.1 hu];rfl) (by unfold maxLen;omega) (by omega) (by have:=HB4.out.size;simp;omega) ?_
                       intro v1 w9 ho hg
                       have HN9:=zH (HNX.out w4 HB4.out HO4.out w9 v1 ho hg)
                       clear ho hg)
          go_roundw
          case rel=>exact⟨i+1,by have:=HIN.out;omega,by go_num,HN9⟩
          case measure=>have:=HIN.out;simp [intOf];omega
         ·have HT0:=zH (show t = -1 by have h:=HT.out;rw[HQE.out,hck] at h;exact h)
          have HEI:=zH (HRO.out i HIN.out HL.out.symm hck)
          have ht:=HT0.out
          subst ht
          clear hck HT
          obtain⟨x,hx⟩:∃x,x=aR to m i:=⟨_,rfl⟩
          rw[<-hx] at HEI HNX
          have hx0:x = -1:=HEI.out
          subst hx0
          clear hx
          go_wp2_with (at_builtin
                       refine GG.wpList_append_any rfl _ _ 54 rfl w2.heap.size 3 i0 (.int .i64 0) 1 8 Tryz.underlying54 hi0 hy0 hy1 hy2 rfl (by decide) (.slice oa i oc) i (ap ((List.range i).map (aR to m))) rfl (HO.out.alloc _) (.slice (some ⟨w3.heap.size,0,none⟩) 1 1) 1 [.int .i64 (-1)] rfl rfl (.inr ⟨_,_,rfl,GG.aW _ _ _⟩) (by intro u hu;rw[List.mem_singleton.1 hu];rfl) (by unfold maxLen;omega) (by omega) (by have:=HB3.out.size;simp;omega) ?_
                       intro v1 w9 ho hg
                       have HN9:=zH (HNX.out w3 HB3.out HO.out w9 v1 ho hg)
                       clear ho hg)
          go_roundw
          case rel=>exact⟨i+1,by have:=HIN.out;omega,by go_num,HN9⟩
          case measure=>have:=HIN.out;simp [intOf];omega
     ·have HF:=zH (show w3.ownsRow w2.heap.size 3 1 (.slice oa i oc) to.length (ap ((List.range to.length).map (aR to m))) by have h:=HQ.out.1;rwa [show i=to.length by omega] at h ⊢)
      have HBF:=zH (HB2.out.trans (HQ.out.2.mono HB2.out.size))
      clear HQ
      go_wp2_with fail
      go_ret
      exact⟨_,rfl,by rw[HE.out];exact aS HF.out,HBF.out⟩
end
section
open Go.RowKit
def Strs(n₀:Nat)(W:World)(v:Value)(ss:List ByteArray):Prop :=
 ((∃a cap,v=.slice a 0 cap/\(a=none->cap=0))/\ss=[])∨∃b off cap,v=.slice (some ⟨b,off,none⟩) ss.length cap/\b<n₀/\ss.length<=cap/\∀j,j<ss.length->W.cell? ⟨b,off+j,none⟩=some (.string (ss[j]?.getD ⟨#[]⟩))
theorem Strs.below{n₀:Nat}{A B:World}(h:Below n₀ A B){v:Value}{ss:List ByteArray}:Strs n₀ A v ss->Strs n₀ B v ss
 | .inl e=>.inl e
 | .inr ⟨b,off,cap,e,hb,hl,hc⟩=>.inr ⟨b,off,cap,e,hb,hl,fun j hj=>(h.cell (p:=⟨b,off+j,none⟩) hb).trans (hc j hj)⟩
theorem Strs.mono{n n':Nat}(h:n<=n'){A:World}{v:Value}{ss:List ByteArray}:Strs n A v ss->Strs n' A v ss
 | .inl e=>.inl e
 | .inr ⟨b,off,cap,e,hb,hl,hc⟩=>.inr ⟨b,off,cap,e,by omega,hl,hc⟩
theorem Strs.form{n₀:Nat}{A:World}{v:Value}{ss:List ByteArray}(h:Strs n₀ A v ss):∃a cap,v=.slice a ss.length cap:=by
 rcases h with⟨⟨_,_,rfl,_⟩,rfl⟩ | ⟨b,off,cap,rfl,_⟩
 ·exact⟨_,_,rfl⟩
 ·exact⟨_,_,rfl⟩
def cT(n₀:Nat)(W:World)(v:Value)(cs:List (ByteArray × Int)):Prop :=
 ((∃a cap,v=.slice a 0 cap/\(a=none->cap=0))/\cs=[])∨∃b off cap,v=.slice (some ⟨b,off,none⟩) cs.length cap/\b<n₀/\cs.length<=cap/\∀j,j<cs.length->W.cell? ⟨b,off+j*2,none⟩=some (.string (cs[j]?.getD (⟨#[]⟩,0)).1)/\W.cell? ⟨b,off+j*2+1,none⟩=some (.int .i64 (cs[j]?.getD (⟨#[]⟩,0)).2)
theorem cT.below{n₀:Nat}{A B:World}(h:Below n₀ A B){v:Value}{cs:List (ByteArray × Int)}:cT n₀ A v cs->cT n₀ B v cs
 | .inl e=>.inl e
 | .inr ⟨b,off,cap,e,hb,hl,hc⟩=>.inr ⟨b,off,cap,e,hb,hl,fun j hj=>⟨(h.cell (p:=⟨b,off+j*2,none⟩) hb).trans (hc j hj).1,(h.cell (p:=⟨b,off+j*2+1,none⟩) hb).trans (hc j hj).2⟩⟩
theorem cT.mono{n n':Nat}(h:n<=n'){A:World}{v:Value}{cs:List (ByteArray × Int)}:cT n A v cs->cT n' A v cs
 | .inl e=>.inl e
 | .inr ⟨b,off,cap,e,hb,hl,hc⟩=>.inr ⟨b,off,cap,e,by omega,hl,hc⟩
theorem cT.form{n₀:Nat}{A:World}{v:Value}{cs:List (ByteArray × Int)}(h:cT n₀ A v cs):∃a cap,v=.slice a cs.length cap:=by
 rcases h with⟨⟨_,_,rfl,_⟩,rfl⟩ | ⟨b,off,cap,rfl,_⟩
 ·exact⟨_,_,rfl⟩
 ·exact⟨_,_,rfl⟩
def bU(p:Nat->Bool):Nat->Nat->Int
 | 0,_=>-1
 | f+1,k=>if p k=true then (k:Int) else bU p f (k+1)
def eO(ss:List ByteArray)(s:ByteArray)(k:Nat):Bool:=(ss[k]?.getD ⟨#[]⟩).toList == s.toList
def ke(cs:List (ByteArray × Int))(s:ByteArray)(k:Nat):Bool:=(cs[k]?.getD (⟨#[]⟩,0)).1.toList == s.toList
def be(ss:List ByteArray)(s:ByteArray):Int:=bU (eO ss s) ss.length 0
def iH(cs:List (ByteArray × Int))(s:ByteArray):Int:=bU (ke cs s) cs.length 0
end
section
open Go.RowKit
theorem pol_block(w:World)(v u1 u2 u3 u4:Value)(t:TypeId):(w.alloc (.cells #[v,u1,u2,u3,u4] t)).cell? ⟨w.heap.size,0,none⟩=some v/\(w.alloc (.cells #[v,u1,u2,u3,u4] t)).cell? ⟨w.heap.size,1,none⟩=some u1 /\
 (w.alloc (.cells #[v,u1,u2,u3,u4] t)).cell? ⟨w.heap.size,2,none⟩=some u2/\(w.alloc (.cells #[v,u1,u2,u3,u4] t)).cell? ⟨w.heap.size,3,none⟩=some u3/\(w.alloc (.cells #[v,u1,u2,u3,u4] t)).cell? ⟨w.heap.size,4,none⟩=some u4:=by
 have e:(w.alloc (.cells #[v,u1,u2,u3,u4] t)).heap[w.heap.size]?=some (.cells #[v,u1,u2,u3,u4] t):=by show (w.heap.push _)[w.heap.size]?=_;simp
 refine⟨?_,?_,?_,?_,?_⟩ <;> (simp only[World.cell?,e];rfl)
set_option maxRecDepth 100000 in
set_option maxHeartbeats 1600000 in
theorem mz(v u1 u2 u3 u4:Value)(ss:List ByteArray)(s:ByteArray)(n:Nat)(w:World)(hn:n<=w.heap.size)(hv:Strs n w v ss)(hx:ss.length<=9223372036854775807) :
 Calls Tryz.prog 109 #[.agg #[v,u1,u2,u3,u4],.string s] w fun e w'=>e=.returned (.int .i64 (be ss s))/\Below w.heap.size w w':=by
 obtain⟨a,cap,rfl⟩:=hv.form
 have hB:Below w.heap.size w (w.alloc (.cells #[.slice a ss.length cap,u1,u2,u3,u4] 26)):=(Below.refl _ _).alloc (Nat.le_refl _) _
 have hb:=(pol_block w (.slice a ss.length cap) u1 u2 u3 u4 26).1
 have hV:=(hv.mono hn).below hB
 have HV:=zH hV
 have HB:=zH hB
 clear hv hV hB
 go_enter Tryz.func109,Tryz.ntmps109
 go_wp2_with fail
 generalize w.alloc (.cells #[.slice a ss.length cap,u1,u2,u3,u4] 26)=W at hb HV HB
 go_loop [5] (fun k=>∃j:Nat,j<=ss.length/\k=.int .i64 (j:Int)/\RowKit.Hid (be ss s=bU (eO ss s) (ss.length-j) j)) (fun k=>ss.length-(intOf k).toNat)
 case atStart=>exact⟨0,Nat.zero_le _,rfl,rfl⟩
 case round =>
  obtain⟨j,hj,rfl,HP⟩:=hrel
  by_cases hlt:j<ss.length
  ·have hs:∃b off,a=some ⟨b,off,none⟩/\W.cell? ⟨b,off+j,none⟩=some (.string (ss[j]?.getD ⟨#[]⟩)):=by
    rcases HV.out with⟨_,h⟩ | ⟨b,off,cap',he,_,_,hc⟩
    ·rw[h] at hlt;exact absurd hlt (by simp)
    ·injection he with h1 h2 h3
     exact⟨b,off,h1,hc j hlt⟩
   obtain⟨b,off,rfl,hc⟩:=hs
   have ht':eO ss s j=((ss[j]?.getD ⟨#[]⟩).toList == s.toList):=rfl
   generalize ss[j]?.getD ⟨#[]⟩=q at hc ht'
   cases ht:(q.toList == s.toList)
   ·have HN:=zH (show be ss s=bU (eO ss s) (ss.length-(j+1)) (j+1) by
     rw[HP.out,show ss.length-j=(ss.length-(j+1))+1 by omega];simp only[bU];rw[if_neg (by rw[ht',ht];decide)])
    clear ht'
    go_wp2_with fail
    go_round
    case rel=>exact⟨j+1,by omega,by go_num,HN⟩
    case measure=>simp [intOf];omega
   ·have HN:=zH (show be ss s=(j:Int) by
     rw[HP.out,show ss.length-j=(ss.length-(j+1))+1 by omega];simp only[bU];rw[if_pos (by rw[ht',ht])])
    clear ht'
    go_wp2_with fail
    go_ret
    exact⟨by rw[HN.out];rfl,HB.out⟩
  ·obtain rfl:j=ss.length:=by omega
   go_wp2_with fail
   go_ret
   exact⟨by rw[HP.out,Nat.sub_self];rfl,HB.out⟩
set_option maxRecDepth 100000 in
set_option maxHeartbeats 1600000 in
theorem jd(v:Value)(ss:List (ByteArray × Int))(s:ByteArray)(n:Nat)(w:World)(hn:n<=w.heap.size)(hv:cT n w v ss)(hx:ss.length<=9223372036854775807) :
 Calls Tryz.prog 164 #[v,.string s] w fun e w'=>e=.returned (.int .i64 (iH ss s))/\Below w.heap.size w w':=by
 obtain⟨a,cap,rfl⟩:=hv.form
 have HV:=zH hv
 clear hv
 go_enter Tryz.func164,Tryz.ntmps164
 go_wp2_with fail
 go_loop [5] (fun k=>∃j:Nat,j<=ss.length/\k=.int .i64 (j:Int)/\RowKit.Hid (iH ss s=bU (ke ss s) (ss.length-j) j)) (fun k=>ss.length-(intOf k).toNat)
 case atStart=>exact⟨0,Nat.zero_le _,rfl,rfl⟩
 case round =>
  obtain⟨j,hj,rfl,HP⟩:=hrel
  by_cases hlt:j<ss.length
  ·have hs:∃b off,a=some ⟨b,off,none⟩/\w.cell? ⟨b,off+j*2,none⟩=some (.string (ss[j]?.getD (⟨#[]⟩,0)).1):=by
    rcases HV.out with⟨_,h⟩ | ⟨b,off,cap',he,_,_,hc⟩
    ·rw[h] at hlt;exact absurd hlt (by simp)
    ·injection he with h1 h2 h3
     exact⟨b,off,h1,(hc j hlt).1⟩
   obtain⟨b,off,rfl,hc⟩:=hs
   have ht':ke ss s j=((ss[j]?.getD (⟨#[]⟩,0)).1.toList == s.toList):=rfl
   generalize (ss[j]?.getD (⟨#[]⟩,0)).1=q at hc ht'
   cases ht:(q.toList == s.toList)
   ·have HN:=zH (show iH ss s=bU (ke ss s) (ss.length-(j+1)) (j+1) by
     rw[HP.out,show ss.length-j=(ss.length-(j+1))+1 by omega];simp only[bU];rw[if_neg (by rw[ht',ht];decide)])
    clear ht'
    go_wp2_with fail
    go_round
    case rel=>exact⟨j+1,by omega,by go_num,HN⟩
    case measure=>simp [intOf];omega
   ·have HN:=zH (show iH ss s=(j:Int) by
     rw[HP.out,show ss.length-j=(ss.length-(j+1))+1 by omega];simp only[bU];rw[if_pos (by rw[ht',ht])])
    clear ht'
    go_wp2_with fail
    go_ret
    exact⟨by rw[HN.out];rfl,Below.refl _ _⟩
  ·obtain rfl:j=ss.length:=by omega
   go_wp2_with fail
   go_ret
   exact⟨by rw[HP.out,Nat.sub_self];rfl,Below.refl _ _⟩
end
section
open Go.RowKit
set_option maxRecDepth 100000 in
set_option maxHeartbeats 1600000 in
theorem index_q(v:Value)(ss:List ByteArray)(s:ByteArray)(n:Nat)(w:World)(hv:Strs n w v ss)(hx:ss.length<=9223372036854775807) :
 Calls Tryz.prog 175 #[v,.string s] w fun e w'=>e=.returned (.int .i64 (be ss s))/\w'=w:=by
 obtain⟨a,cap,rfl⟩:=hv.form
 have HV:=zH hv
 clear hv
 go_enter Tryz.func175,Tryz.ntmps175
 go_wp2_with fail
 go_loop [8] (fun k=>∃j:Nat,j<=ss.length/\k=.int .i64 (j:Int)/\RowKit.Hid (be ss s=bU (eO ss s) (ss.length-j) j)) (fun k=>ss.length-(intOf k).toNat)
 case atStart=>exact⟨0,Nat.zero_le _,rfl,rfl⟩
 case round =>
  obtain⟨j,hj,rfl,HP⟩:=hrel
  by_cases hlt:j<ss.length
  ·have hs:∃b off,a=some ⟨b,off,none⟩/\w.cell? ⟨b,off+j,none⟩=some (.string (ss[j]?.getD ⟨#[]⟩)):=by
    rcases HV.out with⟨_,h⟩ | ⟨b,off,cap',he,_,_,hc⟩
    ·rw[h] at hlt;exact absurd hlt (by simp)
    ·injection he with h1 h2 h3
     exact⟨b,off,h1,hc j hlt⟩
   obtain⟨b,off,rfl,hc⟩:=hs
   have ht':eO ss s j=(s.toList == (ss[j]?.getD ⟨#[]⟩).toList):=by unfold eO;rw[Bool.eq_iff_iff,beq_iff_eq,beq_iff_eq];exact eq_comm
   generalize ss[j]?.getD ⟨#[]⟩=q at hc ht'
   cases ht:(s.toList == q.toList)
   ·have HN:=zH (show be ss s=bU (eO ss s) (ss.length-(j+1)) (j+1) by
     rw[HP.out,show ss.length-j=(ss.length-(j+1))+1 by omega];simp only[bU];rw[if_neg (by rw[ht',ht];decide)])
    clear ht'
    go_wp2_with fail
    go_round
    case rel=>exact⟨j+1,by omega,by go_num,HN⟩
    case measure=>simp [intOf];omega
   ·have HN:=zH (show be ss s=(j:Int) by
     rw[HP.out,show ss.length-j=(ss.length-(j+1))+1 by omega];simp only[bU];rw[if_pos (by rw[ht',ht])])
    clear ht'
    go_wp2_with fail
    go_ret
    exact⟨by rw[HN.out];rfl,rfl⟩
  ·obtain rfl:j=ss.length:=by omega
   go_wp2_with fail
   go_ret
   exact⟨by rw[HP.out,Nat.sub_self];rfl,rfl⟩
def fI(i:Int):Int:=if i<0 then 0 else i
theorem nZ(p:Nat->Bool):∀f k,bU p f k = -1∨∃j:Nat,k<=j/\j<k+f/\p j=true/\bU p f k=(j:Int)
 | 0,_=>.inl rfl
 | f+1,k=>by
   unfold bU
   by_cases h:p k=true
   ·rw[if_pos h];exact .inr ⟨k,Nat.le_refl _,by omega,h,rfl⟩
   ·rw[if_neg h]
    rcases nZ p f (k+1) with h1 | ⟨j,h1,h2,h3,h4⟩
    ·exact .inl h1
    ·exact .inr ⟨j,by omega,by omega,h3,h4⟩
end
section
open Go.RowKit
section
variable {P:Program} {w:World}
theorem wpList_append_any{ops:Array Oper}{rest:List Oper}{o:Oper}{a:Act}{Q:Exit->Act->World->Prop}(hgd:o.guard=none)(s x:Operand)(t:TypeId)
 (ho:o.op=.call { callee:=.builtin .append,args:=#[s,x],argTypes:=#[t,t] })
 (base:Nat) (e:TypeId) (i:TypeInfo) (z:Value) (size bytes:Nat) (ht:P.underlying t=some (.slice e)) (hi:P.info? e=some i) (hz:i.zero=some z)
 (hsize:i.size=size) (hby:i.bytes=bytes) (hzs:z.cells.size=size) (hsz:0<size)
 (v:Value) (n:Nat) (xs:List Value) (hs:a.eval s=v) (hown:w.ownsRow base e size v n xs)
 (xv:Value) (m:Nat) (news:List Value) (hx:a.eval x=xv) (hl:news.length=m*size)
 (hsrc:xv=.slice none 0 0/\m=0∨∃ad c,xv=.slice (some ad) m c/\∀j u,news[j]?=some u->w.cell? (ad.add j)=some u) (h1:∀u∈news,u.oneCell'=true)
 (h63:n+m<=maxLen) (hbytes:(n+m)*bytes<=140737488355328) (hbase:base<=w.heap.size)
 (h:∀v' w',w'.ownsRow base e size v' (n+m) (xs ++ news)->w.grownBy w' v.ownBlock->wpList P ops Q rest (a.put o.dst v') w') :
 wpList P ops Q (o :: rest) a w:=by
 rcases hsrc with⟨rfl,rfl⟩ | ⟨ad,c,rfl,hn⟩
 ·have hn:news=[]:=List.eq_nil_of_length_eq_zero (by simpa using hl)
  subst hn
  have hr:=run_append_owned_none (P:=P) (w:=w) base t o.type e i size ht hi v n xs hown
  refine wpList_plain hgd fun K hK=>?_
  unfold Oper.wp execOp
  simp only[ho,resolve,invoke,builtin,Sem.run_bind,Sem.run_pure,Result.andThen_ok,List.map_toArray,List.map_cons,List.map_nil,hs,hx,hr]
  exact hK _ _ (h v w (by simpa using hown) ⟨rfl,rfl,rfl,Nat.le_refl _,fun _ _ _=>rfl⟩)
 ·exact wpList_append_own w hgd s x t ho base e i z size bytes ht hi hz hsize hby hzs hsz v n xs hs hown ad m c news hx hl hn h1 h63 hbytes hbase (fun v' w' p1 p2 _=>h v' w' p1 p2)
end
theorem Strs.src{n₀:Nat}{W:World}{v:Value}{ss:List ByteArray}(h:Strs n₀ W v ss) :
 v=.slice none 0 0/\ss.length=0∨∃ad c,v=.slice (some ad) ss.length c/\∀j u,(ss.map Value.string)[j]?=some u->W.cell? (ad.add j)=some u:=by
 rcases h with⟨⟨a,cap,rfl,hn⟩,rfl⟩ | ⟨b,off,cap,rfl,_,_,hc⟩
 ·cases a with
  | none=>rw[hn rfl];exact .inl ⟨rfl,rfl⟩
  | some x=>exact .inr ⟨x,cap,rfl,fun j u hj=>by simp at hj⟩
 ·refine .inr ⟨_,cap,rfl,fun j u hj=>?_⟩
  rw[List.getElem?_map] at hj
  cases hj':ss[j]? with
  | none=>rw[hj'] at hj;cases hj
  | some q =>
    rw[hj'] at hj
    obtain⟨hl,_⟩:=List.getElem?_eq_some_iff.1 hj'
    have:=hc j hl
    rw[hj'] at this
    rw[Addr.add_lit]
    exact this.trans (by simpa using hj)
theorem iI{W:World}{base:Nat}{e:TypeId}{v:Value}{l:List ByteArray}(h:W.ownsRow base e 1 v l.length (l.map Value.string)):Strs W.heap.size W v l:=by
 have hlt:=h.lt
 obtain⟨_,⟨rfl,h0⟩ | ⟨g,cap,cur,rfl,hb,hg,hn,hm,hs,hx⟩⟩:=h
 ·exact .inl ⟨⟨_,_,rfl,fun _=>rfl⟩,List.length_eq_zero_iff.1 h0⟩
 ·refine .inr ⟨g,0,cap,rfl,(hlt g rfl).2,hn,fun j hj=>?_⟩
  have hx':cur.toList[j]?=some (.string (l[j]?.getD ⟨#[]⟩)):=by
   have:(cur.toList.take (l.length*1))[j]?=(l.map Value.string)[j]?:=by rw[hx]
   rw[List.getElem?_take_of_lt (by omega),List.getElem?_map] at this
   rw[this,List.getElem?_eq_getElem hj];rfl
  simp only[World.cell?,hg,Nat.zero_add]
  simpa using hx'
def di(cs:List (ByteArray × Int)):List Value:=cs.flatMap fun p=>[.string p.1,.int .i64 p.2]
theorem jx(cs:List (ByteArray × Int)):(di cs).length=cs.length*2:=by
 unfold di
 induction cs with
 | nil=>rfl
 | cons p cs ih=>simp [List.flatMap_cons] at ih ⊢;omega
theorem mA(cs:List (ByteArray × Int))(q:Nat):(di cs)[q*2]?=cs[q]?.map (fun p=>Value.string p.1)/\(di cs)[q*2+1]?=cs[q]?.map (fun p=>Value.int .i64 p.2):=by
 unfold di
 induction cs generalizing q with
 | nil=>simp
 | cons p cs ih =>
   cases q with
   | zero=>simp [List.flatMap_cons]
   | succ q =>
     have:=ih q
     rw[show (q+1)*2=q*2+1+1 by omega]
     simpa [List.flatMap_cons] using this
theorem mB(cs:List (ByteArray × Int)):∀u∈di cs,u.oneCell'=true:=by
 intro u hu
 unfold di at hu
 obtain⟨p,_,h⟩:=List.mem_flatMap.1 hu
 simp only[List.mem_cons,List.mem_nil_iff,or_false] at h
 rcases h with rfl | rfl <;> rfl
theorem cellsC_at(cs:List (ByteArray × Int)){j:Nat}{u:Value}(h:(di cs)[j]?=some u):∃q,q<cs.length/\(j=q*2/\u=.string (cs[q]?.getD (⟨#[]⟩,0)).1∨j=q*2+1/\u=.int .i64 (cs[q]?.getD (⟨#[]⟩,0)).2):=by
 have hl:=jx cs
 have hj:j<cs.length*2:=by
  apply Classical.byContradiction;intro hn
  rw[List.getElem?_eq_none (by omega)] at h;cases h
 have hg:=mA cs (j / 2)
 have hq:j / 2<cs.length:=by omega
 rw[List.getElem?_eq_getElem hq] at hg
 refine⟨j / 2,hq,?_⟩
 rw[List.getElem?_eq_getElem hq]
 rcases Nat.mod_two_eq_zero_or_one j with e | e
 ·have e2:j / 2*2=j:=by omega
  rw[e2,h] at hg
  exact .inl ⟨e2.symm,by simpa using hg.1⟩
 ·have e2:j / 2*2+1=j:=by omega
  rw[e2,h] at hg
  exact .inr ⟨e2.symm,by simpa using hg.2⟩
theorem cT.src{n₀:Nat}{W:World}{v:Value}{cs:List (ByteArray × Int)}(h:cT n₀ W v cs) :
 v=.slice none 0 0/\cs.length=0∨∃ad c,v=.slice (some ad) cs.length c/\∀j u,(di cs)[j]?=some u->W.cell? (ad.add j)=some u:=by
 rcases h with⟨⟨a,cap,rfl,hn⟩,rfl⟩ | ⟨b,off,cap,rfl,_,_,hc⟩
 ·cases a with
  | none=>rw[hn rfl];exact .inl ⟨rfl,rfl⟩
  | some x=>exact .inr ⟨x,cap,rfl,fun j u hj=>by simp [di] at hj⟩
 ·refine .inr ⟨_,cap,rfl,fun j u hj=>?_⟩
  rw[Addr.add_lit]
  obtain⟨q,hq,⟨rfl,rfl⟩ | ⟨rfl,rfl⟩⟩:=cellsC_at cs hj
  ·exact(hc q hq).1
  ·have:=(hc q hq).2
   rw[Nat.add_assoc] at this
   exact this
theorem fC{W:World}{base:Nat}{e:TypeId}{v:Value}{l:List (ByteArray × Int)}(h:W.ownsRow base e 2 v l.length (di l)):cT W.heap.size W v l:=by
 have hlt:=h.lt
 obtain⟨_,⟨rfl,h0⟩ | ⟨g,cap,cur,rfl,hb,hg,hn,hm,hs,hx⟩⟩:=h
 ·exact .inl ⟨⟨_,_,rfl,fun _=>rfl⟩,List.length_eq_zero_iff.1 h0⟩
 ·refine .inr ⟨g,0,cap,rfl,(hlt g rfl).2,hn,fun j hj=>?_⟩
  have hg2:=mA l j
  rw[List.getElem?_eq_getElem hj] at hg2
  have t1:(cur.toList.take (l.length*2))[j*2]?=(di l)[j*2]?:=by rw[hx]
  have t2:(cur.toList.take (l.length*2))[j*2+1]?=(di l)[j*2+1]?:=by rw[hx]
  rw[List.getElem?_take_of_lt (by omega),hg2.1] at t1
  rw[List.getElem?_take_of_lt (by omega),hg2.2] at t2
  rw[List.getElem?_eq_getElem hj]
  simp only[World.cell?,hg,Nat.zero_add]
  exact⟨by simpa using t1,by simpa using t2⟩
end
section
open Go.RowKit
theorem Tryz.infoStr6:(Tryz.prog.info? 9).map (fun i=>(i.zero,i.size,i.bytes))=some (some (.string ⟨#[]⟩),1,16):=by kernel_rfl
theorem Tryz.infoU646:(Tryz.prog.info? 178).map (fun i=>(i.zero,i.size,i.bytes))=some (some (.int .u64 0),1,8):=by kernel_rfl
theorem Tryz.infoChan6:(Tryz.prog.info? 196).map (fun i=>(i.zero,i.size,i.bytes))=some (some (.agg #[.string ⟨#[]⟩,.int .i64 0]),2,24):=by kernel_rfl
theorem kf{base e size b:Nat}(W:World)(hb:base<=W.heap.size)(hs:0<size)(h:W.heap.size=b):(W.alloc (.cells #[] e)).ownsRow base e size (.slice (some ⟨b,0,none⟩) 0 0) 0 []:=by
 subst h
 have:=World.ownsRow_lit (base:=base) (e:=e) (size:=size) W #[] 0 hb (by unfold maxLen;omega) (by simp)
 simpa using this
theorem dj{W:World}{g:Nat}{v0 v1 v2 v3 v4:Value}{t:TypeId}(hg:W.heap[g]?=some (.cells #[v0,v1,v2,v3,v4] t)) :
 W.cell? ⟨g,0,none⟩=some v0/\W.cell? ⟨g,1,none⟩=some v1/\W.cell? ⟨g,2,none⟩=some v2/\W.cell? ⟨g,3,none⟩=some v3/\W.cell? ⟨g,4,none⟩=some v4:=by
 refine⟨?_,?_,?_,?_,?_⟩ <;> (simp only[World.cell?,hg];rfl)
theorem bq{W:World}{g k:Nat}{cs:Array Value}{t:TypeId}(hg:W.heap[g]?=some (.cells cs t)):W.frozen? ⟨g,k,none⟩=false:=by
 simp [World.frozen?,hg]
end
section
open Go.RowKit
structure PSt where
 L:List ByteArray
 I:List (ByteArray × Int)
 O:List (ByteArray × Int)
 D:Int
 F:List (Int × Int)
theorem own_of_block{w w':World}{B e n size:Nat}{v:Value}{xs:List Value}(h:w.ownsRow B e size v n xs)(hk:∀k,v.ownBlock=some k->w'.heap[k]?=w.heap[k]?):w'.ownsRow B e size v n xs:=by
 refine⟨h.1,?_⟩
 rcases h.2 with hn | ⟨g,cap,cur,rfl,hb,hgg,rest⟩
 ·exact .inl hn
 ·exact .inr ⟨g,cap,cur,rfl,hb,(hk g rfl).trans hgg,rest⟩
theorem own_block{w:World}{B e n size:Nat}{v:Value}{xs:List Value}(h:w.ownsRow B e size v n xs){k:Nat}(hk:v.ownBlock=some k):B<=k/\k<w.heap.size/\∃cur,w.heap[k]?=some (.cells cur e (0,0)):=by
 rcases h.2 with⟨rfl,_⟩ | ⟨g,cap,cur,rfl,hb,hgg,_⟩
 ·simp [Value.ownBlock] at hk
 ·simp only[Value.ownBlock,Option.some.injEq] at hk
  subst hk
  exact⟨hb,(Array.getElem?_eq_some_iff.1 hgg).1,cur,hgg⟩
theorem own_types{w:World}{B e n size B' e' n' size':Nat}{v v':Value}{xs xs':List Value}(h:w.ownsRow B e size v n xs)(h':w.ownsRow B' e' size' v' n' xs')(hne:e≠e'){k:Nat}(hk:v.ownBlock=some k):v'.ownBlock≠some k:=by
 intro hk'
 obtain⟨_,_,c,hc⟩:=own_block h hk
 obtain⟨_,_,c',hc'⟩:=own_block h' hk'
 rw[hc] at hc'
 simp only[Option.some.injEq,Obj.cells.injEq] at hc'
 exact hne hc'.2.1
theorem kH{w:World}{B e n size r T:Nat}{v:Value}{xs:List Value}{cs:Array Value}(h:w.ownsRow B e size v n xs)(hr:w.heap[r]?=some (.cells cs T))(hne:e≠T):v.ownBlock≠some r:=by
 intro hk
 obtain⟨_,_,c,hc⟩:=own_block h hk
 rw[hr] at hc
 simp only[Option.some.injEq,Obj.cells.injEq] at hc
 exact hne hc.2.1.symm
theorem set_obj{w:World}{r c:Nat}{cs:Array Value}{T:TypeId}(v:Value)(h:w.heap[r]?=some (.cells cs T)):(w.setCell ⟨r,c,none⟩ v).heap[r]?=some (.cells (cs.setIfInBounds c v) T):=by
 simp only[World.setCell,Array.getElem?_modify,if_pos rfl,h,Option.map_some]
 rfl
end
section
open Go.RowKit
end
section
open Go.RowKit
def ck(k:Nat):ByteArray :=
 match k with
 | 0=>⟨#[97,114,114,97,121]⟩
 | 1=>⟨#[102,110]⟩
 | 2=>⟨#[99,111,110,115,116]⟩
 | 3=>⟨#[112,104,105]⟩
 | 4=>⟨#[108,111,97,100]⟩
 | 5=>⟨#[119,114,97,112]⟩
 | 6=>⟨#[115,116,111,114,101]⟩
 | 7=>⟨#[99,97,108,108]⟩
 | 8=>⟨#[105,110,112,117,116]⟩
 | 9=>⟨#[111,117,116,112,117,116]⟩
 | 10=>⟨#[114,101,108,101,97,115,101]⟩
 | 11=>⟨#[106,117,109,112]⟩
 | 12=>⟨#[98,114,97,110,99,104]⟩
 | 13=>⟨#[114,101,116,117,114,110]⟩
 | 14=>⟨#[97,100,100]⟩
 | 15=>⟨#[115,117,98]⟩
 | 16=>⟨#[109,117,108]⟩
 | 17=>⟨#[100,105,118]⟩
 | 18=>⟨#[109,111,100]⟩
 | 19=>⟨#[97,110,100]⟩
 | 20=>⟨#[111,114]⟩
 | 21=>⟨#[120,111,114]⟩
 | 22=>⟨#[115,104,108]⟩
 | 23=>⟨#[115,104,114]⟩
 | 24=>⟨#[101,113]⟩
 | 25=>⟨#[108,101,115,115]⟩
 | _=>⟨#[]⟩
def dq:Obj:=.cells #[.string (ck 0),.string (ck 1),.string (ck 2),.string (ck 3),.string (ck 4),.string (ck 5),.string (ck 6),.string (ck 7),.string (ck 8),.string (ck 9),.string (ck 10),.string (ck 11),.string (ck 12),.string (ck 13),.string (ck 14),.string (ck 15),.string (ck 16),.string (ck 17),.string (ck 18),.string (ck 19),.string (ck 20),.string (ck 21),.string (ck 22),.string (ck 23),.string (ck 24),.string (ck 25)] 9
theorem wordCell(w:World)(k:Nat)(h:k<26):(w.alloc dq).cell? ⟨w.heap.size,k,none⟩=some (.string (ck k)):=by
 have e:(w.alloc dq).heap[w.heap.size]?=some dq:=by show (w.heap.push dq)[w.heap.size]?=_;simp
 have:∀j:Fin 26,(match dq with | .cells cs _ _=>cs[j.val]? | _=>none)=some (.string (ck j.val)):=by
  intro j
  rcases j with⟨j,hj⟩
  rcases (show j=0∨j=1∨j=2∨j=3∨j=4∨j=5∨j=6∨j=7∨j=8∨j=9∨j=10∨j=11∨j=12∨j=13∨j=14∨j=15∨j=16∨j=17∨j=18∨j=19∨j=20∨j=21∨j=22∨j=23∨j=24∨j=25 by omega) with rfl | rfl | rfl | rfl | rfl | rfl | rfl | rfl | rfl | rfl | rfl | rfl | rfl | rfl | rfl | rfl | rfl | rfl | rfl | rfl | rfl | rfl | rfl | rfl | rfl | rfl <;> rfl
 have h':=this ⟨k,h⟩
 simp only[World.cell?,e]
 exact h'
theorem lp(w:World):Below w.heap.size w (w.alloc dq):=(Below.refl _ _).alloc (Nat.le_refl _) _
def cU(s:ByteArray):Nat->Nat->Bool
 | 0,_=>false
 | f+1,k=>if ((ck k).toList == s.toList)=true then true else cU s f (k+1)
def wordB(s:ByteArray):Bool:=cU s 26 0
set_option maxRecDepth 100000 in
set_option maxHeartbeats 1600000 in
theorem rword_any(s:ByteArray)(w:World) :
 Calls Tryz.prog 163 #[.string s] w fun e w'=>e=.returned (.bool (wordB s))/\Below w.heap.size w w':=by
 have hc:∀k,k<26->(w.alloc dq).cell? ⟨w.heap.size,k,none⟩=some (.string (ck k)):=wordCell w
 have HC:=zH hc
 clear hc
 go_enter Tryz.func163,Tryz.ntmps163
 go_wp2_with fail
 rw[show w.alloc (.cells #[.string ⟨#[97,114,114,97,121]⟩,.string ⟨#[102,110]⟩,.string ⟨#[99,111,110,115,116]⟩,.string ⟨#[112,104,105]⟩,.string ⟨#[108,111,97,100]⟩,.string ⟨#[119,114,97,112]⟩,.string ⟨#[115,116,111,114,101]⟩,.string ⟨#[99,97,108,108]⟩,.string ⟨#[105,110,112,117,116]⟩,.string ⟨#[111,117,116,112,117,116]⟩,.string ⟨#[114,101,108,101,97,115,101]⟩,.string ⟨#[106,117,109,112]⟩,.string ⟨#[98,114,97,110,99,104]⟩,.string ⟨#[114,101,116,117,114,110]⟩,.string ⟨#[97,100,100]⟩,.string ⟨#[115,117,98]⟩,.string ⟨#[109,117,108]⟩,.string ⟨#[100,105,118]⟩,.string ⟨#[109,111,100]⟩,.string ⟨#[97,110,100]⟩,.string ⟨#[111,114]⟩,.string ⟨#[120,111,114]⟩,.string ⟨#[115,104,108]⟩,.string ⟨#[115,104,114]⟩,.string ⟨#[101,113]⟩,.string ⟨#[108,101,115,115]⟩] 9)=w.alloc dq from rfl]
 go_loopw [4] (fun i wr=>∃k m:Nat,k<=26/\i=.int .i64 (k:Int)/\wr=(w.alloc dq).drewN m/\RowKit.Hid (wordB s=cU s (26-k) k)) (fun i _=>26-(intOf i).toNat)
 case atStart=>exact⟨0,0,by omega,rfl,rfl,rfl⟩
 case round =>
  obtain⟨k,m,hk,rfl,rfl,HP⟩:=hrel
  by_cases hlt:k<26
  ·have hc:=HC.out k hlt
   cases ht:((ck k).toList == s.toList)
   ·have HN:=zH (show wordB s=cU s (26-(k+1)) (k+1) by
     rw[HP.out,show 26-k=(26-(k+1))+1 by omega];simp only[cU];rw[if_neg (by rw[ht];decide)])
    go_wp2_with fail
    go_roundw
    case rel=>exact⟨k+1,_,by omega,by go_num,rfl,HN⟩
    case measure=>simp [intOf];omega
   ·have HN:=zH (show wordB s=true by
     rw[HP.out,show 26-k=(26-(k+1))+1 by omega];simp only[cU];rw[if_pos ht])
    go_wp2_with fail
    go_ret
    exact⟨af HN.out.symm,_root_.Go.below_drewN (lp w) _⟩
  ·obtain rfl:k=26:=by omega
   go_wp2_with fail
   go_ret
   exact⟨af HP.out.symm,_root_.Go.below_drewN (lp w) _⟩
end
section
open Go.RowKit
open Go.Maps (Keyed int_keyed keyOf_int_mk)
end
end Go.Proofs.YtjngffgkllakaaaGreatDoor
