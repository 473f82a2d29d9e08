/- A part of a proof: laws that the last text uses. -/
import Derived.Test.YtjngffgkllakaaaGreatDoorY02
import Derived.Test.YtjngffgkllakaaaGreatDoorY05
import Derived.Test.YtjngffgkllakaaaGreatDoorY07
import Derived.Test.YtjngffgkllakaaaGreatDoorY08
import Derived.Test.YtjngffgkllakaaaGreatDoorY09
import Derived.Test.YtjngffgkllakaaaGreatDoorY11
import Derived.Test.YtjngffgkllakaaaGreatDoorY12
import Derived.StillTailTactics
import Derived.Deep.DeepCutAuto
import Derived.Deep.RegionWith
set_option linter.unusedSimpArgs false
set_option linter.unusedVariables false
namespace Go.Proofs.YtjngffgkllakaaaGreatDoor
open List renaming getElem_toArray → zA, getElem_cons_succ → zB, getElem_cons_zero → zC, setIfInBounds_toArray → zD, set_cons_zero → zE, set_cons_succ → zF
open Lib renaming hid → zH
section
open Go.RowKit CC
theorem ent_no{to9:List (List Int)}{main:Int}(h:¬(GG.am to9=true/\GG.inB to9.length main=true)):entL to9 main=[]:=by unfold entL;rw[if_neg h]
def RowsR(B:Nat)(w:World)(vs:List Value)(gs:List (List Nat)):Prop :=
 ∀t,t<gs.length->∃a c,vs[t]?=some (.slice a (gs[t]?.getD []).length c)/\w.ownsRow B 3 1 (.slice a (gs[t]?.getD []).length c) (gs[t]?.getD []).length (ao ((gs[t]?.getD []).map Int.ofNat))
theorem qk{B n:Nat}{w3 w4:World}{gv:Value}{vs:List Value}{gs:List (List Nat)}(hl:vs.length=gs.length)(h:GG.Rows B w3 vs (gsI gs))(ho:w3.ownsRow B 54 1 gv n vs)(hg:w3.grownBy w4 gv.ownBlock):RowsR B w4 vs.reverse gs.reverse:=by
 intro t ht
 rw[List.length_reverse] at ht
 have hk:gs.length-1-t<gs.length:=by omega
 obtain⟨r,e,g⟩:=(h.kept ho (by decide) hg).2 (gs.length-1-t) (by rw[kx];exact hk)
 have e1:(gsI gs)[gs.length-1-t]?.getD []=(gs.reverse[t]?.getD []).map Int.ofNat:=by
  unfold gsI
  rw[List.getElem?_map,List.getElem?_reverse ht,List.getElem?_eq_getElem hk]
  rfl
 rw[e1,List.length_map] at g
 obtain⟨a,c,rfl⟩:=CC.ownOf g
 refine⟨a,c,?_,g⟩
 rw[List.getElem?_reverse (by omega),hl]
 exact e
set_option maxRecDepth 100000 in
set_option maxHeartbeats 12800000 in
theorem jy{v:Value}{to9:List (List Int)}(main:Int)(W:World)(hv:az W.heap.size W v to9)(hx:cd to9) :
 Calls Tryz.prog 18 #[v,.int .i64 main] W fun e W'=>∃u,e=.returned u/\Row W'.heap.size W' u (entL to9 main)/\Below W.heap.size W W':=by
 have hx0:=hx.1
 have HV:=zH hv
 have HX:=zH hx
 obtain⟨va,vc,rfl⟩:=hv.form
 clear hv hx
 by_cases c1:main<0
 ·have HE:=zH (ent_no (to9:=to9) (main:=main) (fun h=>by have:=of_decide_eq_true h.2;omega))
  have t1:decide (main<0)=true:=decide_eq_true c1
  go_enter Tryz.func18,Tryz.ntmps18
  go_wp2_with fail
  go_ret
  exact⟨_,rfl,by rw[HE.out];exact aT _ _ _ _ (fun _=>rfl),Below.refl _ _⟩
 ·have t1:decide (main<0)=false:=decide_eq_false c1
  by_cases c2:(to9.length:Int)<=main
  ·have HE:=zH (ent_no (to9:=to9) (main:=main) (fun h=>by have:=of_decide_eq_true h.2;omega))
   have t2:decide ((to9.length:Int)<=main)=true:=decide_eq_true c2
   go_enter Tryz.func18,Tryz.ntmps18
   go_wp2_with fail
   go_ret
   exact⟨_,rfl,by rw[HE.out];exact aT _ _ _ _ (fun _=>rfl),Below.refl _ _⟩
  ·have t2:decide ((to9.length:Int)<=main)=false:=decide_eq_false c2
   obtain⟨m,rfl⟩:∃m:Nat,main=(m:Int):=⟨main.toNat,by omega⟩
   have hmn:m<to9.length:=by omega
   have t3:decide (to9.length<=m)=false:=decide_eq_false (by omega)
   cases hr:GG.am to9
   ·have HR:=zH hr
    have HE:=zH (ent_no (to9:=to9) (main:=(m:Int)) (fun h=>by rw[hr] at h;exact absurd h.1 (by decide)))
    clear hr
    go_enter Tryz.func18,Tryz.ntmps18
    go_wp2_with (go_at_call 35;refine(aG _ to9 _ HV.out HX.out).mono ?_;rintro e w1 ⟨rfl,hb⟩;rw[HR.out];have HB1:=zH hb;clear hb)
    go_ret
    exact⟨_,rfl,by rw[HE.out];exact aT _ _ _ _ (fun _=>rfl),HB1.out⟩
   ·have HR:=zH hr
    have hlen:=GG.aB hr
    have HE:=zH (show entL to9 (m:Int)=(List.range to9.length).map (bE to9 m) by unfold entL;rw[if_pos ⟨hr,decide_eq_true (by omega)⟩,Int.toNat_natCast])
    have HM:=zH (qj hr)
    clear hr
    go_enter Tryz.func18,Tryz.ntmps18
    go_wp2_with fail
    refine(aG _ to9 _ HV.out HX.out).mono ?_
    rintro e w1 ⟨rfl,hb⟩
    rw[HR.out]
    have HB1:=zH hb
    clear hb
    have HI1:=zH (show bj (w1.alloc (.cells (madeCells #[.int .i64 0] to9.length) 3)) w1.heap.size to9.length (fun _=>0) from World.rowIs_made w1 (.int .i64 0) to9.length 3)
    have hc1:=World.rowIs.cell HI1.out hmn
    have hf1:=World.rowIs.frozen HI1.out m
    have i1:(0:Int)<=m/\(m:Int)<to9.length:=by omega
    have hmk:=run_make_row' (P:=Tryz.prog) 54 3 (.int .i64 0) 8 (by kernel_rfl) Tryz.infoGInt rfl .i64 .i64 to9.length (by omega) (by omega)
    obtain⟨W2,eW2⟩:∃W2,W2=w1.alloc (.cells ((madeCells #[.int .i64 0] to9.length).setIfInBounds m (.int .i64 1)) 3):=⟨_,rfl⟩
    have HI2:=zH (show bj W2 w1.heap.size to9.length (CC.eK m) by
     have h:=HI1.out.set (f':=CC.eK m) m 1 (fun j=>rfl)
     rw[World.setCell_alloc_at _ _ _ _ _ rfl] at h
     rw[eW2];exact h)
    have HB2:=zH (show Below W.heap.size W W2 by rw[eW2];exact HB1.out.alloc HB1.out.size _)
    have hs2:W2.heap.size=w1.heap.size+1:=by rw[eW2];simp
    have EW2:=zH eW2
    clear eW2
    go_wp2_with fail
    clear hmk
    rw[<-EW2.out]
    refine(kk (to9:=to9) W2 (HV.out.on HB2.out HB2.out.size) HX.out).mono ?_
    rintro e w3 ⟨gv,vs,rfl,hown,hrows,hb3⟩
    rw[kx] at hown
    have hvl:vs.length=(aR to9).length:=by have:=hown.1;omega
    obtain⟨ga,gc,rfl⟩:=CC.ownOf hown
    have HOWN:=zH hown
    have HROWS:=zH hrows
    have HB3:=zH (HB2.out.trans (hb3.mono HB2.out.size))
    have HI3:=zH (HI2.out.of (hb3.block _ (by omega)))
    have hs3:=hb3.size
    clear hown hrows hb3 hc1 hf1
    go_wp2_with fail
    refine(oA HOWN.out (by have:=HM.out;omega) (fun k hk=>by
     obtain⟨r,e,g⟩:=HROWS.out.2 k (by rw[kx];exact hk)
     obtain⟨a,c,rfl⟩:=CC.ownOf g
     exact⟨a,_,c,e⟩)).mono ?_
    rintro e w4 ⟨rfl,hown4,hg4⟩
    have HR4:=zH (qk hvl HROWS.out HOWN.out hg4)
    have HO4:=zH hown4
    have HB4:=zH (HB3.out.grown hg4 HB3.out.size (fun k e=>by have:=(HOWN.out.lt k e).1;have:=HB2.out.size;omega))
    have HI4:=zH (HI3.out.of (hg4.block _ (by omega) (fun e=>by have:=(HOWN.out.lt _ e.symm).1;omega)))
    have hs4:=hg4.size
    obtain⟨gs,hgs⟩:∃gs,gs=(aR to9).reverse:=⟨_,rfl⟩
    have hgl:(aR to9).length=gs.length:=by rw[hgs,List.length_reverse]
    have HGM:=zH (show ∀t,t<gs.length->gs[t]?.getD []∈aR to9 from fun t ht=>by rw[hgs];exact List.mem_reverse.1 (GG.bB (by rw[<-hgs];exact ht)))
    have HSU:=zH (show ∀t,t<gs.length->entT to9 m (t+1)=CC.bV (GG.an to9) (entT to9 m t) (gs[t]?.getD []) from fun t ht=>by rw[hgs];exact mX m (by rw[<-hgs];exact ht))
    have HBD:=zH (show ∀t,t<=gs.length->∀x,x<to9.length->-1<=entT to9 m t x/\entT to9 m t x<=1+65536*(t:Int) from fun t ht=>entT_bd HR.out m t (by rw[<-hgs];exact ht))
    have HALL:=zH (show entT to9 m gs.length=bE to9 m from entT_all to9 m (by rw[<-hgs];exact Nat.le_refl _))
    have hm256:gs.length<=256:=by have:=HM.out;omega
    rw[hgl] at HO4
    rw[<-hgs] at HR4
    rw[hgl]
    clear hown4 hg4 hgs hgl hvl HOWN HROWS HI3 HI2 EW2 HI1
    go_wp2_with fail
    go_loopw [38] (fun k wr=>∃t:Nat,t<=gs.length/\k=.int .i64 (t:Int)/\RowKit.Hid (bj wr w1.heap.size to9.length (entT to9 m t)/\Kept w1.heap.size w4 wr)) (fun k _=>gs.length-(intOf k).toNat)
    case atStart=>exact⟨0,by omega,rfl,zH ⟨by rw[mW];exact HI4.out,Kept.refl _ _⟩⟩
    case round =>
     obtain⟨w5,rfl⟩:∃w5,w5=wr:=⟨_,rfl⟩
     obtain⟨t,ht,rfl,HH⟩:=hrel
     by_cases hlt:t<gs.length
     ·have HG:=zH (qi HR.out (HGM.out t hlt))
      have HST:=zH (HSU.out t hlt)
      have HBT:=zH (HBD.out t ht)
      obtain⟨xa,xc,hxr,hxo⟩:=HR4.out t hlt
      have hO5:=HH.out.2.own HO4.out (by omega)
      have HXO:=zH hxo
      obtain⟨g,eg⟩:∃g,g=gs[t]?.getD []:=⟨_,rfl⟩
      rw[<-eg] at HG HST hxr HXO
      obtain⟨gb,e1⟩:∃gb,ga=some ⟨gb,0,none⟩:=by
       rcases hO5.2 with⟨_,e2⟩ | ⟨q,cap,cur,e2,_⟩
       ·omega
       ·cases e2;exact⟨q,rfl⟩
      subst e1
      have hcg:=jx hO5 hxr
      have i2:(0:Int)<=t/\(t:Int)<gs.length:=by omega
      have HRW:=zH (fun(V:World) (hk:Kept w1.heap.size w4 V)=>show Row V.heap.size V (.slice xa g.length xc) (g.map Int.ofNat) from aM (hk.own HXO.out (by omega)))
      obtain⟨E,hE⟩:∃E,E=entT to9 m t:=⟨_,rfl⟩
      rw[<-hE] at HH HST HBT
      have HIB:=zH (fun q=>inT_bd HR.out (by omega) HG.out.2.2 HBT.out q)
      have HGR:=zH (fun(V:World) (hk:Kept w1.heap.size w4 V)=>hk.below HB4.out HB1.out.size HB4.out.size)
      have hg256:=HG.out.2.1
      clear eg hxo hxr hO5 hE
      go_wp2_with fail
      refine(qg w5 (HV.out.on (HGR.out w5 HH.out.2) (HGR.out w5 HH.out.2).size) HR.out (HRW.out w5 HH.out.2) HG.out.1 HG.out.2.1 HG.out.2.2).mono ?_
      rintro e w6 ⟨rfl,d,rfl⟩
      have HK6:=zH (HH.out.2.drewN d)
      have HI6:=zH (show bj (w5.drewN d) w1.heap.size to9.length E from HH.out.1.of rfl)
      clear HH
      generalize w5.drewN d=w6 at HK6 HI6 ⊢
      cases hc:CC.eJ (GG.an to9) g
      ·have HS7:=zH (show bj w6 w1.heap.size to9.length (inT (GG.an to9) E g 0) by unfold inT;rw[hc];exact HI6.out)
       clear hc
       go_wp2_with fail
       go_loopw [62] (fun k wr=>∃q:Nat,q<=g.length/\k=.int .i64 (q:Int)/\RowKit.Hid (bj wr w1.heap.size to9.length (inT (GG.an to9) E g q)/\Kept w1.heap.size w4 wr)) (fun k _=>g.length-(intOf k).toNat)
       case atStart=>exact⟨0,by omega,rfl,zH ⟨HS7.out,HK6.out⟩⟩
       case round =>
        obtain⟨w9,rfl⟩:∃w9,w9=wr:=⟨_,rfl⟩
        obtain⟨q,hq,rfl,HH⟩:=hrel
        by_cases hqg:q<g.length
        ·have hgq:q<(g.map Int.ofNat).length:=by rw[List.length_map];exact hqg
         obtain⟨rb,rf,e1,hrc⟩:=Row.cellAt (show Row w9.heap.size w9 (.slice xa g.length xc) (g.map Int.ofNat) from HRW.out w9 HH.out.2) hgq
         cases e1
         have HQG:=zH hqg
         clear hgq
         obtain⟨x,ex⟩:∃x,x=g[q]?.getD 0:=⟨_,rfl⟩
         have hxv:(g.map Int.ofNat)[q]?.getD 0=(x:Int):=by rw[ex,List.getElem?_map,List.getElem?_eq_getElem hqg];rfl
         rw[hxv] at hrc
         have hxn:x<to9.length:=HG.out.2.2 x (by rw[ex];exact GG.bB hqg)
         have i3:(0:Int)<=q/\(q:Int)<g.length:=by omega
         have i4:(0:Int)<=x/\(x:Int)<to9.length:=by omega
         have HVW:=zH (HV.out.below (HGR.out w9 HH.out.2))
         obtain⟨vb,vf,vc2,e1⟩:=HVW.out.addr (by omega)
         cases e1
         obtain⟨ra,rac,hx1,hrx⟩:=HVW.out.at hxn
         have hrl:=GG.fF (GG.bF HR.out hxn)
         have HRI:=zH (fun y hy=>GG.dF (GG.bF HR.out hxn) y hy)
         have HN:=zH (show inT (GG.an to9) E g (q+1)=CC.aU (inT (GG.an to9) E g q) x ((to9[x]?.getD []).map Int.toNat) by rw[lL (GG.an to9) E hqg,<-ex];rfl)
         obtain⟨r,er⟩:∃r,r=to9[x]?.getD []:=⟨_,rfl⟩
         rw[<-er] at hx1 hrx hrl HRI HN
         have HRX:=zH hrx
         have HBQ:=zH (HIB.out q)
         clear ex hxv er hrx
         go_wp2_with fail
         refine(jP HH.out.1 hxn HRX.out HB1.out.size HRI.out (by omega) hlen.2 HBQ.out (by omega) (by omega)).mono ?_
         rintro e wz ⟨rfl,hi9,hk9⟩
         have H9:=zH (show bj wz w1.heap.size to9.length (inT (GG.an to9) E g (q+1))/\Kept w1.heap.size w4 wz from⟨by rw[HN.out];exact hi9,HH.out.2.trans hk9⟩)
         clear hi9 hk9
         go_wp2_with fail
         go_roundw
         case rel=>exact⟨q+1,by have:=HQG.out;omega,by go_num,H9⟩
         case measure=>have:=HQG.out;simp [intOf];omega
        ·have HF:=zH (show bj w9 w1.heap.size to9.length (entT to9 m (t+1))/\Kept w1.heap.size w4 w9 from⟨by
          have h1:=HH.out.1
          rw[ky _ _ (by omega)] at h1
          rw[HST.out]
          exact h1,HH.out.2⟩)
         clear HH
         go_wp2_with fail
         go_roundw
         case rel=>exact⟨t+1,by omega,by go_num,HF⟩
         case measure=>simp [intOf];omega
      ·have HC:=zH hc
       clear hc
       go_wp2_with fail
       refine(oz (HRW.out w6 HK6.out) HG.out.2.1 HG.out.2.2 HI6.out).mono ?_
       rintro e w7 ⟨rfl,hb7⟩
       have HK7:=zH (HK6.out.trans ⟨hb7.os,hb7.tape,hb7.output,hb7.size,fun k hk _=>hb7.block k hk⟩)
       have HI7:=zH (HI6.out.of (hb7.block _ (World.rowIs.lt HI6.out)))
       clear hb7
       cases hh:CC.hasB E g
       ·have HS7:=zH (show bj w7 w1.heap.size to9.length (inT (GG.an to9) E g 0) by unfold inT;rw[HC.out,hh];exact HI7.out)
        clear hh
        go_wp2_with fail
        go_loopw [62] (fun k wr=>∃q:Nat,q<=g.length/\k=.int .i64 (q:Int)/\RowKit.Hid (bj wr w1.heap.size to9.length (inT (GG.an to9) E g q)/\Kept w1.heap.size w4 wr)) (fun k _=>g.length-(intOf k).toNat)
        case atStart=>exact⟨0,by omega,rfl,zH ⟨HS7.out,HK7.out⟩⟩
        case round =>
         obtain⟨w9,rfl⟩:∃w9,w9=wr:=⟨_,rfl⟩
         obtain⟨q,hq,rfl,HH⟩:=hrel
         by_cases hqg:q<g.length
         ·have hgq:q<(g.map Int.ofNat).length:=by rw[List.length_map];exact hqg
          obtain⟨rb,rf,e1,hrc⟩:=Row.cellAt (show Row w9.heap.size w9 (.slice xa g.length xc) (g.map Int.ofNat) from HRW.out w9 HH.out.2) hgq
          cases e1
          have HQG:=zH hqg
          clear hgq
          obtain⟨x,ex⟩:∃x,x=g[q]?.getD 0:=⟨_,rfl⟩
          have hxv:(g.map Int.ofNat)[q]?.getD 0=(x:Int):=by rw[ex,List.getElem?_map,List.getElem?_eq_getElem hqg];rfl
          rw[hxv] at hrc
          have hxn:x<to9.length:=HG.out.2.2 x (by rw[ex];exact GG.bB hqg)
          have i3:(0:Int)<=q/\(q:Int)<g.length:=by omega
          have i4:(0:Int)<=x/\(x:Int)<to9.length:=by omega
          have HVW:=zH (HV.out.below (HGR.out w9 HH.out.2))
          obtain⟨vb,vf,vc2,e1⟩:=HVW.out.addr (by omega)
          cases e1
          obtain⟨ra,rac,hx1,hrx⟩:=HVW.out.at hxn
          have hrl:=GG.fF (GG.bF HR.out hxn)
          have HRI:=zH (fun y hy=>GG.dF (GG.bF HR.out hxn) y hy)
          have HN:=zH (show inT (GG.an to9) E g (q+1)=CC.aU (inT (GG.an to9) E g q) x ((to9[x]?.getD []).map Int.toNat) by rw[lL (GG.an to9) E hqg,<-ex];rfl)
          obtain⟨r,er⟩:∃r,r=to9[x]?.getD []:=⟨_,rfl⟩
          rw[<-er] at hx1 hrx hrl HRI HN
          have HRX:=zH hrx
          have HBQ:=zH (HIB.out q)
          clear ex hxv er hrx
          go_wp2_with fail
          refine(jP HH.out.1 hxn HRX.out HB1.out.size HRI.out (by omega) hlen.2 HBQ.out (by omega) (by omega)).mono ?_
          rintro e wz ⟨rfl,hi9,hk9⟩
          have H9:=zH (show bj wz w1.heap.size to9.length (inT (GG.an to9) E g (q+1))/\Kept w1.heap.size w4 wz from⟨by rw[HN.out];exact hi9,HH.out.2.trans hk9⟩)
          clear hi9 hk9
          go_wp2_with fail
          go_roundw
          case rel=>exact⟨q+1,by have:=HQG.out;omega,by go_num,H9⟩
          case measure=>have:=HQG.out;simp [intOf];omega
         ·have HF:=zH (show bj w9 w1.heap.size to9.length (entT to9 m (t+1))/\Kept w1.heap.size w4 w9 from⟨by
           have h1:=HH.out.1
           rw[ky _ _ (by omega)] at h1
           rw[HST.out]
           exact h1,HH.out.2⟩)
          clear HH
          go_wp2_with fail
          go_roundw
          case rel=>exact⟨t+1,by omega,by go_num,HF⟩
          case measure=>simp [intOf];omega
       ·have HHB:=zH hh
        clear hh
        go_wp2_with fail
        go_loopw [52] (fun k wr=>∃q:Nat,q<=g.length/\k=.int .i64 (q:Int)/\RowKit.Hid (bj wr w1.heap.size to9.length (CC.iz E (g.take q))/\Kept w1.heap.size w4 wr)) (fun k _=>g.length-(intOf k).toNat)
        case atStart=>exact⟨0,by omega,rfl,zH ⟨World.rowIs.congr HI7.out (fun i _=>by simp [CC.iz]),HK7.out⟩⟩
        case round =>
         obtain⟨w8,rfl⟩:∃w8,w8=wr:=⟨_,rfl⟩
         obtain⟨q,hq,rfl,HH⟩:=hrel
         by_cases hqg:q<g.length
         ·have hgq:q<(g.map Int.ofNat).length:=by rw[List.length_map];exact hqg
          obtain⟨rb,rf,e1,hrc⟩:=Row.cellAt (show Row w8.heap.size w8 (.slice xa g.length xc) (g.map Int.ofNat) from HRW.out w8 HH.out.2) hgq
          cases e1
          have HQG:=zH hqg
          clear hgq
          obtain⟨x,ex⟩:∃x,x=g[q]?.getD 0:=⟨_,rfl⟩
          have hxv:(g.map Int.ofNat)[q]?.getD 0=(x:Int):=by rw[ex,List.getElem?_map,List.getElem?_eq_getElem hqg];rfl
          rw[hxv] at hrc
          have hxn:x<to9.length:=HG.out.2.2 x (by rw[ex];exact GG.bB hqg)
          have HTK:=zH (show g.take (q+1)=g.take q ++ [x] by rw[List.take_succ_eq_append_getElem hqg,ex,List.getElem?_eq_getElem hqg];rfl)
          have hcx:=World.rowIs.cell HH.out.1 hxn
          have hfx:=World.rowIs.frozen HH.out.1 x
          have i3:(0:Int)<=q/\(q:Int)<g.length:=by omega
          have i4:(0:Int)<=x/\(x:Int)<to9.length:=by omega
          have HN:=zH (show bj (w8.setCell ⟨w1.heap.size,x,none⟩ (.int .i64 (-1))) w1.heap.size to9.length (CC.iz E (g.take (q+1)))/\Kept w1.heap.size w4 (w8.setCell ⟨w1.heap.size,x,none⟩ (.int .i64 (-1))) from⟨HH.out.1.set x (-1) (fun j=>by
           rw[HTK.out]
           unfold CC.iz
           by_cases e2:j=x
           ·rw[if_pos e2,if_pos (by rw[e2];simp)]
           ·rw[if_neg e2]
            by_cases e3:j∈g.take q
            ·rw[if_pos e3,if_pos (List.mem_append.2 (.inl e3))]
            ·rw[if_neg e3,if_neg (fun h=>by rcases List.mem_append.1 h with h | h;exact e3 h;exact e2 (List.mem_singleton.1 h))]),HH.out.2.set x _⟩)
          clear ex hxv
          go_wp2_with fail
          go_roundw
          case rel=>exact⟨q+1,by have:=HQG.out;omega,by go_num,HN⟩
          case measure=>have:=HQG.out;simp [intOf];omega
         ·have HS7:=zH (show bj w8 w1.heap.size to9.length (inT (GG.an to9) E g 0) by
           have h1:=HH.out.1
           rw[List.take_of_length_le (by omega)] at h1
           unfold inT
           rw[HC.out,HHB.out]
           exact h1)
          have HK8:=zH HH.out.2
          clear HH
          go_wp2_with fail
          go_loopw [62] (fun k wr=>∃q:Nat,q<=g.length/\k=.int .i64 (q:Int)/\RowKit.Hid (bj wr w1.heap.size to9.length (inT (GG.an to9) E g q)/\Kept w1.heap.size w4 wr)) (fun k _=>g.length-(intOf k).toNat)
          case atStart=>exact⟨0,by omega,rfl,zH ⟨HS7.out,HK8.out⟩⟩
          case round =>
           obtain⟨w9,rfl⟩:∃w9,w9=wr:=⟨_,rfl⟩
           obtain⟨q,hq,rfl,HH⟩:=hrel
           by_cases hqg:q<g.length
           ·have hgq:q<(g.map Int.ofNat).length:=by rw[List.length_map];exact hqg
            obtain⟨rb,rf,e1,hrc⟩:=Row.cellAt (show Row w9.heap.size w9 (.slice xa g.length xc) (g.map Int.ofNat) from HRW.out w9 HH.out.2) hgq
            cases e1
            have HQG:=zH hqg
            clear hgq
            obtain⟨x,ex⟩:∃x,x=g[q]?.getD 0:=⟨_,rfl⟩
            have hxv:(g.map Int.ofNat)[q]?.getD 0=(x:Int):=by rw[ex,List.getElem?_map,List.getElem?_eq_getElem hqg];rfl
            rw[hxv] at hrc
            have hxn:x<to9.length:=HG.out.2.2 x (by rw[ex];exact GG.bB hqg)
            have i3:(0:Int)<=q/\(q:Int)<g.length:=by omega
            have i4:(0:Int)<=x/\(x:Int)<to9.length:=by omega
            have HVW:=zH (HV.out.below (HGR.out w9 HH.out.2))
            obtain⟨vb,vf,vc2,e1⟩:=HVW.out.addr (by omega)
            cases e1
            obtain⟨ra,rac,hx1,hrx⟩:=HVW.out.at hxn
            have hrl:=GG.fF (GG.bF HR.out hxn)
            have HRI:=zH (fun y hy=>GG.dF (GG.bF HR.out hxn) y hy)
            have HN:=zH (show inT (GG.an to9) E g (q+1)=CC.aU (inT (GG.an to9) E g q) x ((to9[x]?.getD []).map Int.toNat) by rw[lL (GG.an to9) E hqg,<-ex];rfl)
            obtain⟨r,er⟩:∃r,r=to9[x]?.getD []:=⟨_,rfl⟩
            rw[<-er] at hx1 hrx hrl HRI HN
            have HRX:=zH hrx
            have HBQ:=zH (HIB.out q)
            clear ex hxv er hrx
            go_wp2_with fail
            refine(jP HH.out.1 hxn HRX.out HB1.out.size HRI.out (by omega) hlen.2 HBQ.out (by omega) (by omega)).mono ?_
            rintro e wz ⟨rfl,hi9,hk9⟩
            have H9:=zH (show bj wz w1.heap.size to9.length (inT (GG.an to9) E g (q+1))/\Kept w1.heap.size w4 wz from⟨by rw[HN.out];exact hi9,HH.out.2.trans hk9⟩)
            clear hi9 hk9
            go_wp2_with fail
            go_roundw
            case rel=>exact⟨q+1,by have:=HQG.out;omega,by go_num,H9⟩
            case measure=>have:=HQG.out;simp [intOf];omega
           ·have HF:=zH (show bj w9 w1.heap.size to9.length (entT to9 m (t+1))/\Kept w1.heap.size w4 w9 from⟨by
             have h1:=HH.out.1
             rw[ky _ _ (by omega)] at h1
             rw[HST.out]
             exact h1,HH.out.2⟩)
            clear HH
            go_wp2_with fail
            go_roundw
            case rel=>exact⟨t+1,by omega,by go_num,HF⟩
            case measure=>simp [intOf];omega
     ·have HF:=zH (show bj w5 w1.heap.size to9.length (bE to9 m) by
       have h1:=HH.out.1
       rwa [show t=gs.length by omega,HALL.out] at h1)
      have HBF:=zH (HH.out.2.below HB4.out HB1.out.size HB4.out.size)
      clear HH
      go_wp2_with fail
      go_ret
      exact⟨_,rfl,by rw[HE.out];exact HF.out.row,HBF.out⟩
end
section
open Go.RowKit CC
def exC:List (List Int):=[[1,2],[2],[]]
theorem lM:gsI (aR exC)=[[2],[1],[0]]:=by decide +kernel
theorem ql:entL exC 0=[1,2,3]:=by decide +kernel
theorem exC_small:cd exC:=⟨by decide,by decide⟩
theorem dy{W:World}{b:Nat}{xs:List Int}{t:TypeId}(h:W.heap[b]?=some (.cells (ao xs).toArray t)):Row W.heap.size W (.slice (some ⟨b,0,none⟩) xs.length xs.length) xs :=
 .inr ⟨b,0,xs.length,by rw[aC],(Array.getElem?_eq_some_iff.1 h).1,by rw[aC];exact Nat.le_refl _,fun j u hj=>by
  simp only[World.cell?,h,Nat.zero_add]
  simpa using hj⟩
def lit3(W:World)(a b:List Int)(v:Value):World:=((W.alloc (.cells (ao a).toArray 3)).alloc (.cells (ao b).toArray 3)).alloc (.cells #[.slice (some ⟨W.heap.size,0,none⟩) a.length a.length,.slice (some ⟨W.heap.size+1,0,none⟩) b.length b.length,v] 54)
theorem sk(W:World)(a b:List Int)(v:Value):Below W.heap.size W (lit3 W a b v):=(((Below.refl _ _).alloc (Nat.le_refl _) _).alloc (by simp) _).alloc (by simp;omega) _
theorem lit3_mem{W:World}{a b c:List Int}{v:Value}(h:Row (lit3 W a b v).heap.size (lit3 W a b v) v c):az (lit3 W a b v).heap.size (lit3 W a b v) (.slice (some ⟨W.heap.size+1+1,0,none⟩) 3 3) [a,b,c]:=by
 have hs:(lit3 W a b v).heap.size=W.heap.size+3:=by simp [lit3]
 have h2:(lit3 W a b v).heap[W.heap.size+1+1]?=some (.cells #[.slice (some ⟨W.heap.size,0,none⟩) a.length a.length,.slice (some ⟨W.heap.size+1,0,none⟩) b.length b.length,v] 54):=cV (by simp)
 have h0:(lit3 W a b v).heap[W.heap.size]?=some (.cells (ao a).toArray 3):=by
  unfold lit3
  rw[heap_alloc_old _ _ (by simp;omega),heap_alloc_old _ _ (by simp),heap_alloc_new]
 have h1:(lit3 W a b v).heap[W.heap.size+1]?=some (.cells (ao b).toArray 3):=by
  unfold lit3
  rw[heap_alloc_old _ _ (by simp)]
  exact cV (by simp)
 refine⟨[.slice (some ⟨W.heap.size,0,none⟩) a.length a.length,.slice (some ⟨W.heap.size+1,0,none⟩) b.length b.length,v],.inr ⟨W.heap.size+1+1,0,3,rfl,by omega,Nat.le_refl 3,fun j u hj=>?_⟩,rfl,fun j hj=>?_⟩
 ·simp only[World.cell?,h2,Nat.zero_add]
  simpa using hj
 ·match j,hj with
  | 0,_=>exact⟨_,rfl,dy h0⟩
  | 1,_=>exact⟨_,rfl,dy h1⟩
  | 2,_=>exact⟨_,rfl,h⟩
theorem lit3_nil(W:World)(a b:List Int):az (lit3 W a b (.slice none 0 0)).heap.size (lit3 W a b (.slice none 0 0)) (.slice (some ⟨W.heap.size+1+1,0,none⟩) 3 3) [a,b,[]]:=lit3_mem (aT _ _ _ _ (fun _=>rfl))
def lit4(W:World)(a b c:List Int):World:=(((W.alloc (.cells (ao a).toArray 3)).alloc (.cells (ao b).toArray 3)).alloc (.cells (ao c).toArray 3)).alloc (.cells #[.slice (some ⟨W.heap.size,0,none⟩) a.length a.length,.slice (some ⟨W.heap.size+1,0,none⟩) b.length b.length,.slice (some ⟨W.heap.size+1+1,0,none⟩) c.length c.length] 54)
theorem sm(W:World)(a b c:List Int):Below W.heap.size W (lit4 W a b c):=((((Below.refl _ _).alloc (Nat.le_refl _) _).alloc (by simp) _).alloc (by simp;omega) _).alloc (by simp;omega) _
theorem lit4_mem(W:World)(a b c:List Int):az (lit4 W a b c).heap.size (lit4 W a b c) (.slice (some ⟨W.heap.size+1+1+1,0,none⟩) 3 3) [a,b,c]:=by
 have hs:(lit4 W a b c).heap.size=W.heap.size+4:=by simp [lit4]
 have h3:(lit4 W a b c).heap[W.heap.size+1+1+1]?=some (.cells #[.slice (some ⟨W.heap.size,0,none⟩) a.length a.length,.slice (some ⟨W.heap.size+1,0,none⟩) b.length b.length,.slice (some ⟨W.heap.size+1+1,0,none⟩) c.length c.length] 54):=cV (by simp)
 have h0:(lit4 W a b c).heap[W.heap.size]?=some (.cells (ao a).toArray 3):=by
  unfold lit4
  rw[heap_alloc_old _ _ (by simp;omega),heap_alloc_old _ _ (by simp;omega),heap_alloc_old _ _ (by simp),heap_alloc_new]
 have h1:(lit4 W a b c).heap[W.heap.size+1]?=some (.cells (ao b).toArray 3):=by
  unfold lit4
  rw[heap_alloc_old _ _ (by simp),heap_alloc_old _ _ (by simp)]
  exact cV (by simp)
 have h2:(lit4 W a b c).heap[W.heap.size+1+1]?=some (.cells (ao c).toArray 3):=by
  unfold lit4
  rw[heap_alloc_old _ _ (by simp)]
  exact cV (by simp)
 refine⟨[.slice (some ⟨W.heap.size,0,none⟩) a.length a.length,.slice (some ⟨W.heap.size+1,0,none⟩) b.length b.length,.slice (some ⟨W.heap.size+1+1,0,none⟩) c.length c.length],.inr ⟨W.heap.size+1+1+1,0,3,rfl,by omega,Nat.le_refl 3,fun j u hj=>?_⟩,rfl,fun j hj=>?_⟩
 ·simp only[World.cell?,h3,Nat.zero_add]
  simpa using hj
 ·match j,hj with
  | 0,_=>exact⟨_,rfl,dy h0⟩
  | 1,_=>exact⟨_,rfl,dy h1⟩
  | 2,_=>exact⟨_,rfl,dy h2⟩
theorem small3(a b c:List Int)(h:a.length+b.length+c.length<=1000):cd [a,b,c]:=⟨by show 3<=17592186044416;decide,by
 intro r hr
 simp at hr
 rcases hr with h | h | h <;> subst h <;> omega⟩
set_option maxRecDepth 100000 in
set_option maxHeartbeats 3200000 in
theorem fZ(W:World):Calls Tryz.prog 11 #[] W fun e W'=>e=.returned (.bool true)/\Below W.heap.size W W':=by
 have HM:=zH (lit3_nil W [1,2] [2])
 have HB:=zH (sk W [1,2] [2] (.slice none 0 0))
 have HS:=zH exC_small
 have hs:=(show (lit3 W [1,2] [2] (.slice none 0 0)).heap.size=W.heap.size+3 by simp [lit3])
 go_enter Tryz.func11,Tryz.ntmps11
 go_wp2_with fail
 rw[show ((W.alloc (.cells #[.int .i64 1,.int .i64 2] 3)).alloc (.cells #[.int .i64 2] 3)).alloc (.cells #[.slice (some ⟨W.heap.size,0,none⟩) 2 2,.slice (some ⟨W.heap.size+1,0,none⟩) 1 1,.slice none 0 0] 54)=lit3 W [1,2] [2] (.slice none 0 0) from rfl]
 refine(kk (to9:=exC) _ HM.out HS.out).mono ?_
 rintro e w1 ⟨gv,vs,rfl,hown,hrows,hb1⟩
 have HG1:=zH (show az w1.heap.size w1 gv [[2],[1],[0]] by rw[<-lM];exact hrows.graph hown)
 have HM1:=zH (HM.out.on hb1 hb1.size)
 have HB1:=zH (HB.out.trans (hb1.mono (by omega)))
 obtain⟨ga,gc,rfl⟩:=CC.ownOf hown
 rw[lM]
 clear hown hrows hb1
 go_wp2_with fail
 rw[show (((w1.alloc (.cells #[.int .i64 2] 3)).alloc (.cells #[.int .i64 1] 3)).alloc (.cells #[.int .i64 0] 3)).alloc (.cells #[.slice (some ⟨w1.heap.size,0,none⟩) 1 1,.slice (some ⟨w1.heap.size+1,0,none⟩) 1 1,.slice (some ⟨w1.heap.size+1+1,0,none⟩) 1 1] 54)=lit4 w1 [2] [1] [0] from rfl]
 have HB2:=zH (sm w1 [2] [1] [0])
 refine(same_any _ _ [[2],[1],[0]] [[2],[1],[0]] _ _ (HG1.out.on HB2.out HB2.out.size) (lit4_mem w1 [2] [1] [0]) (small3 _ _ _ (by decide)) (small3 _ _ _ (by decide))).mono ?_
 rintro e w2 ⟨rfl,d,e2⟩
 rw[e2,decide_eq_true (rfl:([[2],[1],[0]]:List (List Int))=[[2],[1],[0]])]
 have HB3:=zH (show Below w1.heap.size w1 ((lit4 w1 [2] [1] [0]).drewN d) from HB2.out.trans ⟨rfl,rfl,rfl,Nat.le_refl _,fun _ _=>rfl⟩)
 clear e2 HB2
 generalize (lit4 w1 [2] [1] [0]).drewN d=w3 at HB3 ⊢
 have HM3:=zH (HM1.out.on HB3.out HB3.out.size)
 have HB4:=zH (HB1.out.trans (HB3.out.mono HB1.out.size))
 go_wp2_with fail
 refine(jy (to9:=exC) 0 w3 HM3.out HS.out).mono ?_
 rintro e w4 ⟨u,rfl,hr,hb4⟩
 rw[ql] at hr
 obtain⟨ua,uc,rfl⟩:=hr.form
 have HR:=zH (hr.below ((Below.refl w4.heap.size w4).alloc (Nat.le_refl _) (.cells #[.int .i64 1,.int .i64 2,.int .i64 3] 3)))
 have HB5:=zH (HB4.out.trans (hb4.mono HB4.out.size))
 have HL:=zH (show Row w4.heap.size.succ (w4.alloc (.cells #[.int .i64 1,.int .i64 2,.int .i64 3] 3)) (.slice (some ⟨w4.heap.size,0,none⟩) 3 3) [1,2,3] by
  have h:=dy (W:=w4.alloc (.cells (ao [1,2,3]).toArray 3)) (b:=w4.heap.size) (xs:=[1,2,3]) (t:=3) (cV rfl)
  have e:(w4.alloc (.cells (ao [1,2,3]).toArray 3)).heap.size=w4.heap.size.succ:=by simp
  rw[e] at h
  exact h)
 clear hr hb4
 go_wp2_with fail
 refine(ints_any _ _ [1,2,3] [1,2,3] w4.heap.size.succ _ (HR.out.mono (Nat.le_succ _)) HL.out (by decide) (by decide)).mono ?_
 rintro e w5 ⟨rfl,d,e5⟩
 rw[e5,decide_eq_true (rfl:([1,2,3]:List Int)=[1,2,3])]
 have HB6:=zH (show Below W.heap.size W ((w4.alloc (.cells #[.int .i64 1,.int .i64 2,.int .i64 3] 3)).drewN d) from(HB5.out.alloc HB5.out.size _).trans ⟨rfl,rfl,rfl,Nat.le_refl _,fun _ _=>rfl⟩)
 clear e5
 generalize (w4.alloc (.cells #[.int .i64 1,.int .i64 2,.int .i64 3] 3)).drewN d=w6 at HB6 ⊢
 go_wp2_with fail
 go_ret
 exact⟨rfl,HB6.out⟩
end
section
open Go.RowKit
open CD (OpP BodyP CodeP ae blAt fnAt)
def iA(D x:Int):Bool:=decide (x<0∨D<=x)
def gP(c:CodeP)(D:Int):List Bool:=(entL (toC c) c.mn0).map (iA D)
def dK(D:Int)(xs:List Int)(i:Nat):List Bool:=(xs.take i).map (iA D)
theorem qm(D:Int){xs:List Int}{i:Nat}(h:i<xs.length):bJ (dK D xs (i+1))=bJ (dK D xs i) ++ [.bool (iA D (xs[i]?.getD 0))]:=by
 unfold dK bJ
 rw[List.take_add_one,List.getElem?_eq_getElem h,List.map_append,List.map_append]
 rfl
theorem sn(D:Int)(xs:List Int):dK D xs xs.length=xs.map (iA D):=by unfold dK;rw[List.take_length]
theorem toC_small{c:CodeP}(h:c.fs.length<=100):cd (toC c):=by
 refine⟨by rw[io];omega,fun row hr=>?_⟩
 unfold toC at hr
 obtain⟨i,_,rfl⟩:=List.mem_map.1 hr
 unfold rowC
 rw[List.length_map]
 have:=List.length_filter_le (fun(f:Nat)=>decide ((f:Int)∈cl (fnAt c i))) (List.range c.fs.length)
 rw[List.length_range] at this
 omega
theorem ent_len(tt:List (List Int))(m:Int):(entL tt m).length<=tt.length:=by
 unfold entL
 split
 ·rw[List.length_map,List.length_range];exact Nat.le_refl _
 ·exact Nat.zero_le _
theorem own_bool{V Z:World}{B:Nat}{v v1:Value}{xs:List Int}{D:Int}{i:Nat}(h:i<xs.length)(hO:V.ownsRow B 4 1 v i (bJ (dK D xs i))){A:World}(hB:Below B A V)(hs:B<=V.heap.size){o:Obj}(ho:Z.ownsRow B 4 1 v1 (i+1) (bJ (dK D xs i) ++ [.bool (iA D (xs[i]?.getD 0))]))(hg:(V.alloc o).grownBy Z v.ownBlock) :
 Z.ownsRow B 4 1 v1 (i+1) (bJ (dK D xs (i+1)))/\Below B A Z :=
 ⟨by rw[qm D h];exact ho,(hB.alloc hs _).grown hg (by simp;omega) (fun k e=>(hO.lt k e).1)⟩
end
section
open Go.RowKit
open CD (OpP BodyP CodeP ae blAt fnAt)
def AllOk(q:CD.Cnt)(c:CodeP):Prop:=∀i,i<c.fs.length->CD.aL q c (fnAt c i)
set_option maxRecDepth 100000 in
set_option maxHeartbeats 12800000 in
theorem qn{n₀:Nat}(B:Nat)(av fv:Value)(c:CodeP)(q:CD.Cnt)(nb0 nv0 nx0:Int)(w:World)(h:Ck B w (ckC av fv c.mn0 q nb0 nv0 nx0 4096))(hf:bh n₀ w fv c.fs)(hn:n₀<=B)(hqf:q.fn=c.fs.length)(hfew:CD.Few c)(hs:fd c)(hT:ShT w)(hBT:B≠shG) :
 Calls Tryz.prog 86 #[.pointer (some ⟨B,0,none⟩)] w fun e w'=>e=.returned (.bool (CD.tf (AllOk q c)))/\w.grownBy w' (some B):=by
 obtain⟨fa,fc,rfl⟩:=hf.form
 have hBw:=h.lt
 obtain⟨z,ez⟩:∃z,z=CD.tf (AllOk q c):=⟨_,rfl⟩
 rw[<-ez]
 have HZ:=zH ez
 have HF:=zH hf
 have HFEW:=zH hfew
 have HS:=zH hs
 have HT:=zH hT
 have HQF:=zH hqf
 have HCK:=zH h
 have i0:(c.fs.length:Int)<=100:=by have:=hfew.f;omega
 have HN0:=zH (show n₀<=w.heap.size by omega)
 have hc1:w.cell? ⟨B,1,none⟩=some (.slice fa c.fs.length fc):=h.at 1 rfl
 clear ez hf hfew hs hT hqf h
 go_enter Tryz.func86,Tryz.ntmps86
 go_wp2_with fail
 go_loopw [11] (fun k wr=>∃i:Nat,i<=c.fs.length/\k=.int .i64 (i:Int)/\RowKit.Hid ((∀j,j<i->CD.aL q c (fnAt c j))/\w.grownBy wr (some B)/\∃nb nv nx,Ck B wr (ckC av (.slice fa c.fs.length fc) c.mn0 q nb nv nx (4096-CD.lenC c i)))) (fun k _=>c.fs.length-(intOf k).toNat)
 case atStart=>exact⟨0,Nat.zero_le _,rfl,zH ⟨fun j hj=>absurd hj (Nat.not_lt_zero _),aN _ (Below.refl _ _),_,_,_,by rw[CD.jF];simpa using HCK.out⟩⟩
 case round =>
  clear hc1 HCK
  obtain⟨w5,rfl⟩:∃w5,w5=wr:=⟨_,rfl⟩
  obtain⟨i,hi,rfl,HI⟩:=hrel
  by_cases hlt:i<c.fs.length
  ·obtain⟨nb,nv,nx,hck⟩:=HI.out.2.2
   have HB5:=zH (aI HI.out.2.1 hn HN0.out)
   obtain⟨lb,lo,ba,bc,efa,hlb,h0,h1,h2,hbl⟩:=(HF.out.below HB5.out).at hlt
   subst efa
   obtain⟨b,eb⟩:∃b,b=fnAt c i:=⟨_,rfl⟩
   have eb2:c.fs[i]?.getD CD.b0=b:=eb.symm
   rw[eb2] at h0 h1 h2 hbl
   have HBE:=zH eb
   have HLT:=zH hlt
   have i5:(0:Int)<=i/\(i:Int)<c.fs.length:=by omega
   obtain⟨w6,ew6⟩:∃w6,w6=w5.alloc (jZ b ba bc):=⟨_,rfl⟩
   have hb6:Below w5.heap.size w5 w6:=by rw[ew6];exact(Below.refl _ _).alloc (Nat.le_refl _) _
   have HG6:=zH (aA HI.out.2.1 (aN (some B) hb6))
   have hle:(CD.lenB b b.bs.length:Int)<=4096-CD.lenC c i/\4096-(CD.lenC c i:Int)<=4096:=by
    have h1:=HFEW.out.all
    have h2:=CD.mi c (show i+1<=c.fs.length by omega)
    rw[CD.gT hlt] at h2
    rw[eb]
    omega
   have HCALL:=zH (nbody_any (n₀:=n₀) B av _ c b q nb nv nx (4096-CD.lenC c i) ba bc w6 (hck.on hb6) (HF.out.below (aI HG6.out hn HN0.out)) hn HFEW.out.f HQF.out (by rw[eb];exact HFEW.out.b i hlt) (by rw[eb];exact HFEW.out.l i hlt) (by rw[eb];exact HS.out i hlt) hle (HT.out.grown HG6.out hBT) hBT (hbl.below (hb6.mono (by have:=HI.out.2.1.size;have:=HN0.out;omega))))
   unfold jZ at ew6
   clear hbl eb eb2 hck hb6 hle hlt
   cases hbk:CD.tf (CD.aL q c b)
   ·have HNO:=zH (show ¬AllOk q c from fun h=>CD.dk hbk (by rw[HBE.out];exact h i HLT.out))
    have HBK:=zH hbk
    have e1:z=false:=by rw[HZ.out];exact CD.bg HNO.out
    clear hbk
    subst e1
    go_wp2_with (go_at_call 136;rw[<-ew6];refine HCALL.out.mono ?_;rintro e w7 ⟨rfl,hg,hck⟩;rw[HBK.out];have HG7:=zH (aA HG6.out hg);clear hg hck)
    go_ret
    exact⟨rfl,HG7.out⟩
   ·have HBK:=zH hbk
    clear hbk
    go_wp2_with (go_at_call 136;rw[<-ew6];refine HCALL.out.mono ?_;rintro e w7 ⟨rfl,hg,hck⟩;rw[HBK.out];have HG7:=zH (aA HG6.out hg);have HC7:=zH (hck (CD.eP HBK.out));clear hg hck)
    have HN:=zH (show (∀j,j<i+1->CD.aL q c (fnAt c j))/\w.grownBy w7 (some B)/\∃nb nv nx,Ck B w7 (ckC av (.slice (some ⟨lb,lo,none⟩) c.fs.length fc) c.mn0 q nb nv nx (4096-CD.lenC c (i+1))) from
     ⟨fun j hj=>by
      by_cases e:j=i
      ·rw[e,<-HBE.out];exact CD.eP HBK.out
      ·exact HI.out.1 j (by omega),HG7.out,by
      have h:=HC7.out
      rw[show (4096:Int)-(CD.lenC c (i+1):Nat)=4096-CD.lenC c i-CD.lenB b b.bs.length by rw[CD.gT HLT.out,HBE.out];omega]
      exact h⟩)
    go_roundw
    case rel=>exact⟨i+1,by have:=HLT.out;omega,by go_num,HN⟩
    case measure=>have:=HLT.out;simp [intOf];omega
  ·have e0:i=c.fs.length:=by omega
   subst e0
   have e1:z=true:=by rw[HZ.out];exact CD.cA HI.out.1
   subst e1
   go_wp2_with fail
   go_ret
   exact⟨by first | rfl | simp,HI.out.2.1⟩
set_option maxRecDepth 100000 in
set_option maxHeartbeats 12800000 in
theorem iT{n₀:Nat}(B:Nat)(av fv:Value)(c:CodeP)(q:CD.Cnt)(nb nv nx lf:Int)(w:World)(h:Ck B w (ckC av fv c.mn0 q nb nv nx lf))(ha:bK n₀ w av c.ar)(hn:n₀<=B)(hal:c.ar.length<=100) :
 Calls Tryz.prog 84 #[.pointer (some ⟨B,0,none⟩)] w fun e w'=>e=.returned (.bool (CD.tf (CD.kq q c.ar)))/\Below w.heap.size w w':=by
 obtain⟨fa,fc,rfl⟩:=ha.form
 have hBw:=h.lt
 obtain⟨z,ez⟩:∃z,z=CD.tf (CD.kq q c.ar):=⟨_,rfl⟩
 rw[<-ez]
 have HZ:=zH ez
 have HA:=zH ha
 have HCK:=zH h
 have i0:(c.ar.length:Int)<=100:=by omega
 have HN0:=zH (show n₀<=w.heap.size by omega)
 have hc0:w.cell? ⟨B,0,none⟩=some (.slice fa c.ar.length fc):=h.at 0 rfl
 clear ez ha h
 go_enter Tryz.func84,Tryz.ntmps84
 go_wp2_with fail
 go_loopw [11] (fun k wr=>∃i:Nat,i<=c.ar.length/\k=.int .i64 (i:Int)/\RowKit.Hid ((∀j,j<i->(1<=(c.ar[j]?.getD (0,0)).1/\(c.ar[j]?.getD (0,0)).1<=256)/\(0<=(c.ar[j]?.getD (0,0)).2/\(c.ar[j]?.getD (0,0)).2<(q.l:Nat)))/\Below w.heap.size w wr)) (fun k _=>c.ar.length-(intOf k).toNat)
 case atStart=>exact⟨0,Nat.zero_le _,rfl,zH ⟨fun j hj=>absurd hj (Nat.not_lt_zero _),Below.refl _ _⟩⟩
 case round =>
  clear hc0
  obtain⟨w5,rfl⟩:∃w5,w5=wr:=⟨_,rfl⟩
  obtain⟨i,hi,rfl,HI⟩:=hrel
  by_cases hlt:i<c.ar.length
  ·obtain⟨lb,lo,efa,hlb,h0,h1⟩:=(HA.out.below (HI.out.2.mono HN0.out)).at hlt
   subst efa
   obtain⟨⟨s,t⟩,es⟩:∃y,y=c.ar[i]?.getD (0,0):=⟨_,rfl⟩
   rw[<-es] at h0 h1
   simp only at h0 h1
   have HES:=zH es
   have HLT:=zH hlt
   have i5:(0:Int)<=i/\(i:Int)<c.ar.length:=by omega
   have HC6:=zH ((HCK.out.on HI.out.2).on ((Below.refl w5.heap.size w5).alloc (Nat.le_refl _) (.cells #[.int .i64 s,.int .i64 t] 119)))
   have HB6:=zH (HI.out.2.alloc HI.out.2.size (.cells #[.int .i64 s,.int .i64 t] 119))
   have HIS:=zH (ja B 5 t (q.l:Nat) (w5.alloc (.cells #[.int .i64 s,.int .i64 t] 119)) (by decide) (HC6.out.at 8 rfl))
   clear es hlt
   have bad:¬((1<=s/\s<=256)/\(0<=t/\t<(q.l:Nat)))->z=false:=fun hb=>by
    rw[HZ.out]
    exact CD.bg (fun h=>hb (by have:=h i HLT.out;rw[<-HES.out] at this;exact this))
   rcases Decidable.em (s<1) with s1 | s1
   ·have e1:=bad (by omega)
    clear bad HZ
    subst e1
    go_wp2_with fail
    go_ret
    exact⟨rfl,HB6.out⟩
   ·rcases Decidable.em (256<s) with s2 | s2
    ·have e1:=bad (by omega)
     clear bad HZ
     subst e1
     go_wp2_with fail
     go_ret
     exact⟨rfl,HB6.out⟩
    ·cases ht:decide (0<=t/\t<(q.l:Nat))
     ·have e1:=bad (fun h=>of_decide_eq_false ht h.2)
      have HTT:=zH ht
      clear bad HZ ht
      subst e1
      go_wp2_with (go_at_call 135;refine HIS.out.mono ?_;rintro e w7 ⟨rfl,e7⟩;rewrite [e7];clear e7;rw[HTT.out])
      go_ret
      exact⟨rfl,HB6.out⟩
     ·have HTT:=zH ht
      clear bad ht
      have HN:=zH (show (∀j,j<i+1->(1<=(c.ar[j]?.getD (0,0)).1/\(c.ar[j]?.getD (0,0)).1<=256)/\(0<=(c.ar[j]?.getD (0,0)).2/\(c.ar[j]?.getD (0,0)).2<(q.l:Nat))) from fun j hj=>by
       by_cases e:j=i
       ·rw[e,<-HES.out];exact⟨by simp only;omega,of_decide_eq_true HTT.out⟩
       ·exact HI.out.1 j (by omega))
      go_wp2_with (go_at_call 135;refine HIS.out.mono ?_;rintro e w7 ⟨rfl,e7⟩;rewrite [e7];clear e7;rw[HTT.out])
      go_roundw
      case rel=>exact⟨i+1,by have:=HLT.out;omega,by go_num,zH ⟨HN.out,HB6.out⟩⟩
      case measure=>have:=HLT.out;simp [intOf];omega
  ·have e0:i=c.ar.length:=by omega
   subst e0
   have e1:z=true:=by rw[HZ.out];exact CD.cA HI.out.1
   subst e1
   go_wp2_with fail
   go_ret
   exact⟨by first | rfl | simp,HI.out.2⟩
end
section
open Go.RowKit
open CD (OpP BodyP CodeP ae blAt fnAt)
theorem nis_q0{B j:Nat}{n T:Int}{W:World}{t:Bool}(hj:j<8)(hc:RowKit.Hid (W.cell? ⟨B,3+j,none⟩=some (.int .i64 T)))(ht:RowKit.Hid (decide (0<=n/\n<T)=t))(d:Nat) :
 Calls Tryz.prog 135 #[.pointer (some ⟨B,0,none⟩),.int .u8 (j:Int),.int .i64 n] (W.drewN d) fun e w'=>e=.returned (.bool t)/\∃k,w'=W.drewN k:=by
 refine(ja B j n T (W.drewN d) hj hc.out).mono ?_
 rintro e w' ⟨rfl,rfl⟩
 exact⟨by rw[ht.out],d,rfl⟩
set_option maxRecDepth 100000 in
set_option maxHeartbeats 6400000 in
theorem mY{n₀:Nat}(B:Nat)(av fv:Value)(c:CodeP)(q:CD.Cnt)(nb nv nx lf:Int)(w:World)(h:Ck B w (ckC av fv c.mn0 q nb nv nx lf))(hf:bh n₀ w fv c.fs)(hqf:q.fn=c.fs.length)(hfl:c.fs.length<=100) :
 Calls Tryz.prog 85 #[.pointer (some ⟨B,0,none⟩)] w fun e w'=>e=.returned (.bool (CD.tf (CD.nA c)))/\Below w.heap.size w w':=by
 obtain⟨fa,fc,rfl⟩:=hf.form
 obtain⟨z,ez⟩:∃z,z=CD.tf (CD.nA c):=⟨_,rfl⟩
 rw[<-ez]
 have HZ:=zH ez
 have hc1:w.cell? ⟨B,1,none⟩=some (.slice fa c.fs.length fc):=h.at 1 rfl
 have hc2:w.cell? ⟨B,2,none⟩=some (.int .i64 c.mn0):=h.at 2 rfl
 have HC5:=zH (show w.cell? ⟨B,3+2,none⟩=some (.int .i64 (q.fn:Nat)) from h.at 5 rfl)
 have i0:(c.fs.length:Int)<=100:=by omega
 clear ez h
 cases ht:decide (0<=c.mn0/\c.mn0<(q.fn:Nat))
 ·have e1:z=false:=by rw[HZ.out];exact CD.bg (fun h=>of_decide_eq_false ht (by rw[hqf];exact h.1))
  have HTT:=zH ht
  clear HZ ht
  subst e1
  go_enter Tryz.func85,Tryz.ntmps85
  go_wp2_with fail
  go_quiet ((go_at_call 135;exact nis_q0 (j:=2) (by decide) HC5 HTT _))
  go_wp2_with fail
  go_ret
  exact⟨rfl,⟨rfl,rfl,rfl,Nat.le_refl _,fun _ _=>rfl⟩⟩
 ·have hr:0<=c.mn0/\c.mn0<(c.fs.length:Nat):=by have:=of_decide_eq_true ht;rwa [hqf] at this
  obtain⟨lb,lo,ba,bc,efa,hlb,h0,_⟩:=hf.at (i:=c.mn0.toNat) (by omega)
  subst efa
  have h0':w.cell? ⟨lb,lo+c.mn0.toNat*3,none⟩=some (.int .i64 (CD.paAt c c.mn0)):=h0
  have HTT:=zH ht
  obtain⟨pa,epa⟩:∃pa,pa=CD.paAt c c.mn0:=⟨_,rfl⟩
  rw[<-epa] at h0'
  have i1:(0:Int)<=c.mn0/\c.mn0<(c.fs.length:Int):=hr
  clear ht h0 hf hqf
  cases hp:(pa == (0:Int))
  ·have e1:z=false:=by rw[HZ.out];exact CD.bg (fun h=>by have:=h.2;rw[<-epa] at this;simp [this] at hp)
   clear HZ epa
   subst e1
   go_enter Tryz.func85,Tryz.ntmps85
   go_wp2_with fail
   go_quiet ((go_at_call 135;exact nis_q0 (j:=2) (by decide) HC5 HTT _))
   go_wp2_with fail
   go_ret
   exact⟨rfl,⟨rfl,rfl,rfl,Nat.le_refl _,fun _ _=>rfl⟩⟩
  ·have e1:z=true:=by rw[HZ.out];exact CD.cA ⟨hr,by rw[<-epa];simpa using hp⟩
   clear HZ epa
   subst e1
   go_enter Tryz.func85,Tryz.ntmps85
   go_wp2_with fail
   go_quiet ((go_at_call 135;exact nis_q0 (j:=2) (by decide) HC5 HTT _))
   go_wp2_with fail
   go_ret
   exact⟨rfl,⟨rfl,rfl,rfl,Nat.le_refl _,fun _ _=>rfl⟩⟩
theorem box5{w:World}{b:Nat}{t:TypeId}{v0 v1 v2 v3 v4:Value}(h:w.heap[b]?=some (.cells #[v0,v1,v2,v3,v4] t)) :
 w.cell? ⟨b,0,none⟩=some v0/\w.cell? ⟨b,1,none⟩=some v1/\w.cell? ⟨b,2,none⟩=some v2/\w.cell? ⟨b,3,none⟩=some v3/\w.cell? ⟨b,4,none⟩=some v4 :=
 ⟨cell_of_row _ _ 0 _ _ _ h,cell_of_row _ _ 1 _ _ _ h,cell_of_row _ _ 2 _ _ _ h,cell_of_row _ _ 3 _ _ _ h,cell_of_row _ _ 4 _ _ _ h⟩
def bI(st:PSt)(c:CodeP):CD.Cnt:=⟨c.ar.length,c.fs.length,st.I.length,st.O.length,st.L.length⟩
set_option maxRecDepth 100000 in
set_option maxHeartbeats 12800000 in
theorem sq(v0 v1 v2 v3 av fv:Value)(st:PSt)(S:List Int)(c:CodeP)(w:World)(hp:PolIn w v0 v1 v2 v3 st S)(hw:Wide S)(hTz:Tz w)(hT:ShT w)(hsh:Short6 st)(ha:bK w.heap.size w av c.ar)(hf:bh w.heap.size w fv c.fs)(hfew:CD.Few c)(hs:fd c) :
 Calls Tryz.prog 57 #[.agg #[v0,v1,v2,v3,.int .i64 st.D],.agg #[av,fv,.int .i64 c.mn0]] w fun e w'=>e=.returned (.bool (CD.tf (CD.fK (aS st S) (bI st c) c)))/\Below w.heap.size w w':=by
 obtain⟨aa,ac,rfl⟩:=ha.form
 obtain⟨fa,fc,rfl⟩:=hf.form
 obtain⟨a0,k0,rfl⟩:=hp.s0.form
 obtain⟨a1,k1,rfl⟩:=hp.s1.form
 obtain⟨a2,k2,rfl⟩:=hp.s2.form
 obtain⟨a3,k3,rfl⟩:=hp.s3.form
 have hl0:=hp.l0
 have hl2:=hp.l2
 have hl3:=hp.l3
 obtain⟨z,ez⟩:∃z,z=CD.tf (CD.fK (aS st S) (bI st c) c):=⟨_,rfl⟩
 rw[<-ez]
 have HZ:=zH ez
 obtain⟨w2,ew2⟩:∃w2,w2=(w.alloc (.cells #[.slice a0 st.L.length k0,.slice a1 S.length k1,.slice a2 st.I.length k2,.slice a3 st.O.length k3,.int .i64 st.D] 26)).alloc (.cells #[.slice aa c.ar.length ac,.slice fa c.fs.length fc,.int .i64 c.mn0] 30):=⟨_,rfl⟩
 have hb2:Below w.heap.size w w2:=by rw[ew2];exact((Below.refl _ _).alloc (Nat.le_refl _) _).alloc (by simp) _
 have HB2:=zH hb2
 have hk5:w2.heap[w.heap.size]?=some (.cells #[.slice a0 st.L.length k0,.slice a1 S.length k1,.slice a2 st.I.length k2,.slice a3 st.O.length k3,.int .i64 st.D] 26):=by
  rw[ew2,Below.heap_alloc _ _ _ (by simp)];exact heap_alloc_new _ _
 have hk3:w2.heap[w.heap.size+1]?=some (.cells #[.slice aa c.ar.length ac,.slice fa c.fs.length fc,.int .i64 c.mn0] 30):=by
  have e:=heap_alloc_new (w.alloc (.cells #[.slice a0 st.L.length k0,.slice a1 S.length k1,.slice a2 st.I.length k2,.slice a3 st.O.length k3,.int .i64 st.D] 26)) (.cells #[.slice aa c.ar.length ac,.slice fa c.fs.length fc,.int .i64 c.mn0] 30)
  rw[show (w.alloc (.cells #[.slice a0 st.L.length k0,.slice a1 S.length k1,.slice a2 st.I.length k2,.slice a3 st.O.length k3,.int .i64 st.D] 26)).heap.size=w.heap.size+1 by simp] at e
  rw[ew2];exact e
 have HK5:=zH (fun w3 (hb:Below w2.heap.size w2 w3)=>box5 ((hb.block _ (Array.getElem?_eq_some_iff.1 hk5).1).trans hk5))
 have HK3:=zH (fun w3 (hb:Below w2.heap.size w2 w3)=>box3 ((hb.block _ (Array.getElem?_eq_some_iff.1 hk3).1).trans hk3))
 have HPR:=zH (fU _ _ _ _ st S w2 (hp.below hb2) hw (hTz.on hb2) hsh)
 have HF:=zH hf
 have HA:=zH ha
 have HT:=zH hT
 have HFEW:=zH hfew
 have HS:=zH hs
 have b1:(c.ar.length:Int)<=100:=by have:=hfew.a;omega
 have b2:(c.fs.length:Int)<=100:=by have:=hfew.f;omega
 have b3:(st.I.length:Int)<=17592186044416:=by omega
 have b4:(st.O.length:Int)<=17592186044416:=by omega
 have b5:(st.L.length:Int)<=17592186044416:=by omega
 clear ez hp hw hTz hT hsh ha hf hfew hs hb2 hk5 hk3 hl0 hl2 hl3
 cases hpol:aS st S
 ·have e1:z=false:=by rw[HZ.out];exact CD.bg (fun h=>by rw[h.1.1] at hpol;cases hpol)
  have HPO:=zH hpol
  clear HZ hpol
  subst e1
  go_enter Tryz.func57,Tryz.ntmps57
  go_wp2_with (go_at_call 51;rw[<-ew2];refine HPR.out.mono ?_;rintro e w3 ⟨rfl,hb⟩;rw[HPO.out];have HB3:=zH hb;clear hb;obtain⟨hc0,hc1,hc2,hc3,hc4⟩:=HK5.out w3 HB3.out;obtain⟨hd0,hd1,hd2⟩:=HK3.out w3 HB3.out)
  go_ret
  exact⟨rfl,HB2.out.trans (HB3.out.mono HB2.out.size)⟩
 ·have HPO:=zH hpol
  rcases Decidable.em (16<(c.ar.length:Int)) with q1 | q1
  ·have e1:z=false:=by rw[HZ.out];exact CD.bg (fun h=>by have:=h.1.2.1;omega)
   clear HZ hpol
   subst e1
   go_enter Tryz.func57,Tryz.ntmps57
   go_wp2_with (go_at_call 51;rw[<-ew2];refine HPR.out.mono ?_;rintro e w3 ⟨rfl,hb⟩;rw[HPO.out];have HB3:=zH hb;clear hb;obtain⟨hc0,hc1,hc2,hc3,hc4⟩:=HK5.out w3 HB3.out;obtain⟨hd0,hd1,hd2⟩:=HK3.out w3 HB3.out)
   go_ret
   exact⟨rfl,HB2.out.trans (HB3.out.mono HB2.out.size)⟩
  ·rcases Decidable.em (64<(c.fs.length:Int)) with q2 | q2
   ·have e1:z=false:=by rw[HZ.out];exact CD.bg (fun h=>by have:=h.1.2.2;omega)
    clear HZ hpol
    subst e1
    go_enter Tryz.func57,Tryz.ntmps57
    go_wp2_with (go_at_call 51;rw[<-ew2];refine HPR.out.mono ?_;rintro e w3 ⟨rfl,hb⟩;rw[HPO.out];have HB3:=zH hb;clear hb;obtain⟨hc0,hc1,hc2,hc3,hc4⟩:=HK5.out w3 HB3.out;obtain⟨hd0,hd1,hd2⟩:=HK3.out w3 HB3.out)
    go_ret
    exact⟨rfl,HB2.out.trans (HB3.out.mono HB2.out.size)⟩
   ·have HG0:=zH (show aS st S=true/\c.ar.length<=16/\c.fs.length<=64 from⟨hpol,by omega,by omega⟩)
    clear hpol
    go_enter Tryz.func57,Tryz.ntmps57
    go_upto_region 4 with(go_at_call 51;rw[<-ew2];refine HPR.out.mono ?_;rintro e w3 ⟨rfl,hb⟩;rw[HPO.out];have HB3:=zH hb;clear hb;obtain⟨hc0,hc1,hc2,hc3,hc4⟩:=HK5.out w3 HB3.out;obtain⟨hd0,hd1,hd2⟩:=HK3.out w3 HB3.out)
    clear hc0 hc1 hc2 hc3 hc4 hd0 hd1 hd2
    obtain⟨w4,ew4⟩:∃w4,w4=w3.alloc (.cells (ckC (.slice aa c.ar.length ac) (.slice fa c.fs.length fc) c.mn0 (bI st c) 0 0 0 4096) 157):=⟨_,rfl⟩
    have HB4:=zH (show Below w.heap.size w w4 by rw[ew4];exact(HB2.out.trans (HB3.out.mono HB2.out.size)).alloc (Nat.le_trans HB2.out.size HB3.out.size) _)
    have HCK:=zH (show Ck w3.heap.size w4 (ckC (.slice aa c.ar.length ac) (.slice fa c.fs.length fc) c.mn0 (bI st c) 0 0 0 4096) by rw[ew4];exact heap_alloc_new _ _)
    have HN:=zH (show w.heap.size<=w3.heap.size from Nat.le_trans HB2.out.size HB3.out.size)
    have HBT:=zH (show w3.heap.size≠shG by have:=HT.out.lt;have:=HN.out;omega)
    have ew5:w4=w3.alloc (.cells #[.slice aa c.ar.length ac,.slice fa c.fs.length fc,.int .i64 c.mn0,.int .i64 1,.int .i64 c.ar.length,.int .i64 c.fs.length,.int .i64 st.I.length,.int .i64 st.O.length,.int .i64 st.L.length,.int .i64 0,.int .i64 0,.int .i64 0,.int .i64 4096] 157):=ew4
    rw[<-ew5]
    clear ew4 ew5
    cases h1:CD.tf (CD.kq (bI st c) c.ar)
    ·have e1:z=false:=by rw[HZ.out];exact CD.bg (fun h=>CD.dk h1 h.2.1)
     have H1:=zH h1
     clear HZ h1
     subst e1
     go_wp2_with (go_at_call 84;refine(iT (n₀:=w.heap.size) w3.heap.size _ _ c (bI st c) 0 0 0 4096 w4 HCK.out (HA.out.below HB4.out) HN.out HFEW.out.a).mono ?_;rintro e w5 ⟨rfl,hb⟩;rw[H1.out];have HB5:=zH hb;clear hb)
     go_ret
     exact⟨rfl,HB4.out.trans (HB5.out.mono HB4.out.size)⟩
    ·cases h2:CD.tf (CD.nA c)
     ·have e1:z=false:=by rw[HZ.out];exact CD.bg (fun h=>CD.dk h2 h.2.2.1)
      have H1:=zH h1
      have H2:=zH h2
      clear HZ h1 h2
      subst e1
      go_wp2_with (first | (go_at_call 84;refine(iT (n₀:=w.heap.size) w3.heap.size _ _ c (bI st c) 0 0 0 4096 w4 HCK.out (HA.out.below HB4.out) HN.out HFEW.out.a).mono ?_;rintro e w5 ⟨rfl,hb⟩;rw[H1.out];have HB5:=zH hb;clear hb) | (go_at_call 85;refine(mY (n₀:=w.heap.size) w3.heap.size _ _ c (bI st c) 0 0 0 4096 w5 (HCK.out.on HB5.out) (HF.out.below (HB4.out.trans (HB5.out.mono HB4.out.size))) rfl HFEW.out.f).mono ?_;rintro e w6 ⟨rfl,hb⟩;rw[H2.out];have HB6:=zH (HB5.out.trans (hb.mono HB5.out.size));clear hb))
      go_ret
      exact⟨rfl,HB4.out.trans (HB6.out.mono HB4.out.size)⟩
     ·obtain⟨y,ey⟩:∃y,y=CD.tf (AllOk (bI st c) c):=⟨_,rfl⟩
      have e1:z=y:=by
       rw[HZ.out,ey]
       exact CD.tf_congr ⟨fun h=>h.2.2.2,fun h=>⟨HG0.out,CD.eP h1,CD.eP h2,h⟩⟩
      have H1:=zH h1
      have H2:=zH h2
      have H3:=zH ey.symm
      clear HZ h1 h2 ey
      subst e1
      cases z <;>
       (go_wp2_with (first | (go_at_call 84;refine(iT (n₀:=w.heap.size) w3.heap.size _ _ c (bI st c) 0 0 0 4096 w4 HCK.out (HA.out.below HB4.out) HN.out HFEW.out.a).mono ?_;rintro e w5 ⟨rfl,hb⟩;rw[H1.out];have HB5:=zH hb;clear hb) | (go_at_call 85;refine(mY (n₀:=w.heap.size) w3.heap.size _ _ c (bI st c) 0 0 0 4096 w5 (HCK.out.on HB5.out) (HF.out.below (HB4.out.trans (HB5.out.mono HB4.out.size))) rfl HFEW.out.f).mono ?_;rintro e w6 ⟨rfl,hb⟩;rw[H2.out];have HB6:=zH (HB5.out.trans (hb.mono HB5.out.size));clear hb) | (go_at_call 86;refine(qn (n₀:=w.heap.size) w3.heap.size _ _ c (bI st c) 0 0 0 w6 (HCK.out.on HB6.out) (HF.out.below (HB4.out.trans (HB6.out.mono HB4.out.size))) HN.out rfl HFEW.out HS.out ((HT.out.on HB4.out).on HB6.out) HBT.out).mono ?_;rintro e w7 ⟨rfl,hg⟩;rw[H3.out];have HB7:=zH ((HB4.out.trans (HB6.out.mono HB4.out.size)).trans (aI hg HN.out (Nat.le_trans HB4.out.size HB6.out.size)));clear hg))
        go_ret
        exact⟨rfl,HB7.out⟩)
end
section
open Go.RowKit
open CD (OpP BodyP CodeP ae blAt fnAt)
theorem qo{q:CD.Cnt}{c:CodeP}(h:∀i,i<c.fs.length->CD.aL q c (fnAt c i))(r:Int):CD.paAt c r<=4096:=by
 unfold CD.paAt
 by_cases hr:r.toNat<c.fs.length
 ·have:=(h _ hr).1.1
  omega
 ·unfold fnAt
  rw[List.getElem?_eq_none (by omega)]
  show (0:Int)<=4096
  omega
theorem qp{q:CD.Cnt}{c:CodeP}(hf:CD.Few c){i:Nat}(hi:i<c.fs.length)(h:CD.aL q c (fnAt c i)):(fnAt c i).va<=400:=by
 have h1:=h.2.2
 have h2:=CD.cntB_le (fnAt c i) (fnAt c i).bs.length (Nat.le_refl _)
 have h3:=CD.mi c (show i+1<=c.fs.length by omega)
 rw[CD.gT hi] at h3
 have h4:=hf.all
 have h5:=h.1.1
 omega
def gj(pol:Bool)(q:CD.Cnt)(c:CodeP):Prop:=CD.fK pol q c/\∀i,i<c.fs.length->jY (fnAt c i)
set_option maxRecDepth 100000 in
set_option maxHeartbeats 3200000 in
theorem check_any(v0 v1 v2 v3 av fv:Value)(st:PSt)(S:List Int)(c:CodeP)(w:World)(hp:PolIn w v0 v1 v2 v3 st S)(hw:Wide S)(hTz:Tz w)(hT:ShT w)(hsh:Short6 st)(ha:bK w.heap.size w av c.ar)(hf:bh w.heap.size w fv c.fs)(hfew:CD.Few c)(hs:fd c) :
 Calls Tryz.prog 32 #[.agg #[v0,v1,v2,v3,.int .i64 st.D],.agg #[av,fv,.int .i64 c.mn0]] w fun e w'=>(∃(i at':Int) (k:Nat),e=.returned (.tuple #[.int .i64 i,.int .i64 at',.int .i64 k])/\(k=0↔gj (aS st S) (bI st c) c))/\Below w.heap.size w w':=by
 obtain⟨aa,ac,rfl⟩:=ha.form
 obtain⟨fa,fc,rfl⟩:=hf.form
 obtain⟨a0,k0,rfl⟩:=hp.s0.form
 obtain⟨a1,k1,rfl⟩:=hp.s1.form
 obtain⟨a2,k2,rfl⟩:=hp.s2.form
 obtain⟨a3,k3,rfl⟩:=hp.s3.form
 obtain⟨w2,ew2⟩:∃w2,w2=(w.alloc (.cells #[.slice a0 st.L.length k0,.slice a1 S.length k1,.slice a2 st.I.length k2,.slice a3 st.O.length k3,.int .i64 st.D] 26)).alloc (.cells #[.slice aa c.ar.length ac,.slice fa c.fs.length fc,.int .i64 c.mn0] 30):=⟨_,rfl⟩
 have hb2:Below w.heap.size w w2:=by rw[ew2];exact((Below.refl _ _).alloc (Nat.le_refl _) _).alloc (by simp) _
 have HB2:=zH hb2
 have hk5:w2.heap[w.heap.size]?=some (.cells #[.slice a0 st.L.length k0,.slice a1 S.length k1,.slice a2 st.I.length k2,.slice a3 st.O.length k3,.int .i64 st.D] 26):=by
  rw[ew2,Below.heap_alloc _ _ _ (by simp)];exact heap_alloc_new _ _
 have hk3:w2.heap[w.heap.size+1]?=some (.cells #[.slice aa c.ar.length ac,.slice fa c.fs.length fc,.int .i64 c.mn0] 30):=by
  have e:=heap_alloc_new (w.alloc (.cells #[.slice a0 st.L.length k0,.slice a1 S.length k1,.slice a2 st.I.length k2,.slice a3 st.O.length k3,.int .i64 st.D] 26)) (.cells #[.slice aa c.ar.length ac,.slice fa c.fs.length fc,.int .i64 c.mn0] 30)
  rw[World.size_alloc] at e
  rw[ew2];exact e
 have HNR:=zH (sq _ _ _ _ _ _ st S c w2 (hp.below hb2) hw (hTz.on hb2) (hT.on hb2) hsh ((ha.below hb2).mono hb2.size) ((hf.below hb2).mono hb2.size) hfew hs)
 obtain⟨p0,p1,p2,p3,p4⟩:=box5 hk5
 obtain⟨d0,d1,d2⟩:=box3 hk3
 have HK3:=zH hk3
 have HF:=zH hf
 have HFEW:=zH hfew
 have b2:(c.fs.length:Int)<=100:=by have:=hfew.f;omega
 obtain⟨z,ez⟩:∃z,z=CD.tf (CD.fK (aS st S) (bI st c) c):=⟨_,rfl⟩
 rw[<-ez] at HNR
 have HZ:=zH ez
 clear ez hp hw hTz hT hsh ha hf hfew hs hb2 hk5 hk3
 cases z
 ·have HNO:=zH (show ¬gj (aS st S) (bI st c) c from fun h=>CD.dk HZ.out.symm h.1)
  go_enter Tryz.func32,Tryz.ntmps32
  go_wp2_with (go_at_call 57;rw[<-ew2];refine HNR.out.mono ?_;rintro e w3 ⟨rfl,hb3⟩)
  go_ret3
  exact⟨⟨0,0,1,rfl,⟨(fun h=>by cases h),(fun h=>absurd h HNO.out)⟩⟩,HB2.out.trans (hb3.mono HB2.out.size)⟩
 ·have HOK:=zH (CD.eP HZ.out.symm)
  go_enter Tryz.func32,Tryz.ntmps32
  go_upto_region 3 with(go_at_call 57;rw[<-ew2];refine HNR.out.mono ?_;rintro e w3 ⟨rfl,hb3⟩)
  have HB3:=zH (HB2.out.trans (hb3.mono HB2.out.size))
  have hk3':=(hb3.block _ (Array.getElem?_eq_some_iff.1 HK3.out).1).trans HK3.out
  obtain⟨u0,u1,u2⟩:=box3 hk3'
  clear hb3 hk3' p0 p1 p2 p3 p4 d0 d1 d2
  go_wp2_with fail
  go_loopw [18] (fun k wr=>∃i:Nat,i<=c.fs.length/\k=.int .i64 (i:Int)/\RowKit.Hid ((∀j,j<i->jY (fnAt c j))/\Below w.heap.size w wr)) (fun k _=>c.fs.length-(intOf k).toNat)
  case atStart=>exact⟨0,Nat.zero_le _,rfl,zH ⟨fun j hj=>absurd hj (Nat.not_lt_zero _),HB3.out⟩⟩
  case round =>
   clear u0 u1 u2
   obtain⟨w4,rfl⟩:∃w4,w4=wr:=⟨_,rfl⟩
   obtain⟨i,hi,rfl,HI⟩:=hrel
   by_cases hlt:i<c.fs.length
   ·obtain⟨blk,off,ba,bc,efa,hblk,f0,f1,f2,hbs⟩:=(HF.out.below HI.out.2).at hlt
    subst efa
    have i1:(0:Int)<=i/\(i:Int)<c.fs.length:=by omega
    have hbo:=HOK.out.2.2.2 i hlt
    have HLT:=zH hlt
    have hs4:=HI.out.2.size
    have HB5:=zH ((Below.refl w4.heap.size w4).alloc (Nat.le_refl _) (.cells #[.int .i64 (fnAt c i).pa,.int .i64 (fnAt c i).va,.slice ba (fnAt c i).bs.length bc] 52))
    have HFA:=zH (fault_any hbo (HFEW.out.l i hlt) (qp HFEW.out hlt hbo) (qo (fun j hj=>HOK.out.2.2.2 j hj)) ba bc w.heap.size (w4.alloc (.cells #[.int .i64 (fnAt c i).pa,.int .i64 (fnAt c i).va,.slice ba (fnAt c i).bs.length bc] 52)) (by rw[World.size_alloc];omega) ((show aX w.heap.size w4 (.slice ba (fnAt c i).bs.length bc) (fnAt c i).bs from hbs).below (HB5.out.mono hs4)))
    replace f0:w4.cell? ⟨blk,off+i*3,none⟩=some (.int .i64 (fnAt c i).pa):=f0
    replace f1:w4.cell? ⟨blk,off+i*3+1,none⟩=some (.int .i64 (fnAt c i).va):=f1
    replace f2:w4.cell? ⟨blk,off+i*3+2,none⟩=some (.slice ba (fnAt c i).bs.length bc):=f2
    clear hbs hbo hlt
    go_upto_region 7 with(go_at_call 58;refine HFA.out.mono ?_;rintro e w5 ⟨⟨at5,k5,rfl,hk5⟩,hb5⟩)
    have HK5:=zH hk5
    have HB6:=zH (HI.out.2.trans ((HB5.out.trans (hb5.mono HB5.out.size)).mono hs4))
    clear hk5 hb5 f0 f1 f2
    by_cases hz:k5=0
    ·subst hz
     have HN:=zH (show ∀j,j<i+1->jY (fnAt c j) from fun j hj=>by
      by_cases e:j=i
      ·rw[e];exact HK5.out.1 rfl
      ·exact HI.out.1 j (by omega))
     go_wp2_with fail
     go_roundw
     case rel=>exact⟨i+1,HLT.out,by go_num,zH ⟨HN.out,HB6.out⟩⟩
     case measure=>have:=HLT.out;simp [intOf];omega
    ·have HZ5:=zH hz
     have hne:((k5:Int) != 0)=true:=by rw[bne_iff_ne];omega
     go_wp2_with fail
     go_ret3
     exact⟨⟨i,at5,k5,rfl,⟨fun h=>absurd h HZ5.out,fun h=>absurd (HK5.out.2 (h.2 i HLT.out)) HZ5.out⟩⟩,HB6.out⟩
   ·have ei:i=c.fs.length:=by omega
    subst ei
    go_wp2_with fail
    go_ret3
    exact⟨⟨0,0,0,rfl,⟨fun _=>⟨HOK.out,HI.out.1⟩,fun _=>rfl⟩⟩,HI.out.2⟩
set_option maxRecDepth 100000 in
set_option maxHeartbeats 3200000 in
theorem km(v0 v1 v2 v3 av fv:Value)(st:PSt)(S:List Int)(c:CodeP)(w:World)(hp:PolIn w v0 v1 v2 v3 st S)(hw:Wide S)(hTz:Tz w)(hT:ShT w)(hsh:Short6 st)(ha:bK w.heap.size w av c.ar)(hf:bh w.heap.size w fv c.fs)(hfew:CD.Few c)(hs:fd c) :
 Calls Tryz.prog 16 #[.agg #[v0,v1,v2,v3,.int .i64 st.D],.agg #[av,fv,.int .i64 c.mn0]] w fun e w'=>e=.returned (.bool (CD.tf (gj (aS st S) (bI st c) c)))/\Below w.heap.size w w':=by
 obtain⟨aa,ac,rfl⟩:=ha.form
 obtain⟨fa,fc,rfl⟩:=hf.form
 obtain⟨a0,k0,rfl⟩:=hp.s0.form
 obtain⟨a1,k1,rfl⟩:=hp.s1.form
 obtain⟨a2,k2,rfl⟩:=hp.s2.form
 obtain⟨a3,k3,rfl⟩:=hp.s3.form
 obtain⟨w2,ew2⟩:∃w2,w2=(w.alloc (.cells #[.slice a0 st.L.length k0,.slice a1 S.length k1,.slice a2 st.I.length k2,.slice a3 st.O.length k3,.int .i64 st.D] 26)).alloc (.cells #[.slice aa c.ar.length ac,.slice fa c.fs.length fc,.int .i64 c.mn0] 30):=⟨_,rfl⟩
 have hb2:Below w.heap.size w w2:=by rw[ew2];exact((Below.refl _ _).alloc (Nat.le_refl _) _).alloc (by simp) _
 have HB2:=zH hb2
 have HCK:=zH (check_any _ _ _ _ _ _ st S c w2 (hp.below hb2) hw (hTz.on hb2) (hT.on hb2) hsh ((ha.below hb2).mono hb2.size) ((hf.below hb2).mono hb2.size) hfew hs)
 obtain⟨z,ez⟩:∃z,z=CD.tf (gj (aS st S) (bI st c) c):=⟨_,rfl⟩
 rw[<-ez]
 have HZ:=zH ez
 clear ez hp hw hTz hT hsh ha hf hfew hs hb2
 go_enter Tryz.func16,Tryz.ntmps16
 go_wp2_with (go_at_call 32;rw[<-ew2];refine HCK.out.mono ?_;rintro e w3 ⟨⟨i3,at3,k3',rfl,hk3⟩,hb3⟩;have HK3:=zH hk3;have HB3:=zH (HB2.out.trans (hb3.mono HB2.out.size));clear hk3 hb3)
 go_ret
 refine⟨?_,HB3.out⟩
 have e1:z=decide (k3'=0):=by
  rw[HZ.out]
  exact CD.tf_eq (by rw[<-HK3.out];simp)
 rw[e1]
 by_cases h0:k3'=0
 ·subst h0;rfl
 ·have:((k3':Int) == 0)=false:=by rw[beq_eq_false_iff_ne];omega
  simp [h0,this]
end
section
open Go.RowKit
open CD (OpP BodyP CodeP ae blAt fnAt)
def jz(c:CodeP)(i:Nat):List (List Int):=(List.range i).map fun j=>fP (fnAt c j)
theorem sr(c:CodeP)(i:Nat):jz c (i+1)=jz c i ++ [fP (fnAt c i)]:=by unfold jz;rw[List.range_succ,List.map_append];rfl
theorem rowsU_len(c:CodeP)(i:Nat):(jz c i).length=i:=by unfold jz;rw[List.length_map,List.length_range]
theorem refs_in{pol:Bool}{q:CD.Cnt}{c:CodeP}(hq:q.fn=c.fs.length)(h:CD.fK pol q c){i:Nat}(hi:i<c.fs.length):∀x∈cl (fnAt c i),0<=x/\x<(c.fs.length:Nat):=by
 intro x hx
 obtain⟨k,j,hk,hj,h7,rfl⟩:=jJ.1 hx
 have h1:=(((h.2.2.2 i hi).2.1 k hk).2 j hj).1.2.2.2.1
 rw[h7] at h1
 have h2:CD.refN q (fnAt c i).bs.length 7=c.fs.length:=by unfold CD.refN;simp [hq]
 rw[h2] at h1
 exact h1
theorem rowsU_all{pol:Bool}{q:CD.Cnt}{c:CodeP}(hq:q.fn=c.fs.length)(h:CD.fK pol q c):jz c c.fs.length=toC c:=by
 unfold jz toC
 exact List.map_congr_left fun i hi=>rq (refs_in hq h (List.mem_range.1 hi))
def CtoE(R:Prop)(c:CodeP)(e:Ending)(W:World):Prop:=(R->∃v,e=.returned (.tuple #[v,.int .i64 0])/\az W.heap.size W v (toC c))/\(¬R->e=.returned (.tuple #[.slice none 0 0,.int .i64 1]))
theorem ctoE_yes{R:Prop}(h:R){c:CodeP}{v:Value}{W:World}(hg:az W.heap.size W v (toC c)):CtoE R c (.returned (.tuple #[v,.int .i64 0])) W:=⟨fun _=>⟨v,rfl,hg⟩,fun g=>absurd h g⟩
theorem ctoE_no{R:Prop}(h:¬R){c:CodeP}{W:World}:CtoE R c (.returned (.tuple #[.slice none 0 0,.int .i64 1])) W:=⟨fun g=>absurd g h,fun _=>rfl⟩
set_option maxRecDepth 100000 in
set_option maxHeartbeats 6400000 in
theorem cto_any(v0 v1 v2 v3 av fv:Value)(st:PSt)(S:List Int)(c:CodeP)(w:World)(hp:PolIn w v0 v1 v2 v3 st S)(hw:Wide S)(hTz:Tz w)(hT:ShT w)(hsh:Short6 st)(ha:bK w.heap.size w av c.ar)(hf:bh w.heap.size w fv c.fs)(hfew:CD.Few c)(hs:fd c) :
 Calls Tryz.prog 6 #[.agg #[v0,v1,v2,v3,.int .i64 st.D],.agg #[av,fv,.int .i64 c.mn0]] w fun e w'=>CtoE (gj (aS st S) (bI st c) c) c e w'/\Below w.heap.size w w':=by
 obtain⟨aa,ac,rfl⟩:=ha.form
 obtain⟨fa,fc,rfl⟩:=hf.form
 obtain⟨a0,k0,rfl⟩:=hp.s0.form
 obtain⟨a1,k1,rfl⟩:=hp.s1.form
 obtain⟨a2,k2,rfl⟩:=hp.s2.form
 obtain⟨a3,k3,rfl⟩:=hp.s3.form
 obtain⟨j0,hj0,hy0,hy1,hy2⟩:=info_parts Tryz.infoGRow
 have HBX:=zH (boxes2 w (.cells #[.slice a0 st.L.length k0,.slice a1 S.length k1,.slice a2 st.I.length k2,.slice a3 st.O.length k3,.int .i64 st.D] 26) (.cells #[.slice aa c.ar.length ac,.slice fa c.fs.length fc,.int .i64 c.mn0] 30))
 obtain⟨w2,ew2⟩:∃w2,w2=(w.alloc (.cells #[.slice a0 st.L.length k0,.slice a1 S.length k1,.slice a2 st.I.length k2,.slice a3 st.O.length k3,.int .i64 st.D] 26)).alloc (.cells #[.slice aa c.ar.length ac,.slice fa c.fs.length fc,.int .i64 c.mn0] 30):=⟨_,rfl⟩
 rw[<-ew2] at HBX
 have EW:=zH ew2
 have hb2:=HBX.out.2
 have HCK:=zH (km _ _ _ _ _ _ st S c w2 (hp.below hb2) hw (hTz.on hb2) (hT.on hb2) hsh ((ha.below hb2).mono hb2.size) ((hf.below hb2).mono hb2.size) hfew hs)
 have HF2:=zH ((hf.below hb2).mono hb2.size)
 have HFEW:=zH hfew
 have HALL:=zH (fun(h:gj (aS st S) (bI st c) c)=>rowsU_all (q:=bI st c) rfl h.1)
 obtain⟨R,eR⟩:∃R,R=gj (aS st S) (bI st c) c:=⟨_,rfl⟩
 rw[<-eR] at HCK HALL ⊢
 obtain⟨p0,p1,p2,p3,p4⟩:=box5 HBX.out.1.1
 obtain⟨q0,q1,q2⟩:=box3 HBX.out.1.2
 clear hp hw hTz hT hsh ha hf hfew hs hb2 ew2 eR
 have hfl:c.fs.length<=100:=HFEW.out.f
 go_enter Tryz.func6,Tryz.ntmps6
 by_cases hR:R
 ·have HR:=zH hR
  rw[show CD.tf R=true from CD.tf_eq (b:=true) ⟨fun _=>rfl,fun _=>hR⟩] at HCK
  clear hR
  go_wp2_with (go_at_call 16;rw[<-EW.out];refine HCK.out.mono ?_;rintro e w3 ⟨rfl,hb3⟩;have HB3:=zH hb3;obtain⟨r0,r1,r2⟩:=box3 (eS hb3 HBX.out.1.2);clear hb3 p0 p1 p2 p3 p4 q0 q1 q2)
  have HF3:=zH ((HF2.out.below HB3.out).mono HB3.out.size)
  go_loopw [6,16] (fun s6 s16 wr=>∃(i:Nat) (vs:List Value),i<=c.fs.length/\s16=.int .i64 (i:Int)/\RowKit.Hid (wr.ownsRow w3.heap.size 54 1 s6 i vs/\GG.Rows w3.heap.size wr vs (jz c i)/\Below w3.heap.size w3 wr)) (fun _ s16 _=>c.fs.length-(intOf s16).toNat)
  case atStart=>exact⟨0,[],Nat.zero_le _,rfl,zH ⟨World.ownsRow_nil _ _ _ _,GG.Rows.nil _ _,Below.refl _ _⟩⟩
  case round =>
   obtain⟨w5,rfl⟩:∃w5,w5=wr:=⟨_,rfl⟩
   obtain⟨i,vs,hi,rfl,HI⟩:=hrel
   obtain⟨oa,oc,rfl⟩:=GG.ap HI.out.1
   by_cases hlt:i<c.fs.length
   ·have HLT:=zH hlt
    have HF5:=zH (HF3.out.below HI.out.2.2)
    obtain⟨blk,off,ba,bc,efa,hblk,f0,f1,f2,hbs⟩:=HF5.out.at hlt
    subst efa
    have HFN:=zH (show c.fs[i]?.getD CD.b0=fnAt c i from rfl)
    rw[HFN.out] at f0 f1 f2 hbs
    have hbl:=HFEW.out.b i hlt
    have HK:=zH (HFEW.out.l i hlt)
    have HUS:=zH (sr c i)
    obtain⟨b,eb⟩:∃b,b=fnAt c i:=⟨_,rfl⟩
    rw[<-eb] at f0 f1 f2 hbs hbl HK HUS
    have HBL:=zH hbl
    have HBS:=zH hbs
    have HS5:=zH HI.out.2.2.size
    have i1:(0:Int)<=i/\(i:Int)<c.fs.length:=by omega
    clear eb hlt hbs hbl
    obtain⟨w6,ew6⟩:∃w6,w6=w5.alloc (.cells #[.int .i64 b.pa,.int .i64 b.va,.slice ba b.bs.length bc] 52):=⟨_,rfl⟩
    have HB6:=zH (show Below w5.heap.size w5 w6 by rw[ew6];exact(Below.refl _ _).alloc (Nat.le_refl _) _)
    have HEW6:=zH ew6
    have HCA:=zH (sg b HK.out HBL.out ba bc w6 (Nat.le_trans HS5.out HB6.out.size) (HBS.out.below (HB6.out.mono HS5.out)))
    have HI6:=zH (show w6.ownsRow w3.heap.size 54 1 (.slice oa i oc) i vs/\GG.Rows w3.heap.size w6 vs (jz c i)/\Below w3.heap.size w3 w6 by rw[ew6];exact⟨HI.out.1.alloc _,HI.out.2.1.alloc _,HI.out.2.2.alloc HI.out.2.2.size _⟩)
    clear ew6
    go_wp2_with (first
     | (go_at_call 17
        rw[<-HEW6.out]
        refine HCA.out.mono ?_
        rintro e w7 ⟨u,rfl,hu,hb7⟩
        obtain⟨ua,uc,rfl⟩:=GG.ap hu
        have HN:=zH (NewRow.mk hb7 hu)
        have HSZ:=zH (show w3.heap.size<=w7.heap.size from Nat.le_trans HI6.out.2.2.size hb7.size)
        clear hu hb7 f0 f1 f2)
     | (at_builtin
        refine GG.wpList_append_any rfl _ _ 32 rfl w3.heap.size 54 j0 (.slice none 0 0) 1 24 Tryz.underlying32 hj0 hy0 hy1 hy2 rfl (by decide) (.slice oa i oc) i vs rfl ((HN.out.out HI6.out.1).alloc _) (.slice (some ⟨_,0,none⟩) 1 1) 1 [.slice ua (fP b).length uc] rfl rfl (.inr ⟨_,_,rfl,GG.aW _ _ _⟩) (by intro u hu;rw[List.mem_singleton.1 hu];rfl) (by unfold maxLen;omega) (by omega) (by have:=HSZ.out;simp;omega) ?_
        intro v8 w8 ho hg
        have HD:=zH (HN.out.app HI6.out.2.2 HI6.out.2.2.size HI6.out.2.1 HI6.out.1 ho hg)
        clear ho hg))
    go_roundw
    case rel=>exact⟨i+1,_,HLT.out,by go_num,zH ⟨HD.out.1,by rw[HUS.out];exact HD.out.2.1,HD.out.2.2⟩⟩
    case measure=>have:=HLT.out;simp [intOf];omega
   ·have ei:i=c.fs.length:=by omega
    subst ei
    have HG:=zH (show az w5.heap.size w5 (.slice oa c.fs.length oc) (toC c) by
     have h:=HI.out.2.1.graph (v:=.slice oa c.fs.length oc) (by rw[rowsU_len];exact HI.out.1)
     rw[HALL.out HR.out] at h
     exact h)
    clear hlt
    go_wp2_with fail
    go_ret2
    exact⟨ctoE_yes HR.out HG.out,HBX.out.2.trans ((HB3.out.trans (HI.out.2.2.mono HB3.out.size)).mono HBX.out.2.size)⟩
 ·have HR:=zH hR
  rw[show CD.tf R=false from CD.tf_eq (b:=false) ⟨fun h=>absurd h hR,fun h=>nomatch h⟩] at HCK
  clear hR
  go_wp2_with (go_at_call 16;rw[<-EW.out];refine HCK.out.mono ?_;rintro e w3 ⟨rfl,hb3⟩;have HB3:=zH (HBX.out.2.trans (hb3.mono HBX.out.2.size));clear hb3 p0 p1 p2 p3 p4 q0 q1 q2)
  go_ret2
  exact⟨ctoE_no HR.out,HB3.out⟩
end
section
open Go.RowKit
open CD (OpP BodyP CodeP ae blAt fnAt)
theorem ent_ge{tt:List (List Int)}{m:Int}{i:Nat}(hi:i<(entL tt m).length):-1<=(entL tt m)[i]?.getD 0:=by
 by_cases h:GG.am tt=true/\GG.inB tt.length m=true
 ·have e0:entL tt m=(List.range tt.length).map (bE tt m.toNat):=by unfold entL;rw[if_pos h]
  have hm:m.toNat<tt.length:=by
   have h2:=h.2
   unfold GG.inB at h2
   simp at h2
   omega
  rw[e0] at hi ⊢
  rw[List.length_map,List.length_range] at hi
  rw[List.getElem?_map,List.getElem?_range hi]
  simp only[Option.map_some,Option.getD_some]
  have s:=dR h.1 hm i hi
  by_cases z0:bE tt m.toNat i=0
  ·omega
  by_cases z1:bE tt m.toNat i = -1
  ·omega
  have:=(s.v z0 z1).1
  omega
 ·rw[show entL tt m=[] by unfold entL;rw[if_neg h]] at hi
  exact absurd hi (Nat.not_lt_zero _)
def CdeepE(R:Prop)(c:CodeP)(D:Int)(e:Ending)(W:World):Prop:=(R->∃v,e=.returned (.tuple #[v,.int .i64 0])/\BRow W.heap.size W v (gP c D))/\(¬R->e=.returned (.tuple #[.slice none 0 0,.int .i64 1]))
theorem su{R:Prop}(h:R){c:CodeP}{D:Int}{v:Value}{W:World}(hg:BRow W.heap.size W v (gP c D)):CdeepE R c D (.returned (.tuple #[v,.int .i64 0])) W:=⟨fun _=>⟨v,rfl,hg⟩,fun g=>absurd h g⟩
theorem cdeepE_no{R:Prop}(h:¬R){c:CodeP}{D:Int}{W:World}:CdeepE R c D (.returned (.tuple #[.slice none 0 0,.int .i64 1])) W:=⟨fun g=>absurd g h,fun _=>rfl⟩
set_option maxRecDepth 100000 in
set_option maxHeartbeats 6400000 in
theorem cdeep_any(v0 v1 v2 v3 av fv:Value)(st:PSt)(S:List Int)(c:CodeP)(w:World)(hp:PolIn w v0 v1 v2 v3 st S)(hw:Wide S)(hTz:Tz w)(hT:ShT w)(hsh:Short6 st)(ha:bK w.heap.size w av c.ar)(hf:bh w.heap.size w fv c.fs)(hfew:CD.Few c)(hs:fd c) :
 Calls Tryz.prog 9 #[.agg #[v0,v1,v2,v3,.int .i64 st.D],.agg #[av,fv,.int .i64 c.mn0]] w fun e w'=>CdeepE (gj (aS st S) (bI st c) c) c st.D e w'/\Below w.heap.size w w':=by
 obtain⟨aa,ac,rfl⟩:=ha.form
 obtain⟨fa,fc,rfl⟩:=hf.form
 obtain⟨a0,k0,rfl⟩:=hp.s0.form
 obtain⟨a1,k1,rfl⟩:=hp.s1.form
 obtain⟨a2,k2,rfl⟩:=hp.s2.form
 obtain⟨a3,k3,rfl⟩:=hp.s3.form
 obtain⟨b0,hb0,hy0,hy1,hy2⟩:=info_parts Tryz.infoGBool
 have HBX:=zH (boxes2 w (.cells #[.slice a0 st.L.length k0,.slice a1 S.length k1,.slice a2 st.I.length k2,.slice a3 st.O.length k3,.int .i64 st.D] 26) (.cells #[.slice aa c.ar.length ac,.slice fa c.fs.length fc,.int .i64 c.mn0] 30))
 obtain⟨w2,ew2⟩:∃w2,w2=(w.alloc (.cells #[.slice a0 st.L.length k0,.slice a1 S.length k1,.slice a2 st.I.length k2,.slice a3 st.O.length k3,.int .i64 st.D] 26)).alloc (.cells #[.slice aa c.ar.length ac,.slice fa c.fs.length fc,.int .i64 c.mn0] 30):=⟨_,rfl⟩
 rw[<-ew2] at HBX
 have EW:=zH ew2
 have hb2:=HBX.out.2
 have HCK:=zH (cto_any _ _ _ _ _ _ st S c w2 (hp.below hb2) hw (hTz.on hb2) (hT.on hb2) hsh ((ha.below hb2).mono hb2.size) ((hf.below hb2).mono hb2.size) hfew hs)
 have HSM:=zH (toC_small hfew.f)
 have hn:(entL (toC c) c.mn0).length<=100:=by have:=ent_len (toC c) c.mn0;rw[io] at this;have:=hfew.f;omega
 have HGE:=zH (fun(i:Nat) (hi:i<(entL (toC c) c.mn0).length)=>ent_ge hi)
 obtain⟨xs,exs⟩:∃xs,xs=entL (toC c) c.mn0:=⟨_,rfl⟩
 have HXS:=zH exs
 rw[<-exs] at hn HGE
 have HDL:=zH (show gP c st.D=xs.map (iA st.D) by unfold gP;rw[<-exs])
 obtain⟨R,eR⟩:∃R,R=gj (aS st S) (bI st c) c:=⟨_,rfl⟩
 rw[<-eR] at HCK ⊢
 obtain⟨p0,p1,p2,p3,p4⟩:=box5 HBX.out.1.1
 obtain⟨q0,q1,q2⟩:=box3 HBX.out.1.2
 clear hp hw hTz hT hsh ha hf hfew hs hb2 ew2 eR exs
 go_enter Tryz.func9,Tryz.ntmps9
 by_cases hR:R
 ·have HR:=zH hR
  clear hR
  go_wp2_with (first
   | (go_at_call 6
      rw[<-EW.out]
      refine HCK.out.mono ?_
      rintro e w3 ⟨h3,hb3⟩
      obtain⟨tv,rfl,hg3⟩:=h3.1 HR.out
      obtain⟨ta,tc,etv⟩:=hg3.form
      subst etv
      have HB3:=zH hb3
      have HG3:=zH hg3
      obtain⟨r0,r1,r2⟩:=box3 (eS hb3 HBX.out.1.2)
      clear hb3 h3 hg3 p0 p1 p2 p3 p4 q0 q1 q2)
   | (go_at_call 18
      refine(jy c.mn0 _ HG3.out HSM.out).mono ?_
      rintro e w4 ⟨ev,rfl,hr4,hb4⟩
      rw[<-HXS.out] at hr4
      obtain⟨xa,xc,exv⟩:=hr4.form
      subst exv
      have HR4:=zH hr4
      have HB4:=zH (HB3.out.trans (hb4.mono HB3.out.size))
      clear hr4 hb4 r0 r1 r2))
  have HP:=zH (eS HB4.out HBX.out.1.1)
  go_loopw [8,25] (fun s8 s25 wr=>∃i:Nat,i<=xs.length/\s25=.int .i64 (i:Int)/\RowKit.Hid (wr.ownsRow w4.heap.size 4 1 s8 i (bJ (dK st.D xs i))/\Below w4.heap.size w4 wr)) (fun _ s25 _=>xs.length-(intOf s25).toNat)
  case atStart=>exact⟨0,Nat.zero_le _,rfl,zH ⟨World.ownsRow_nil _ _ _ _,Below.refl _ _⟩⟩
  case round =>
   obtain⟨w5,rfl⟩:∃w5,w5=wr:=⟨_,rfl⟩
   obtain⟨i,hi,rfl,HI⟩:=hrel
   obtain⟨oa,oc,rfl⟩:=GG.ap HI.out.1
   by_cases hlt:i<xs.length
   ·obtain⟨rb,ro,e1,hc⟩:=(HR4.out.below HI.out.2).cellAt hlt
    cases e1
    have HLT:=zH hlt
    have p4:w5.cell? ⟨w.heap.size,4,none⟩=some (.int .i64 st.D):=cell_of_row _ _ 4 _ _ _ (eS HI.out.2 HP.out)
    have hge:=HGE.out i hlt
    have HOB:=zH (fun(Z:World) (v1:Value) (o:Obj) (ho:Z.ownsRow w4.heap.size 4 1 v1 (i+1) (bJ (dK st.D xs i) ++ [.bool (iA st.D (xs[i]?.getD 0))])) (hg:(w5.alloc o).grownBy Z (Value.slice oa i oc).ownBlock)=>own_bool hlt HI.out.1 HI.out.2 HI.out.2.size ho hg)
    obtain⟨x,ex⟩:∃x,x=xs[i]?.getD 0:=⟨_,rfl⟩
    rw[<-ex] at hc HOB hge
    have i1:(0:Int)<=i/\(i:Int)<xs.length:=by omega
    have HS5:=zH HI.out.2.size
    obtain⟨z,ez⟩:∃z,z=iA st.D x:=⟨_,rfl⟩
    rw[<-ez] at HOB
    clear ex hlt
    by_cases h1:x = -1
    ·have t1:(x == -1)=true:=beq_iff_eq.2 h1
     have e1:z=true:=by rw[ez];exact decide_eq_true (.inl (by omega))
     subst e1
     clear ez h1 hge
     go_wp2_with (at_builtin
                  refine GG.wpList_append_any rfl _ _ 38 rfl w4.heap.size 4 b0 (.bool false) 1 1 Tryz.underlying38 hb0 hy0 hy1 hy2 rfl (by decide) (.slice oa i oc) i (bJ (dK st.D xs i)) rfl (HI.out.1.alloc _) (.slice (some ⟨_,0,none⟩) 1 1) 1 [.bool true] rfl rfl (.inr ⟨_,_,rfl,GG.aW _ _ _⟩) (by intro u hu;rw[List.mem_singleton.1 hu];rfl) (by unfold maxLen;omega) (by omega) (by have:=HS5.out;simp;omega) ?_
                  intro v1 w7 ho hg
                  have HN:=zH (HOB.out w7 v1 _ ho hg)
                  clear ho hg)
     go_roundw
     case rel=>exact⟨i+1,HLT.out,by go_num,HN⟩
     case measure=>have:=HLT.out;simp [intOf];omega
    ·have t1:(x == -1)=false:=beq_eq_false_iff_ne.2 h1
     have t2:decide (st.D<=x)=z:=by
      rw[ez]
      unfold iA
      rw[decide_eq_decide]
      omega
     clear ez h1 hge
     go_wp2_with (at_builtin
                  refine GG.wpList_append_any rfl _ _ 38 rfl w4.heap.size 4 b0 (.bool false) 1 1 Tryz.underlying38 hb0 hy0 hy1 hy2 rfl (by decide) (.slice oa i oc) i (bJ (dK st.D xs i)) rfl (HI.out.1.alloc _) (.slice (some ⟨_,0,none⟩) 1 1) 1 [.bool z] rfl rfl (.inr ⟨_,_,rfl,GG.aW _ _ _⟩) (by intro u hu;rw[List.mem_singleton.1 hu];rfl) (by unfold maxLen;omega) (by omega) (by have:=HS5.out;simp;omega) ?_
                  intro v1 w7 ho hg
                  have HN:=zH (HOB.out w7 v1 _ ho hg)
                  clear ho hg)
     go_roundw
     case rel=>exact⟨i+1,HLT.out,by go_num,HN⟩
     case measure=>have:=HLT.out;simp [intOf];omega
   ·have ei:i=xs.length:=by omega
    subst ei
    have HF:=zH (show BRow w5.heap.size w5 (.slice oa xs.length oc) (gP c st.D) by rw[HDL.out];have h:=aM HI.out.1;rw[sn] at h;exact h)
    clear hlt
    go_wp2_with fail
    go_ret2
    exact⟨su HR.out HF.out,HBX.out.2.trans ((HB4.out.trans (HI.out.2.mono HB4.out.size)).mono HBX.out.2.size)⟩
 ·have HR:=zH hR
  clear hR
  go_wp2_with (go_at_call 6;rw[<-EW.out];refine HCK.out.mono ?_;rintro e w3 ⟨h3,hb3⟩;have e3:=h3.2 HR.out;subst e3;have HB3:=zH (HBX.out.2.trans (hb3.mono HBX.out.2.size));clear hb3 h3 p0 p1 p2 p3 p4 q0 q1 q2)
  go_ret2
  exact⟨cdeepE_no HR.out,HB3.out⟩
end
end Go.Proofs.YtjngffgkllakaaaGreatDoor
namespace Go.Proofs.YtjngffgkllakaaaGreatDoor.IP
open List renaming getElem_toArray → zA, getElem_cons_succ → zB, getElem_cons_zero → zC, setIfInBounds_toArray → zD, set_cons_zero → zE, set_cons_succ → zF
open Lib renaming hid → zH
section
open Go.RowKit
open CD (OpP BodyP CodeP ae blAt fnAt)
theorem InsV.calls{nf na va nb:Nat}{refs:List Int}{B0:Nat}{W:World}{z:Bool}{v:Value}(h:InsV nf na va nb refs B0 W z v){d n:Nat}{u:Value}(e:v=.iface 208 (.agg #[.int .i64 d,.int .i64 n,u])):n<nf/\(n:Int)∈refs:=by
 cases h with
 | call d' r xa xc xs hd hr hm hx hl hi =>
   injection e with e1 e2
   injection e2 with e3
   have e4:(Value.int .i64 (r:Int))=.int .i64 (n:Int):=by
    have:=congrArg (fun(a:Array Value)=>a[1]?) e3
    simpa using this
   injection e4 with _ e5
   have:r=n:=by omega
   subst this
   exact⟨hr,hm⟩
 | _=>injection e with e1 e2;exact absurd e1 (by decide)
theorem mZ{pol:Bool}{q:CD.Cnt}{c:CodeP}(hq:q.fn=c.fs.length)(h:CD.fK pol q c):GG.am (toC c)=true:=by
 unfold GG.am
 rw[io,Bool.and_eq_true]
 refine⟨decide_eq_true (by have h1:=h.1.2.2;have h2:=h.2.2.1.1;omega),List.all_eq_true.2 fun row hrow=>?_⟩
 unfold toC at hrow
 obtain⟨i,hi,rfl⟩:=List.mem_map.1 hrow
 exact GG.nd (fun j hj=>(kY.1 hj).2) ((ke _ _).imp (fun h=>by omega))
theorem adj_toC{c:CodeP}{i n:Nat}(hi:i<c.fs.length)(hn:n<c.fs.length)(h:(n:Int)∈cl (fnAt c i)):n∈GG.an (toC c) i:=by
 unfold GG.an
 rw[toC_at hi]
 exact List.mem_map.2 ⟨(n:Int),kY.2 ⟨h,by omega,by omega⟩,by simp⟩
theorem not_deep{K:Kst}{c:CodeP}{mf:Nat}{W:World}(hF:FunM K W)(hn:K.nf=c.fs.length)(hr:∀f,f<K.nf->K.refs f=cl (fnAt c f))(hR:GG.am (toC c)=true)(hm:mf<c.fs.length)(hmf:c.mn0=(mf:Int)){D:Int}(hD:(K.D:Int)=D)
 (hl:∀i k j,i<c.fs.length->k<(fnAt c i).bs.length->j<(blAt (fnAt c i) k).length->¬((gP c D)[i]?.getD false=true/\(ae (blAt (fnAt c i) k) j).k=7)):¬Deep K mf:=by
 rintro ⟨fs,f,n,hp,hlen,hc⟩
 have hRn:(toC c).length=c.fs.length:=io c
 have hadj:=qc hR
 have hpre:=gN hR
 have hcall:∀(g:FrS) (n:Nat),iw K g->fQ K g n->g.num<c.fs.length/\n<c.fs.length/\(n:Int)∈cl (fnAt c g.num):=by
  rintro g n hg ⟨d,u,_,hu⟩
  have h1:=(hF.v g.num g.bl g.pl hg.1 hg.2.1 hg.2.2).calls hu
  rw[hr g.num hg.1,hn] at h1
  exact⟨by rw[<-hn];exact hg.1,h1.1,h1.2⟩
 have key:∀(i:Nat) (g:FrS),(fs ++ [f])[i]?=some g->g.num<c.fs.length/\aZ (toC c) mf g.num=true/\(bE (toC c) mf g.num = -1∨(i:Int)+1<=bE (toC c) mf g.num):=by
  intro i
  induction i with
  | zero =>
    intro g hg
    have e:=hp.first g hg
    rw[e]
    have hrefl:=hpre.refl mf (by omega)
    have hs:=dR hR (main:=mf) (by omega) mf (by omega)
    refine⟨hm,hrefl,?_⟩
    by_cases h1:bE (toC c) mf mf = -1
    ·exact .inl h1
    ·have h0:bE (toC c) mf mf≠0:=fun h0=>by
      have:=hs.z.1 h0
      rw[hrefl] at this
      cases this
     have:=(hs.v h0 h1).1
     exact .inr (by omega)
  | succ i ih =>
    intro g hg
    have hi:i+1<(fs ++ [f]).length:=(List.getElem?_eq_some_iff.1 hg).1
    obtain⟨p,hpp⟩:∃p,(fs ++ [f])[i]?=some p:=⟨_,List.getElem?_eq_getElem (by omega)⟩
    obtain⟨i1,i2,i3⟩:=ih p hpp
    have hpos:=hp.pos p (List.mem_of_getElem? hpp)
    obtain⟨c1,c2,c3⟩:=hcall p g.num hpos (hp.calls i p g hpp hg)
    have ha:=adj_toC c1 c2 c3
    have hL:=(hadj.one _ _ ha).2.2
    have hLg:=hpre.trans mf p.num g.num (by omega) i2 hL
    have hsp:=dR hR (main:=mf) (by omega) p.num (by omega)
    have hsg:=dR hR (main:=mf) (by omega) g.num (by omega)
    refine⟨c2,hLg,?_⟩
    by_cases h1:bE (toC c) mf g.num = -1
    ·exact .inl h1
    ·have h0:bE (toC c) mf g.num≠0:=fun h0=>by
      have:=hsg.z.1 h0
      rw[hLg] at this
      cases this
     rcases i3 with i3 | i3
     ·obtain⟨_,k,k1,k2,k3⟩:=hsp.m.1 i3
      exact .inl (hsg.m.2 ⟨hLg,k,k1,hpre.trans k p.num g.num (hpre.lt mf k (by omega) k1) k2 hL,k3⟩)
     ·have:=(hsg.v h0 h1).2.1 p.num ha
      exact .inr (by omega)
 obtain⟨l1,l2,l3⟩:=key fs.length f (by simp)
 obtain⟨c1,c2,c3⟩:=hcall f n (hp.pos f (by simp)) hc
 obtain⟨k,j,hk,hj,h7,_⟩:=jJ.1 c3
 refine hl f.num k j l1 hk hj ⟨?_,h7⟩
 have he:entL (toC c) c.mn0=(List.range (toC c).length).map (bE (toC c) mf):=by
  unfold entL
  rw[if_pos ⟨hR,by unfold GG.inB;exact decide_eq_true (by omega)⟩,hmf,Int.toNat_natCast]
 unfold gP
 rw[he,List.getElem?_map,List.getElem?_map,List.getElem?_range (by omega)]
 simp only[Option.map_some,Option.getD_some]
 unfold iA
 exact decide_eq_true (by omega)
end
section
open Go.RowKit
open CD (OpP BodyP CodeP ae blAt fnAt)
theorem NumV.mono{B B':Nat}(hB:B'<=B){W:World}{v:Value}{s:Nat}:NumV B W v s->NumV B' W v s
 | ⟨g,c,e,hb,hg,hs,hz⟩=>⟨g,c,e,Nat.le_trans hB hb,hg,hs,hz⟩
theorem ix.on{B:Nat}{W V:World}{v:Value}{ls:List Nat}{rs:Nat->Value}(h:ix B W v ls rs)(hb:Below W.heap.size W V):ix B V v ls rs :=
 ⟨own_of_block h.1 (fun k e=>hb.block k (h.1.lt k e).2),fun i hi=>(h.2 i hi).chg (X:=fun _=>False) (Chg.of_below hb)⟩
theorem sw{K:Kst}{mf:Nat}{W:World}(hrun:RunM K W (.slice none 0 0) 0)(hf:FunM K W)(ha:W.ownsRow K.B1 49 1 K.av K.na (tabV K.na K.ar))(ha2:∀i,i<K.na->NumV K.B0 W (K.ar i) (K.sz i)/\1<=K.sz i)(hr:W.ownsRow K.B1 49 1 K.rv K.D (tabV K.D K.rs))(hr2:∀i,i<K.D->NumV K.B0 W (K.rs i) K.most)(ht:NumV K.B0 W K.tv K.most){vs:Nat->Value}{rows:Nat->List Int}(hb:BoxB W K.kb K.rb K.ni K.no K.nl (.slice none 0 0))(hq:TabQ K.B0 W K.rb K.ni vs rows)(base:K.B0<=K.Rb/\K.B0<=K.kb/\K.rb<K.B1/\K.B0<=K.rb):Mach K mf W W [] 0 0 :=
 ⟨⟨Below.refl _ _,hf,ha,ha2,hr,hr2,ht,fun _ _ e=>e⟩,⟨_,hrun,World.ownsRow_nil _ _ _ _⟩,fun i f e=>by simp at e,fun i j f g e=>by simp at e,⟨fun f hf=>by simp at hf,Nat.zero_le _,fun f e=>by simp at e,fun i f g e=>by simp at e⟩,⟨_,[],vs,rows,hb,hq,World.ownsRow_nil _ _ _ _,Nat.zero_le _⟩,⟨base.1,base.2.1,base.2.2.1,base.2.2.2,fun f hf=>by simp at hf⟩⟩
def mkK(B0 B1 Rb kb rb:Nat)(st:PSt)(c:CodeP)(M:Nat)(fuel:Int)(fv av rv tv:Value)(us:Nat->Value)(bs:Nat->Nat->Value)(len:Nat->Nat->Nat)(xs:Nat->Nat->Nat->Value)(ar rs:Nat->Value):Kst :=
 { B0:=B0,B1:=B1,Rb:=Rb,kb:=kb,rb:=rb,ni:=st.I.length,no:=st.O.length,nl:=st.L.length,nf:=c.fs.length,na:=c.ar.length,D:=st.D.toNat,most:=M,fuel:=fuel,fv:=fv,av:=av,rv:=rv,tv:=tv,nb:=fun f=>(fnAt c f).bs.length,va:=fun f=>(fnAt c f).va.toNat,len:=len,sz:=fun i=>(c.ar[i]?.getD (0,0)).1.toNat,us:=us,bs:=bs,xs:=xs,ar:=ar,rs:=rs,refs:=fun f=>cl (fnAt c f) }
theorem funM_of{st:PSt}{c:CodeP}{B0 B1 Rb kb rb M B:Nat}{fuel:Int}{fv av rv tv:Value}{us:Nat->Value}{bs:Nat->Nat->Value}{len:Nat->Nat->Nat}{xs:Nat->Nat->Nat->Value}{ar rs:Nat->Value}{W:World}(ho:W.ownsRow B 115 1 fv c.fs.length (tabV c.fs.length us))(hv:lF (bI st c) c B0 W c.fs.length us bs len xs)(hb:∀i,i<c.fs.length->1<=(fnAt c i).bs.length)(hM:∀i,i<c.fs.length->(fnAt c i).va<=M):FunM (mkK B0 B1 Rb kb rb st c M fuel fv av rv tv us bs len xs ar rs) W :=
 ⟨eG ho (Nat.zero_le _),fun f hf=>⟨(hv f hf).own,hb f hf,by have:=hM f hf;show (fnAt c f).va.toNat<=M;omega⟩,fun f b hf hbn=>⟨((hv f hf).blk b hbn).own,((hv f hf).blk b hbn).len⟩,fun f b k hf hbn hk=>((hv f hf).blk b hbn).ins k hk⟩
theorem map_at(l:List (Int × Int)){i:Nat}(h:i<l.length):(l.map fun p=>p.1.toNat)[i]?.getD 0=(l[i]?.getD (0,0)).1.toNat:=by
 rw[List.getElem?_map,List.getElem?_eq_getElem h]
 rfl
theorem jA{st:PSt}{c:CodeP}{B0 B1 Rb kb rb M B B2 B3:Nat}{fuel:Int}{fv av rv tv:Value}{us:Nat->Value}{bs:Nat->Nat->Value}{len:Nat->Nat->Nat}{xs:Nat->Nat->Nat->Value}{ar rs vs:Nat->Value}{rows:Nat->List Int}{mf:Nat}{W:World}
 (ho:W.ownsRow B 115 1 fv c.fs.length (tabV c.fs.length us)) (hv:lF (bI st c) c B0 W c.fs.length us bs len xs) (hb:∀i,i<c.fs.length->1<=(fnAt c i).bs.length) (hM:∀i,i<c.fs.length->(fnAt c i).va<=M)
 (hz:ix B2 W av (c.ar.map fun p=>p.1.toNat) ar) (hz1:∀i,i<c.ar.length->1<=(c.ar[i]?.getD (0,0)).1) (hr:ix B3 W rv (List.replicate st.D.toNat M) rs) (ht:NumV B0 W tv M) (hbx:BoxB W kb rb st.I.length st.O.length st.L.length (.slice none 0 0)) (hq:TabQ B0 W rb st.I.length vs rows)
 (hrun:W.heap[Rb]?=some (.cells #[fv,av,.pointer (some ⟨kb,0,none⟩),.slice none 0 0,rv,tv,.int .i64 fuel,.int .i64 0] 81)) (base:B0<=Rb/\B0<=kb/\rb<B1/\B1<=B2/\B1<=B3/\B0<=B1) :
 Mach (mkK B0 B1 Rb kb rb st c M fuel fv av rv tv us bs len xs ar rs) mf W W [] 0 0:=by
 have hzl:(c.ar.map fun p=>p.1.toNat).length=c.ar.length:=List.length_map _
 have hz':=hz.1
 rw[hzl] at hz'
 have hr':=hr.1
 rw[List.length_replicate] at hr'
 refine sw (K:=mkK B0 B1 Rb kb rb st c M fuel fv av rv tv us bs len xs ar rs) hrun (funM_of ho hv hb hM) (eG hz' base.2.2.2.1) (fun i hi=>?_) (eG hr' base.2.2.2.2.1) (fun i hi=>?_) ht hbx hq ⟨base.1,base.2.1,base.2.2.1,hq.base⟩
 ·have hi':i<c.ar.length:=hi
  have h1:=hz.2 i (by rw[hzl];exact hi')
  rw[map_at c.ar hi'] at h1
  refine⟨h1.mono (Nat.le_trans base.2.2.2.2.2 base.2.2.2.1),?_⟩
  have:=hz1 i hi'
  show 1<=(c.ar[i]?.getD (0,0)).1.toNat
  omega
 ·have hi':i<st.D.toNat:=hi
  have h1:=hr.2 i (by rw[List.length_replicate];exact hi')
  rw[List.getElem?_replicate,if_pos hi'] at h1
  exact NumV.mono (Nat.le_trans base.2.2.2.2.2 base.2.2.2.2.1) h1
theorem oB{pol:Bool}{st:PSt}{c:CodeP}(hc:CD.fK pol (bI st c) c)(hD:st.D<=64)(hI:st.I.length<=32){B0 B1 Rb kb rb M:Nat}(hM:M<=400){fuel:Int}{fv av rv tv:Value}{us:Nat->Value}{bs:Nat->Nat->Value}{len:Nat->Nat->Nat}{xs:Nat->Nat->Nat->Value}{ar rs:Nat->Value}:KOk (mkK B0 B1 Rb kb rb st c M fuel fv av rv tv us bs len xs ar rs):=by
 refine⟨?_,?_,?_,?_,fun f hf=>?_,?_,fun i hi=>?_⟩
 ·show c.fs.length<=1000;have:=hc.1.2.2;omega
 ·show c.ar.length<=1000;have:=hc.1.2.1;omega
 ·show st.D.toNat<=1000;omega
 ·show M<=100000;omega
 ·show (fnAt c f).bs.length<=1000;have:=(hc.2.2.2 f hf).1.2.2;omega
 ·show st.I.length<=1000;omega
 ·show (c.ar[i]?.getD (0,0)).1.toNat<=1000;have:=(hc.2.1 i hi).1.2;omega
theorem qq{pol:Bool}{st:PSt}{c:CodeP}(h:gj pol (bI st c) c)(hf:CD.Few c):CodeG (bI st c) c:=⟨fun i hi=>h.1.2.2.2 i hi,h.2,hf.l,qo (fun i hi=>h.1.2.2.2 i hi),by have:=hf.f;omega⟩
theorem codeS_of{c:CodeP}(hf:CD.Few c):CodeS c:=⟨by have:=hf.f;omega,fun i hi=>⟨by have:=hf.b i hi;omega,fun k hk=>by have:=hf.l i hi k hk;omega⟩⟩
end
end Go.Proofs.YtjngffgkllakaaaGreatDoor.IP
