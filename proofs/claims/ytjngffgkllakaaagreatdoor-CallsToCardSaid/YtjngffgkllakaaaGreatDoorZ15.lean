/-
  CallsTo: called with any arguments of its types, where the listed variables hold what the program's text lays, the Go function interdictlaw18.CallsTo returns true, and each argument reads behind the call as it read before.
  Conditions: the listed variables, tied by the card.
-/
import Derived.Test.YtjngffgkllakaaaGreatDoorZ01
import Derived.Test.YtjngffgkllakaaaGreatDoorZ02
import Derived.Test.YtjngffgkllakaaaGreatDoorZ03
import Derived.Test.YtjngffgkllakaaaGreatDoorZ07
import Derived.Test.YtjngffgkllakaaaGreatDoorZ10
import Derived.Test.YtjngffgkllakaaaGreatDoorZ11
import Derived.Test.YtjngffgkllakaaaGreatDoorZ12
import Derived.Test.YtjngffgkllakaaaGreatDoorZ13
import Derived.Test.YtjngffgkllakaaaGreatDoorZ14
import Derived.Deep.RegionWith
import Derived.Deep.DeepCutAuto
import Derived.StillTailTactics
import Derived.Test.YtjngffgkllakaaaGreatDoorRows
import Derived.LaidSub
import Derived.LaidMore
import Derived.Lib.LaidTab
import Derived.Lib.ItoaNum
import Derived.WalkKit
import Derived.WalkSmall
import Derived.Lib.LaidU8
import Derived.Deep.Slices
import Derived.Lib.SmallJoins
import Derived.OpenShut
import Derived.ChangeArms
import Derived.ChangeSlices
import Derived.ChangeSame
import Derived.SizedLaws
import Derived.Test.YtjngffgkllakaaaGreatDoorCards
import Derived.Test.YtjngffgkllakaaaGreatDoorTie
import Derived.ProofKit
import Derived.ShutString
import Derived.Below
import Derived.Deep.DeepHandedRow
import Derived.Deep.DeepWitnessRowRef
set_option linter.unusedSimpArgs false
set_option linter.unusedVariables false
namespace Go.Proofs.YtjngffgkllakaaaGreatDoor
open List renaming getElem_toArray → zA, getElem_cons_succ → zB, getElem_cons_zero → zC, setIfInBounds_toArray → zD, set_cons_zero → zE, set_cons_succ → zF
open Lib renaming hid → zH
section
open Go.RowKit
open CD (OpP BodyP CodeP aj blAt fnAt)
set_option maxRecDepth 100000 in
set_option maxHeartbeats 6400000 in
theorem rQ(v0 v1 v2 v3 av fv:Value)(st:PSt)(S:List Int)(c:CodeP)(w:World)(hp:PolIn w v0 v1 v2 v3 st S)(hw:Wide S)(hsh:∀j,j<st.L.length->(wd6 st.L j).size<=140737488351232)(hsi:∀j,j<st.I.length->(chAt st.I j).1.size<=140737488351232)(hso:∀j,j<st.O.length->(chAt st.O j).1.size<=140737488351232)(ha:bA w.heap.size w av c.ar)(hf:bh w.heap.size w fv c.fs)(hfew:CD.Few c)(hs:fm c) :
 Calls Tryz.prog 40 #[.agg #[v0,v1,v2,v3,.int .i64 st.D],.agg #[av,fv,.int .i64 c.mn0]] w fun e w'=>e=.returned (.bool (CD.tf (CD.fk (bg st S) (aE st c) c)))/\Below w.heap.size w w':=by
 have HP:=zH hp
 have HA:=zH ha
 have HF:=zH hf
 have HFEW:=zH hfew
 have HS:=zH hs
 obtain⟨aa,ac,rfl⟩:=ha.form
 obtain⟨fa,fc,rfl⟩:=hf.form
 obtain⟨a0,k0,rfl⟩:=hp.s0.form
 obtain⟨a1,k1,rfl⟩:=hp.s1.form
 obtain⟨a2,k2,rfl⟩:=hp.s2.form
 obtain⟨a3,k3,rfl⟩:=hp.s3.form
 have HBX:=zH (boxes2 w (.cells #[.slice a0 st.L.length k0,.slice a1 S.length k1,.slice a2 st.I.length k2,.slice a3 st.O.length k3,.int .i64 st.D] 26) (.cells #[.slice aa c.ar.length ac,.slice fa c.fs.length fc,.int .i64 c.mn0] 30))
 obtain⟨w2,ew2⟩:∃w2,w2=(w.alloc (.cells #[.slice a0 st.L.length k0,.slice a1 S.length k1,.slice a2 st.I.length k2,.slice a3 st.O.length k3,.int .i64 st.D] 26)).alloc (.cells #[.slice aa c.ar.length ac,.slice fa c.fs.length fc,.int .i64 c.mn0] 30):=⟨_,rfl⟩
 rw[<-ew2] at HBX
 have EW:=zH ew2
 have HRR:=zH (rP _ _ _ _ st S w2 (hp.below HBX.out.2) hw hsh hsi hso)
 obtain⟨r6,er6⟩:∃r6,r6=bg st S:=⟨_,rfl⟩
 rw[<-er6] at HRR ⊢
 obtain⟨z,ez⟩:∃z,z=CD.tf (CD.fk r6 (aE st c) c):=⟨_,rfl⟩
 rw[<-ez]
 have HZ:=zH ez
 have HFL:=zH (fun(h:¬CD.fk r6 (aE st c) c)=>show z=false by rw[ez];exact CD.aD h)
 have HYE:=zH (fun(h:CD.fk r6 (aE st c) c)=>show z=true by rw[ez];exact CD.bz h)
 have b1:=hfew.f
 have b2:=hfew.a
 clear ez hp ha hf hfew hs hw hsh hsi hso ew2 er6
 cases r6
 ·
  have HE:=zH (HFL.out (fun h=>by have:=h.1.1;cases this))
  clear HZ
  go_enter Tryz.func40,Tryz.ntmps40
  go_wp2_with (go_at_call 65;rw[<-EW.out];refine HRR.out.mono ?_;rintro e w3 ⟨rfl,hb3⟩;have HB3:=zH (HBX.out.2.trans (hb3.mono HBX.out.2.size));have HH3:=zH (az hb3 HBX.out.1.2);have HP3:=zH (az hb3 HBX.out.1.1);clear hb3;obtain⟨q0,q1,q2⟩:=box3 HH3.out)
  go_ret
  exact⟨by rw[HE.out];rfl,HB3.out⟩
 by_cases c1:16<c.ar.length
 ·
  have t1:decide ((16:Int)<(c.ar.length:Int))=true:=decide_eq_true (by omega)
  have t1':decide (16<c.ar.length)=true:=decide_eq_true c1
  have HE:=zH (HFL.out (fun h=>by have:=h.1.2.1;omega))
  clear HZ c1 b1 b2
  go_enter Tryz.func40,Tryz.ntmps40
  go_wp2_with (go_at_call 65;rw[<-EW.out];refine HRR.out.mono ?_;rintro e w3 ⟨rfl,hb3⟩;have HB3:=zH (HBX.out.2.trans (hb3.mono HBX.out.2.size));have HH3:=zH (az hb3 HBX.out.1.2);have HP3:=zH (az hb3 HBX.out.1.1);clear hb3;obtain⟨q0,q1,q2⟩:=box3 HH3.out)
  go_ret
  exact⟨by rw[HE.out];rfl,HB3.out⟩
 have t1:decide ((16:Int)<(c.ar.length:Int))=false:=decide_eq_false (by omega)
 have t1':decide (16<c.ar.length)=false:=decide_eq_false c1
 by_cases c2:64<c.fs.length
 ·
  have t2:decide ((64:Int)<(c.fs.length:Int))=true:=decide_eq_true (by omega)
  have t2':decide (64<c.fs.length)=true:=decide_eq_true c2
  have HE:=zH (HFL.out (fun h=>by have:=h.1.2.2;omega))
  clear HZ c1 c2 b1 b2
  go_enter Tryz.func40,Tryz.ntmps40
  go_wp2_with (go_at_call 65;rw[<-EW.out];refine HRR.out.mono ?_;rintro e w3 ⟨rfl,hb3⟩;have HB3:=zH (HBX.out.2.trans (hb3.mono HBX.out.2.size));have HH3:=zH (az hb3 HBX.out.1.2);have HP3:=zH (az hb3 HBX.out.1.1);clear hb3;obtain⟨q0,q1,q2⟩:=box3 HH3.out)
  go_ret
  exact⟨by rw[HE.out];rfl,HB3.out⟩
 have t2:decide ((64:Int)<(c.fs.length:Int))=false:=decide_eq_false (by omega)
 have t2':decide (64<c.fs.length)=false:=decide_eq_false c2
 by_cases c3:c.mn0<0
 ·
  have t3:decide (c.mn0<0)=true:=decide_eq_true c3
  have HE:=zH (HFL.out (fun h=>by have:=h.2.2.1.1.1;omega))
  clear HZ c1 c2 c3 b1 b2
  go_enter Tryz.func40,Tryz.ntmps40
  go_wp2_with (go_at_call 65;rw[<-EW.out];refine HRR.out.mono ?_;rintro e w3 ⟨rfl,hb3⟩;have HB3:=zH (HBX.out.2.trans (hb3.mono HBX.out.2.size));have HH3:=zH (az hb3 HBX.out.1.2);have HP3:=zH (az hb3 HBX.out.1.1);clear hb3;obtain⟨q0,q1,q2⟩:=box3 HH3.out)
  go_ret
  exact⟨by rw[HE.out];rfl,HB3.out⟩
 have t3:decide (c.mn0<0)=false:=decide_eq_false c3
 by_cases c4:(c.fs.length:Int)<=c.mn0
 ·
  have t4:decide ((c.fs.length:Int)<=c.mn0)=true:=decide_eq_true c4
  have HE:=zH (HFL.out (fun h=>by have:=h.2.2.1.1.2;omega))
  clear HZ c1 c2 c3 c4 b1 b2
  go_enter Tryz.func40,Tryz.ntmps40
  go_wp2_with (go_at_call 65;rw[<-EW.out];refine HRR.out.mono ?_;rintro e w3 ⟨rfl,hb3⟩;have HB3:=zH (HBX.out.2.trans (hb3.mono HBX.out.2.size));have HH3:=zH (az hb3 HBX.out.1.2);have HP3:=zH (az hb3 HBX.out.1.1);clear hb3;obtain⟨q0,q1,q2⟩:=box3 HH3.out)
  go_ret
  exact⟨by rw[HE.out];rfl,HB3.out⟩
 have t4:decide ((c.fs.length:Int)<=c.mn0)=false:=decide_eq_false c4
 have hm0:c.mn0.toNat<c.fs.length:=by omega
 obtain⟨blk,off,ba0,bc0,efa,hblk,f0,_,_,_⟩:=HF.out.at hm0
 subst efa
 have HBK:=zH hblk
 have HPA:=zH (show (c.fs[c.mn0.toNat]?.getD CD.b0).pa=CD.paAt c c.mn0 from rfl)
 obtain⟨pm,epm⟩:∃pm,pm=(c.fs[c.mn0.toNat]?.getD CD.b0).pa:=⟨_,rfl⟩
 rw[<-epm] at f0 HPA
 have HF0:=zH f0
 have HM:=zH (show (0<=c.mn0/\c.mn0<(c.fs.length:Nat))/\(c.ar.length<=16/\c.fs.length<=64) by omega)
 have i0:0<=c.mn0/\c.mn0<(c.fs.length:Nat):=by omega
 clear f0 epm hblk c1 c2 c3 c4 b1 b2
 by_cases c5:pm=0
 rotate_left 1
 ·
  have t5:(pm == 0)=false:=beq_eq_false_iff_ne.2 c5
  have t5':(pm != 0)=true:=by rw[bne,t5];rfl
  have HE:=zH (HFL.out (fun h=>by have h2:=h.2.2.1.2;rw[<-HPA.out] at h2;exact c5 h2))
  clear HZ c5
  go_enter Tryz.func40,Tryz.ntmps40
  go_wp2_with (go_at_call 65;rw[<-EW.out];refine HRR.out.mono ?_;rintro e w3 ⟨rfl,hb3⟩;have HB3:=zH (HBX.out.2.trans (hb3.mono HBX.out.2.size));have HH3:=zH (az hb3 HBX.out.1.2);have HP3:=zH (az hb3 HBX.out.1.1);clear hb3;obtain⟨q0,q1,q2⟩:=box3 HH3.out;have f0':=(HB3.out.cell (p:=⟨blk,off+c.mn0.toNat*3,none⟩) HBK.out).trans HF0.out)
  go_ret
  exact⟨by rw[HE.out];rfl,HB3.out⟩
 have t5:(pm == 0)=true:=beq_iff_eq.2 c5
 have t5':(pm != 0)=false:=by rw[bne,t5];rfl
 have H5:=zH c5
 clear c5
 go_enter Tryz.func40,Tryz.ntmps40
 go_upto_region 3 with(go_at_call 65;rw[<-EW.out];refine HRR.out.mono ?_;rintro e w3 ⟨rfl,hb3⟩;have HB3:=zH (HBX.out.2.trans (hb3.mono HBX.out.2.size));have HH3:=zH (az hb3 HBX.out.1.2);have HP3:=zH (az hb3 HBX.out.1.1);clear hb3;obtain⟨q0,q1,q2⟩:=box3 HH3.out;have f0':=(HB3.out.cell (p:=⟨blk,off+c.mn0.toNat*3,none⟩) HBK.out).trans HF0.out)
 clear q0 q1 q2 f0'
 go_wp2_with fail
 go_loopw [5] (fun s wr=>∃i:Nat,i<=c.ar.length/\s=.int .i64 (i:Int)/\RowKit.Hid ((∀j,j<i->(1<=(c.ar[j]?.getD (0,0)).1/\(c.ar[j]?.getD (0,0)).1<=256)/\(0<=(c.ar[j]?.getD (0,0)).2/\(c.ar[j]?.getD (0,0)).2<(st.L.length:Nat)))/\Below w3.heap.size w3 wr)) (fun s _=>c.ar.length-(intOf s).toNat)
 case atStart=>exact⟨0,Nat.zero_le _,rfl,zH ⟨fun j hj=>absurd hj (Nat.not_lt_zero _),Below.refl _ _⟩⟩
 case round =>
  obtain⟨w5,rfl⟩:∃w5,w5=wr:=⟨_,rfl⟩
  obtain⟨i,hi,rfl,HI⟩:=hrel
  have hmz:=HM.out.2
  have HB5:=zH (HB3.out.trans (HI.out.2.mono HB3.out.size))
  obtain⟨q0,q1,q2⟩:=box3 (az HI.out.2 HH3.out)
  obtain⟨p0,p1,p2,p3,p4⟩:=box5 (az HI.out.2 HP3.out)
  have hz5:w.heap.size+1<w5.heap.size:=(Array.getElem?_eq_some_iff.1 (az HI.out.2 HH3.out)).1
  have hz5':w.heap.size<w5.heap.size:=by omega
  clear p1 p2 p3 p4
  by_cases hlt:i<c.ar.length
  ·obtain⟨ab,ao,eaa,hab,g0,g1⟩:=(HA.out.below HB5.out).at hlt
   subst eaa
   have HLT:=zH hlt
   have i1:(0:Int)<=i/\(i:Int)<c.ar.length:=by omega
   obtain⟨x1,ex1⟩:∃x1,x1=(c.ar[i]?.getD (0,0)).1:=⟨_,rfl⟩
   obtain⟨x2,ex2⟩:∃x2,x2=(c.ar[i]?.getD (0,0)).2:=⟨_,rfl⟩
   rw[<-ex1] at g0
   rw[<-ex2] at g1
   have HX1:=zH ex1
   have HX2:=zH ex2
   have HNO:=zH (fun(h:¬((1<=x1/\x1<=256)/\(0<=x2/\x2<(st.L.length:Nat))))=>show z=false from HFL.out (fun g=>h (by have h1:=g.2.1 i HLT.out;rw[<-HX1.out,<-HX2.out] at h1;exact h1)))
   have HB6:=zH (HB5.out.alloc HB5.out.size (.cells #[.int .i64 x1,.int .i64 x2] 119))
   have HB7:=zH (HI.out.2.alloc HI.out.2.size (.cells #[.int .i64 x1,.int .i64 x2] 119))
   clear ex1 ex2 hlt q1 q2
   by_cases h0:x1<1
   ·
    have g0d:decide (x1<1)=true:=decide_eq_true h0
    have HE:=zH (HNO.out (by omega))
    clear h0
    go_wp2_with fail
    go_ret
    exact⟨by rw[HE.out];rfl,HB6.out⟩
   have g0d:decide (x1<1)=false:=decide_eq_false h0
   by_cases h1:256<x1
   ·
    have g1d:decide (256<x1)=true:=decide_eq_true h1
    have HE:=zH (HNO.out (by omega))
    clear h0 h1
    go_wp2_with fail
    go_ret
    exact⟨by rw[HE.out];rfl,HB6.out⟩
   have g1d:decide (256<x1)=false:=decide_eq_false h1
   by_cases h2:x2<0
   ·
    have g2d:decide (x2<0)=true:=decide_eq_true h2
    have HE:=zH (HNO.out (by omega))
    clear h0 h1 h2
    go_wp2_with fail
    go_ret
    exact⟨by rw[HE.out];rfl,HB6.out⟩
   have g2d:decide (x2<0)=false:=decide_eq_false h2
   by_cases h3:(st.L.length:Int)<=x2
   ·
    have g3d:decide ((st.L.length:Int)<=x2)=true:=decide_eq_true h3
    have HE:=zH (HNO.out (by omega))
    clear h0 h1 h2 h3
    go_wp2_with fail
    go_ret
    exact⟨by rw[HE.out];rfl,HB6.out⟩
   have g3d:decide ((st.L.length:Int)<=x2)=false:=decide_eq_false h3
   have HN:=zH (show ∀j,j<i+1->(1<=(c.ar[j]?.getD (0,0)).1/\(c.ar[j]?.getD (0,0)).1<=256)/\(0<=(c.ar[j]?.getD (0,0)).2/\(c.ar[j]?.getD (0,0)).2<(st.L.length:Nat)) from fun j hj=>by
    by_cases e:j=i
    ·rw[e,<-HX1.out,<-HX2.out];omega
    ·exact HI.out.1 j (by omega))
   clear h0 h1 h2 h3
   go_wp2_with fail
   go_roundw
   case rel=>exact⟨i+1,HLT.out,by go_num,zH ⟨HN.out,HB7.out⟩⟩
   case measure=>have:=HLT.out;simp [intOf];omega
  ·have HCE:=zH (show CD.jO (aE st c) c.ar from fun j hj=>HI.out.1 j (by omega))
   have HB4:=zH HI.out.2
   have ei:i=c.ar.length:=by omega
   subst ei
   clear p0 q1 q2 hlt
   go_wp2_with fail
   clear q0
   clear HI
   go_loopw [7,8] (fun s7 s8 wr=>∃i:Nat,i<=c.fs.length/\s8=.int .i64 (i:Int)/\s7=.int .i64 ((CD.lenC c i:Nat):Int)/\RowKit.Hid ((∀j,j<i->CD.aK (aE st c) c (fnAt c j))/\Below w3.heap.size w3 wr)) (fun _ s8 _=>c.fs.length-(intOf s8).toNat)
   case atStart=>exact⟨0,Nat.zero_le _,rfl,by rw[CD.iW];rfl,zH ⟨fun j hj=>absurd hj (Nat.not_lt_zero _),HB4.out⟩⟩
   case round =>
    obtain⟨w6,rfl⟩:∃w6,w6=wr:=⟨_,rfl⟩
    obtain⟨i,hi,rfl,rfl,HI⟩:=hrel
    have HB6:=zH (HB3.out.trans (HI.out.2.mono HB3.out.size))
    obtain⟨q0,q1,q2⟩:=box3 (az HI.out.2 HH3.out)
    obtain⟨p0,p1,p2,p3,p4⟩:=box5 (az HI.out.2 HP3.out)
    have hz6:w.heap.size+1<w6.heap.size:=(Array.getElem?_eq_some_iff.1 (az HI.out.2 HH3.out)).1
    have hmz:=HM.out.2
    by_cases hlt:i<c.fs.length
    ·obtain⟨blk',off',ba,bc,efa,hblk,f0,f1,f2,hbs⟩:=(HF.out.below HB6.out).at hlt
     cases efa
     have HLT:=zH hlt
     have i1:(0:Int)<=i/\(i:Int)<c.fs.length:=by omega
     have hbw:blk<w6.heap.size:=Nat.lt_of_lt_of_le hblk HB6.out.size
     have HRO:=zH (fun(w7:World) (h67:Below w6.heap.size w6 w7)=>tK _ _ _ _ _ _ st S c (fnAt c i) ba bc w7 (HP.out.below (HB6.out.trans (h67.mono HB6.out.size))) ((HA.out.below (HB6.out.trans (h67.mono HB6.out.size))).mono (Nat.le_trans HB6.out.size h67.size)) ((HF.out.below (HB6.out.trans (h67.mono HB6.out.size))).mono (Nat.le_trans HB6.out.size h67.size)) ((show aU w.heap.size w7 (.slice ba (fnAt c i).bs.length bc) (fnAt c i).bs from hbs.below (h67.mono HB6.out.size)).mono (Nat.le_trans HB6.out.size h67.size)) (HFEW.out.l i HLT.out) (HS.out i HLT.out))
     obtain⟨t8,et8⟩:∃t8,t8=bodT (aE st c) c (fnAt c i):=⟨_,rfl⟩
     obtain⟨z8,ez8⟩:∃z8,z8=CD.tf (CD.aK (aE st c) c (fnAt c i)):=⟨_,rfl⟩
     have HZ8:=zH ez8
     have HT8:=zH et8
     unfold ks at HRO
     rw[<-et8,<-ez8] at HRO
     have HFN:=zH (show c.fs[i]?.getD CD.b0=fnAt c i from rfl)
     rw[HFN.out] at f0 f1 f2
     obtain⟨b,eb⟩:∃b,b=fnAt c i:=⟨_,rfl⟩
     rw[<-eb] at f0 f1 f2 HRO
     have HEB:=zH eb
     have h1:=HFEW.out.all
     have h2:=CD.gL c (show i<=c.fs.length by omega)
     have h3:=CD.gL c (show i+1<=c.fs.length by omega)
     have HLS:=zH (CD.fM hlt)
     have hL:CD.lenC c i<=300:=by omega
     have HL3:=zH (show CD.lenC c (i+1)<=300 by omega)
     obtain⟨LC,eLC⟩:∃LC,LC=CD.lenC c i:=⟨_,rfl⟩
     rw[<-eLC] at hL HLS ⊢
     clear et8 ez8 eb hbs hlt h1 h2 h3 eLC
     go_upto_region 13 with fail
     refine lw (n:=6) (C:=Below w6.heap.size w6) (by exact⟨rfl,rfl,rfl,Nat.le_refl _,fun _ _=>rfl⟩) (by kernel_rfl) (by kernel_rfl) (by kernel_rfl) ?_
     refine gkT (.agg #[.slice a0 st.L.length k0,.slice a1 S.length k1,.slice a2 st.I.length k2,.slice a3 st.O.length k3,.int .i64 st.D]) (fun w9 hw9=>?_) ?_
     ·have z0:=(hw9.cell (p:=⟨w.heap.size,0,none⟩) (by show w.heap.size<w6.heap.size;omega)).trans p0;have z1:=(hw9.cell (p:=⟨w.heap.size,1,none⟩) (by show w.heap.size<w6.heap.size;omega)).trans p1;have z2:=(hw9.cell (p:=⟨w.heap.size,2,none⟩) (by show w.heap.size<w6.heap.size;omega)).trans p2;have z3:=(hw9.cell (p:=⟨w.heap.size,3,none⟩) (by show w.heap.size<w6.heap.size;omega)).trans p3;have z4:=(hw9.cell (p:=⟨w.heap.size,4,none⟩) (by show w.heap.size<w6.heap.size;omega)).trans p4;unfold Oper.quietAtIn;simp [go_sem,Oper.quietUponIn,z0,z1,z2,z3,z4]
     simp only[zA,zB,zC,Act.put,zD,zE,zF]
     refine gkT (.agg #[.slice aa c.ar.length ac,.slice (some ⟨blk,off,none⟩) c.fs.length fc,.int .i64 c.mn0]) (fun w9 hw9=>?_) ?_
     ·have z0:=(hw9.cell (p:=⟨w.heap.size+1,0,none⟩) (by show w.heap.size+1<w6.heap.size;omega)).trans q0;have z1:=(hw9.cell (p:=⟨w.heap.size+1,1,none⟩) (by show w.heap.size+1<w6.heap.size;omega)).trans q1;have z2:=(hw9.cell (p:=⟨w.heap.size+1,2,none⟩) (by show w.heap.size+1<w6.heap.size;omega)).trans q2;unfold Oper.quietAtIn;simp [go_sem,Oper.quietUponIn,z0,z1,z2]
     simp only[zA,zB,zC,Act.put,zD,zE,zF]
     refine gkT (.pointer (some ⟨w.heap.size+1,1,none⟩)) (fun w9 hw9=>?_) ?_
     ·unfold Oper.quietAtIn;simp [go_sem,Oper.quietUponIn]
     simp only[zA,zB,zC,Act.put,zD,zE,zF]
     refine gkT (.slice (some ⟨blk,off,none⟩) c.fs.length fc) (fun w9 hw9=>?_) ?_
     ·have z0:=(hw9.cell (p:=⟨w.heap.size+1,1,none⟩) (by show w.heap.size+1<w6.heap.size;omega)).trans q1;unfold Oper.quietAtIn;simp [go_sem,Oper.quietUponIn,z0]
     simp only[zA,zB,zC,Act.put,zD,zE,zF]
     refine gkT (.int .i64 (i:Int)) (fun w9 hw9=>?_) ?_
     ·unfold Oper.quietAtIn;simp [go_sem,Oper.quietUponIn]
     simp only[zA,zB,zC,Act.put,zD,zE,zF]
     refine gkT (.pointer (some ⟨blk,off+i*3,none⟩)) (fun w9 hw9=>?_) ?_
     ·have z0:=i1.1;have z1:=i1.2;unfold Oper.quietAtIn;simp [go_sem,Oper.quietUponIn,z0,z1]
     simp only[zA,zB,zC,Act.put,zD,zE,zF]
     refine gkT (.agg #[.int .i64 b.pa,.int .i64 b.va,.slice ba b.bs.length bc]) (fun w9 hw9=>?_) ?_
     ·have z0:=(hw9.cell (p:=⟨blk,off+i*3,none⟩) (by show blk<w6.heap.size;omega)).trans f0;have z1:=(hw9.cell (p:=⟨blk,off+i*3+1,none⟩) (by show blk<w6.heap.size;omega)).trans f1;have z2:=(hw9.cell (p:=⟨blk,off+i*3+2,none⟩) (by show blk<w6.heap.size;omega)).trans f2;unfold Oper.quietAtIn;simp [go_sem,Oper.quietUponIn,z0,z1,z2]
     simp only[zA,zB,zC,Act.put,zD,zE,zF]
     refine Go.Proofs.YtjngffgkllakaaaGreatDoor.grow_take (.tuple #[.int .i64 (t8:Int),.bool z8]) (by intro w9 _ f9 hf9;exact trivial) (by rfl) (fun w9 hw9=>?_) ?_
     ·unfold Oper.quietAtIn;simp [go_sem,Oper.quietUponIn];exact callsIn_wide.2 ((HRO.out w9 hw9).mono fun e w2 h=>⟨h.1,hw9.trans (h.2.mono hw9.size)⟩)
     simp only[zA,zB,zC,Act.put,zD,zE,zF]
     refine gkT (.tuple #[.int .i64 (t8:Int),.bool z8]) (fun w9 hw9=>?_) ?_
     ·unfold Oper.quietAtIn;simp [go_sem,Oper.quietUponIn]
     simp only[zA,zB,zC,Act.put,zD,zE,zF]
     refine gkT (.int .i64 (t8:Int)) (fun w9 hw9=>?_) ?_
     ·unfold Oper.quietAtIn;simp [go_sem,Oper.quietUponIn]
     simp only[zA,zB,zC,Act.put,zD,zE,zF]
     refine gkT (.bool z8) (fun w9 hw9=>?_) ?_
     ·unfold Oper.quietAtIn;simp [go_sem,Oper.quietUponIn]
     simp only[zA,zB,zC,Act.put,zD,zE,zF]
     refine gkT (.int .i64 (t8:Int)) (fun w9 hw9=>?_) ?_
     ·unfold Oper.quietAtIn;simp [go_sem,Oper.quietUponIn]
     simp only[zA,zB,zC,Act.put,zD,zE,zF]
     refine gkT (.bool z8) (fun w9 hw9=>?_) ?_
     ·unfold Oper.quietAtIn;simp [go_sem,Oper.quietUponIn]
     simp only[zA,zB,zC,Act.put,zD,zE,zF]
     refine wpQuietIn_nil ?_
     intro w9 hw9
     have H69:=zH hw9
     clear hw9 p0 p1 p2 p3 p4 q0 q1 q2 f0 f1 f2 hblk hbw
     have HB9:=zH (HB6.out.trans (H69.out.mono HB6.out.size))
     have H39:=zH (HI.out.2.trans (H69.out.mono HI.out.2.size))
     cases z8
     ·have HE:=zH (HFL.out (fun g=>CD.cZ HZ8.out.symm (by have:=g.2.2.2 i HLT.out;exact this)))
      have ht:0<=t8/\t8<=20000:=by
       have h1:=HFEW.out.all
       have h3:=CD.gL c (show i+1<=c.fs.length from HLT.out)
       have h4:=CD.fM HLT.out
       rw[HT8.out]
       unfold bodT
       split <;> omega
      go_wp2_with fail
      go_ret
      exact⟨by rw[HE.out];rfl,HB9.out⟩
     ·have HBK:=zH (CD.dU HZ8.out.symm)
      have ht:LC+t8=CD.lenC c (i+1):=by
       rw[HLS.out,HT8.out]
       unfold bodT
       rw[CD.bz ⟨HBK.out.1,HBK.out.2.1⟩,if_pos rfl]
      have HT:=zH ht
      have hb3:LC+t8<=300:=by rw[ht];exact HL3.out
      have HN:=zH (show ∀j,j<i+1->CD.aK (aE st c) c (fnAt c j) from fun j hj=>by
       by_cases e:j=i
       ·rw[e];exact HBK.out
       ·exact HI.out.1 j (by omega))
      have t9:decide ((4096:Int)<(LC:Int)+(t8:Int))=false:=decide_eq_false (by omega)
      clear ht
      go_wp2_with fail
      go_roundw
      case rel=>exact⟨i+1,HLT.out,by go_num,by rw[<-HT.out];go_num,zH ⟨HN.out,H39.out⟩⟩
      case measure=>have:=HLT.out;simp [intOf];omega
    ·have HE:=zH (HYE.out ⟨⟨rfl,HM.out.2⟩,HCE.out,⟨HM.out.1,by rw[<-HPA.out];exact H5.out⟩,fun j hj=>HI.out.1 j (by omega)⟩)
     have ei:i=c.fs.length:=by omega
     subst ei
     go_wp2_with fail
     go_ret
     exact⟨by rw[HE.out];rfl,HB6.out⟩
end
section
open Go.RowKit
open CD (OpP BodyP CodeP aj blAt fnAt)
structure Short9 (st:PSt):Prop where
 l:∀j,j<st.L.length->(wd6 st.L j).size<=140737488351232
 i:∀j,j<st.I.length->(chAt st.I j).1.size<=140737488351232
 o:∀j,j<st.O.length->(chAt st.O j).1.size<=140737488351232
theorem Short9.six{st:PSt}(h:Short9 st):Short6 st:=⟨fun j hj=>Nat.le_trans (h.l j hj) (by decide),fun j hj=>Nat.le_trans (h.i j hj) (by decide),fun j hj=>Nat.le_trans (h.o j hj) (by decide)⟩
def CheckE(P:Prop)(e:Ending):Prop:=∃(i t:Int) (k:Nat),e=.returned (.tuple #[.int .i64 i,.int .i64 t,.int .i64 (k:Int)])/\(k=0↔P)
theorem oH{P:Prop}(h:¬P)(i t:Int){k:Nat}(hk:k≠0):CheckE P (.returned (.tuple #[.int .i64 i,.int .i64 t,.int .i64 (k:Int)])):=⟨i,t,k,rfl,fun e=>absurd e hk,fun p=>absurd p h⟩
theorem tN{P:Prop}(h:P)(i t:Int):CheckE P (.returned (.tuple #[.int .i64 i,.int .i64 t,.int .i64 ((0:Nat):Int)])):=⟨i,t,0,rfl,fun _=>h,fun _=>rfl⟩
theorem oJ(b:BodyP):FreeD b (toB b)↔lr b:=Iff.rfl
set_option maxRecDepth 100000 in
set_option maxHeartbeats 3200000 in
theorem pU(v0 v1 v2 v3 av fv:Value)(st:PSt)(S:List Int)(c:CodeP)(w:World)(hp:PolIn w v0 v1 v2 v3 st S)(hw:Wide S)(hsh:Short9 st)(ha:bA w.heap.size w av c.ar)(hf:bh w.heap.size w fv c.fs)(hfew:CD.Few c)(hs:fm c) :
 Calls Tryz.prog 19 #[.agg #[v0,v1,v2,v3,.int .i64 st.D],.agg #[av,fv,.int .i64 c.mn0]] w fun e w'=>CheckE (gz (bg st S) (aE st c) c) e/\Below w.heap.size w w':=by
 have HF:=zH hf
 have HFEW:=zH hfew
 obtain⟨aa,ac,rfl⟩:=ha.form
 obtain⟨fa,fc,rfl⟩:=hf.form
 obtain⟨a0,k0,rfl⟩:=hp.s0.form
 obtain⟨a1,k1,rfl⟩:=hp.s1.form
 obtain⟨a2,k2,rfl⟩:=hp.s2.form
 obtain⟨a3,k3,rfl⟩:=hp.s3.form
 have HBX:=zH (boxes2 w (.cells #[.slice a0 st.L.length k0,.slice a1 S.length k1,.slice a2 st.I.length k2,.slice a3 st.O.length k3,.int .i64 st.D] 26) (.cells #[.slice aa c.ar.length ac,.slice fa c.fs.length fc,.int .i64 c.mn0] 30))
 obtain⟨w2,ew2⟩:∃w2,w2=(w.alloc (.cells #[.slice a0 st.L.length k0,.slice a1 S.length k1,.slice a2 st.I.length k2,.slice a3 st.O.length k3,.int .i64 st.D] 26)).alloc (.cells #[.slice aa c.ar.length ac,.slice fa c.fs.length fc,.int .i64 c.mn0] 30):=⟨_,rfl⟩
 rw[<-ew2] at HBX
 have EW:=zH ew2
 have HRR:=zH (rQ _ _ _ _ _ _ st S c w2 (hp.below HBX.out.2) hw hsh.l hsh.i hsh.o ((ha.below HBX.out.2).mono HBX.out.2.size) ((hf.below HBX.out.2).mono HBX.out.2.size) hfew hs)
 obtain⟨z,ez⟩:∃z,z=CD.tf (CD.fk (bg st S) (aE st c) c):=⟨_,rfl⟩
 rw[<-ez] at HRR
 have HZ:=zH ez
 obtain⟨R,eR⟩:∃R,R=gz (bg st S) (aE st c) c:=⟨_,rfl⟩
 have HR:=zH (show R↔CD.fk (bg st S) (aE st c) c/\∀i,i<c.fs.length->lr (fnAt c i) by rw[eR];exact Iff.rfl)
 rw[<-eR]
 have b1:c.fs.length<=100:=hfew.f
 clear ez ew2 eR hp hw hsh ha hf hfew hs
 cases z
 ·have HNO:=zH (oH (show ¬R from fun h=>CD.cZ HZ.out.symm (HR.out.1 h).1) 0 0 (k:=1) (by decide))
  go_enter Tryz.func19,Tryz.ntmps19
  go_wp2_with (go_at_call 40;rw[<-EW.out];refine HRR.out.mono ?_;rintro e w3 ⟨rfl,hb3⟩;have HB3:=zH (HBX.out.2.trans (hb3.mono HBX.out.2.size));clear hb3)
  go_ret3
  exact⟨HNO.out,HB3.out⟩
 ·have HOK:=zH (CD.dU HZ.out.symm)
  go_enter Tryz.func19,Tryz.ntmps19
  go_wp2_with (go_at_call 40;rw[<-EW.out];refine HRR.out.mono ?_;rintro e w3 ⟨rfl,hb3⟩;have HB3:=zH (HBX.out.2.trans (hb3.mono HBX.out.2.size));have HH3:=zH (az hb3 HBX.out.1.2);clear hb3)
  go_loopw [7] (fun s wr=>∃i:Nat,i<=c.fs.length/\s=.int .i64 (i:Int)/\RowKit.Hid ((∀j,j<i->lr (fnAt c j))/\Below w3.heap.size w3 wr)) (fun s _=>c.fs.length-(intOf s).toNat)
  case atStart=>exact⟨0,Nat.zero_le _,rfl,zH ⟨fun j hj=>absurd hj (Nat.not_lt_zero _),Below.refl _ _⟩⟩
  case round =>
   obtain⟨w5,rfl⟩:∃w5,w5=wr:=⟨_,rfl⟩
   obtain⟨i,hi,rfl,HI⟩:=hrel
   have HB5:=zH (HB3.out.trans (HI.out.2.mono HB3.out.size))
   obtain⟨q0,q1,q2⟩:=box3 (az HI.out.2 HH3.out)
   by_cases hlt:i<c.fs.length
   ·obtain⟨blk,off,ba,bc,efa,hblk,f0,f1,f2,hbs⟩:=(HF.out.below HB5.out).at hlt
    subst efa
    have HLT:=zH hlt
    have i1:(0:Int)<=i/\(i:Int)<c.fs.length:=by omega
    have hbo:=HOK.out.2.2.2 i hlt
    have HFC:=zH (rL (n₀:=w.heap.size) hbo (HFEW.out.l i hlt) (rF (fun j hj=>HOK.out.2.2.2 j hj)) ba bc w5 HB5.out.size (show aU w.heap.size w5 (.slice ba (fnAt c i).bs.length bc) (fnAt c i).bs from hbs))
    have HFN:=zH (show c.fs[i]?.getD CD.b0=fnAt c i from rfl)
    rw[HFN.out] at f0 f1 f2
    obtain⟨b,eb⟩:∃b,b=fnAt c i:=⟨_,rfl⟩
    rw[<-eb] at f0 f1 f2 HFC
    have HEB:=zH eb
    clear eb hbs hlt hbo hblk
    go_upto_region 7 with(go_at_call 41;refine HFC.out.mono ?_;rintro e w6 ⟨⟨t6,k6,rfl,hk6⟩,hb6⟩;have HK6:=zH hk6;have H56:=zH hb6;clear hk6 hb6)
    have H36:=zH (HI.out.2.trans (H56.out.mono HI.out.2.size))
    by_cases hz:k6=0
    ·subst hz
     have HN:=zH (show ∀j,j<i+1->lr (fnAt c j) from fun j hj=>by
      by_cases e:j=i
      ·rw[e,<-HEB.out];exact(oJ b).1 (HK6.out.1 rfl)
      ·exact HI.out.1 j (by omega))
     go_wp2_with fail
     go_roundw
     case rel=>exact⟨i+1,HLT.out,by go_num,zH ⟨HN.out,H36.out⟩⟩
     case measure=>have:=HLT.out;simp [intOf];omega
    ·have t2:((k6:Int) != 0)=true:=by rw[bne_iff_ne];omega
     have t2':((k6:Int) == 0)=false:=beq_eq_false_iff_ne.2 (by omega)
     have t2'':(k6 == 0)=false:=beq_eq_false_iff_ne.2 hz
     have HNO:=zH (oH (show ¬R from fun h=>hz (HK6.out.2 ((oJ b).2 (by rw[HEB.out];exact(HR.out.1 h).2 i HLT.out)))) (i:Int) t6 hz)
     clear hz
     go_wp2_with fail
     go_ret3
     exact⟨HNO.out,HB3.out.trans (H36.out.mono HB3.out.size)⟩
   ·have HYE:=zH (tN (show R from HR.out.2 ⟨HOK.out,fun j hj=>HI.out.1 j (by omega)⟩) 0 0)
    have ei:i=c.fs.length:=by omega
    subst ei
    clear hlt
    go_wp2_with fail
    go_ret3
    exact⟨HYE.out,HB5.out⟩
set_option maxRecDepth 100000 in
set_option maxHeartbeats 3200000 in
theorem kw(v0 v1 v2 v3 av fv:Value)(st:PSt)(S:List Int)(c:CodeP)(w:World)(hp:PolIn w v0 v1 v2 v3 st S)(hw:Wide S)(hsh:Short9 st)(ha:bA w.heap.size w av c.ar)(hf:bh w.heap.size w fv c.fs)(hfew:CD.Few c)(hs:fm c) :
 Calls Tryz.prog 10 #[.agg #[v0,v1,v2,v3,.int .i64 st.D],.agg #[av,fv,.int .i64 c.mn0]] w fun e w'=>e=.returned (.bool (CD.tf (gz (bg st S) (aE st c) c)))/\Below w.heap.size w w':=by
 obtain⟨aa,ac,rfl⟩:=ha.form
 obtain⟨fa,fc,rfl⟩:=hf.form
 obtain⟨a0,k0,rfl⟩:=hp.s0.form
 obtain⟨a1,k1,rfl⟩:=hp.s1.form
 obtain⟨a2,k2,rfl⟩:=hp.s2.form
 obtain⟨a3,k3,rfl⟩:=hp.s3.form
 have HBX:=zH (boxes2 w (.cells #[.slice a0 st.L.length k0,.slice a1 S.length k1,.slice a2 st.I.length k2,.slice a3 st.O.length k3,.int .i64 st.D] 26) (.cells #[.slice aa c.ar.length ac,.slice fa c.fs.length fc,.int .i64 c.mn0] 30))
 obtain⟨w2,ew2⟩:∃w2,w2=(w.alloc (.cells #[.slice a0 st.L.length k0,.slice a1 S.length k1,.slice a2 st.I.length k2,.slice a3 st.O.length k3,.int .i64 st.D] 26)).alloc (.cells #[.slice aa c.ar.length ac,.slice fa c.fs.length fc,.int .i64 c.mn0] 30):=⟨_,rfl⟩
 rw[<-ew2] at HBX
 have EW:=zH ew2
 have HCK:=zH (pU _ _ _ _ _ _ st S c w2 (hp.below HBX.out.2) hw hsh ((ha.below HBX.out.2).mono HBX.out.2.size) ((hf.below HBX.out.2).mono HBX.out.2.size) hfew hs)
 obtain⟨z,ez⟩:∃z,z=CD.tf (gz (bg st S) (aE st c) c):=⟨_,rfl⟩
 rw[<-ez]
 have HZ:=zH ez
 clear ez hp hw hsh ha hf hfew hs ew2
 go_enter Tryz.func10,Tryz.ntmps10
 go_wp2_with (go_at_call 19;rw[<-EW.out];refine HCK.out.mono ?_;rintro e w3 ⟨⟨i3,at3,k3',rfl,hk3⟩,hb3⟩;have HK3:=zH hk3;have HB3:=zH (HBX.out.2.trans (hb3.mono HBX.out.2.size));clear hk3 hb3)
 go_ret
 refine⟨?_,HB3.out⟩
 have e1:z=decide (k3'=0):=by
  rw[HZ.out]
  exact CD.nu (by rw[<-HK3.out];simp)
 rw[e1]
 by_cases h0:k3'=0
 ·subst h0;rfl
 ·have:((k3':Int) == 0)=false:=by rw[beq_eq_false_iff_ne];omega
  simp [h0,this]
end
section
open Go.RowKit
open CD (OpP BodyP CodeP aj blAt fnAt)
theorem Short9.of{st:PSt}(h:(∀j,j<st.L.length->(wd6 st.L j).size<=140737488351232)/\(∀j,j<st.I.length->(chAt st.I j).1.size<=140737488351232)/\∀j,j<st.O.length->(chAt st.O j).1.size<=140737488351232):Short9 st:=⟨h.1,h.2.1,h.2.2⟩
theorem aJ(w:World):Below w.heap.size w w.drew:=⟨rfl,rfl,rfl,Nat.le_refl _,fun _ _=>rfl⟩
theorem deepL_len{c:CodeP}(D:Int)(h:c.fs.length<=100):(fw c D).length<=100:=by
 unfold fw
 rw[List.length_map]
 have:=pO (toC c) c.mn0
 rw[lC] at this
 omega
set_option maxRecDepth 100000 in
set_option maxHeartbeats 12800000 in
theorem pV(v0 v1 v2 v3 av fv:Value)(st:PSt)(S:List Int)(c:CodeP)(w:World)(hp:PolIn w v0 v1 v2 v3 st S)(hw:Wide S)(hTz:Tz w)(hT:ShT w)(hsh:Short9 st)(ha:bA w.heap.size w av c.ar)(hf:bh w.heap.size w fv c.fs)(hs:fm c) :
 Calls Tryz.prog 3 #[.agg #[v0,v1,v2,v3,.int .i64 st.D],.agg #[av,fv,.int .i64 c.mn0]] w fun e w'=>e=.returned (.bool true)/\Below w.heap.size w w':=by
 obtain⟨aa,ac,rfl⟩:=ha.form
 obtain⟨fa,fc,rfl⟩:=hf.form
 obtain⟨a0,k0,rfl⟩:=hp.s0.form
 obtain⟨a1,k1,rfl⟩:=hp.s1.form
 obtain⟨a2,k2,rfl⟩:=hp.s2.form
 obtain⟨a3,k3,rfl⟩:=hp.s3.form
 have HBX:=zH (boxes2 w (.cells #[.slice a0 st.L.length k0,.slice a1 S.length k1,.slice a2 st.I.length k2,.slice a3 st.O.length k3,.int .i64 st.D] 26) (.cells #[.slice aa c.ar.length ac,.slice fa c.fs.length fc,.int .i64 c.mn0] 30))
 obtain⟨w2,ew2⟩:∃w2,w2=(w.alloc (.cells #[.slice a0 st.L.length k0,.slice a1 S.length k1,.slice a2 st.I.length k2,.slice a3 st.O.length k3,.int .i64 st.D] 26)).alloc (.cells #[.slice aa c.ar.length ac,.slice fa c.fs.length fc,.int .i64 c.mn0] 30):=⟨_,rfl⟩
 rw[<-ew2] at HBX
 have EW:=zH ew2
 have hz2:w.heap.size+1<w2.heap.size:=(Array.getElem?_eq_some_iff.1 HBX.out.1.2).1
 have HUP:=zH (fun(V:World) (hV:Below w2.heap.size w2 V)=>HBX.out.2.trans (hV.mono HBX.out.2.size))
 have HPO:=zH (fun(V:World) (hV:Below w2.heap.size w2 V)=>hp.below (HUP.out V hV))
 have HAR:=zH (fun(V:World) (hV:Below w2.heap.size w2 V)=>(ha.below (HUP.out V hV)).mono (HUP.out V hV).size)
 have HFU:=zH (fun(V:World) (hV:Below w2.heap.size w2 V)=>(hf.below (HUP.out V hV)).mono (HUP.out V hV).size)
 have HTZ:=zH (fun(V:World) (hV:Below w2.heap.size w2 V)=>hTz.on (HUP.out V hV))
 have HSH:=zH (fun(V:World) (hV:Below w2.heap.size w2 V)=>hT.on (HUP.out V hV))
 have HBP:=zH (fun(V:World) (hV:Below w2.heap.size w2 V)=>box5 (az hV HBX.out.1.1))
 have HBC:=zH (fun(V:World) (hV:Below w2.heap.size w2 V)=>box3 (az hV HBX.out.1.2))
 have HSOME:=zH (rsome_any _ _ c w2 (HAR.out _ (Below.refl _ _)) (HFU.out _ (Below.refl _ _)))
 have HW:=zH hw
 have HS9:=zH hsh
 have HSM:=zH hs
 obtain⟨q0,q1,q2⟩:=HBC.out w2 (Below.refl _ _)
 clear hp hw hTz hT hsh ha hf hs ew2
 go_enter Tryz.func3,Tryz.ntmps3
 go_upto_region 1 with fail
 rw[<-EW.out]
 go_wp2_with fail
 refine HSOME.out.mono ?_
 rintro e w3 ⟨⟨z,rfl,hz⟩,hb3⟩
 have HB3:=zH hb3
 clear hb3 q0 q1 q2
 cases z
 ·clear hz
  go_wp2_with fail
  go_ret
  exact⟨rfl,HUP.out _ HB3.out⟩
 ·have HFEW:=zH (hz rfl)
  clear hz
  have hfl:c.fs.length<=100:=HFEW.out.f
  by_cases hR:gz (bg st S) (aE st c) c
  ·have HR:=zH hR
   clear hR
   have hpc3:=HBP.out _ HB3.out
   obtain⟨p0,p1,p2,p3,p4⟩:=hpc3
   obtain⟨q0,q1,q2⟩:=HBC.out _ HB3.out
   go_upto_region 3 with fail
   go_cut [5,6] (fun s5 s6 w9=>(s6=.int .i64 0/\aq w9.heap.size w9 s5 (toC c))/\Below w3.heap.size w3 w9)
   case first =>
    go_region_with (first
     | (go_at_call 7;refine(kq _ _ _ _ st S _ (HPO.out _ (bstep HB3.out (by first | exact hBC | exact hBP | exact aJ _ | exact Below.refl _ _)))).mono ?_;rintro e wP ⟨⟨u0,u1,u2,u3,rfl,hPin⟩,hbP⟩;have hBP:=bstep (a:=w3) (aJ w3) hbP;obtain⟨q0,q1,q2⟩:=HBC.out _ (bstep HB3.out hBP))
     | (go_at_call 8;refine(jl _ _ c _ (HAR.out _ (bstep HB3.out (by first | exact hBP | exact bstep hBP (aJ _)))) (HFU.out _ (bstep HB3.out (by first | exact hBP | exact bstep hBP (aJ _)))) HFEW.out HSM.out).mono ?_;rintro e wC ⟨⟨xa,xf,rfl,hXa,hXf⟩,hbC⟩;have hBC:=bstep (a:=w3) (by first | exact hBP | exact bstep hBP (aJ _)) hbC;have hPin2:=hPin.below (by first | exact hbC | exact bstep (aJ _) hbC))
     | (go_at_call 6;refine(pQ u0 u1 u2 u3 xa xf st S c _ hPin2 HW.out (HTZ.out _ (bstep HB3.out hBC)) (HSH.out _ (bstep HB3.out hBC)) HS9.out.six hXa hXf HFEW.out HSM.out).mono ?_;rintro e wT ⟨hTo,hbT⟩;obtain⟨tv,rfl,hg⟩:=hTo.1 HR.out))
    all_goals (
     simp only[zA,zB,zC,Act.put,zD,zE,zF]
     go_wp2_with fail
     go_meet
     case rel=>exact⟨⟨rfl,hg⟩,bstep hBC hbT⟩)
   case rest =>
    obtain⟨hrel,hbb⟩:=hcut
    obtain⟨rfl,hg⟩:=hrel
    have hgu:=hg
    obtain⟨ta,tc,rfl⟩:=hg.form
    have HG3:=zH hgu
    clear hgu hg
    have HB4:=zH (bstep HB3.out hbb)
    obtain⟨w4,rfl⟩:∃y,y=wc:=⟨_,rfl⟩
    clear p0 p1 p2 p3 p4 q0 q1 q2
    have hpc4:=HBP.out _ HB4.out
    obtain⟨p0,p1,p2,p3,p4⟩:=hpc4
    obtain⟨q0,q1,q2⟩:=HBC.out _ HB4.out
    go_upto_region 4 with fail
    go_cut [7,8] (fun s7 s8 w9=>(s8=.int .i64 0/\BRow w9.heap.size w9 s7 (fw c st.D))/\Below w4.heap.size w4 w9)
    case first =>
     go_region_with (first
      | (go_at_call 7;refine(kq _ _ _ _ st S _ (HPO.out _ (bstep HB4.out (by first | exact hBC | exact hBP | exact aJ _ | exact Below.refl _ _)))).mono ?_;rintro e wP ⟨⟨u0,u1,u2,u3,rfl,hPin⟩,hbP⟩;have hBP:=bstep (a:=w4) (aJ w4) hbP;obtain⟨q0,q1,q2⟩:=HBC.out _ (bstep HB4.out hBP))
      | (go_at_call 8;refine(jl _ _ c _ (HAR.out _ (bstep HB4.out (by first | exact hBP | exact bstep hBP (aJ _)))) (HFU.out _ (bstep HB4.out (by first | exact hBP | exact bstep hBP (aJ _)))) HFEW.out HSM.out).mono ?_;rintro e wC ⟨⟨xa,xf,rfl,hXa,hXf⟩,hbC⟩;have hBC:=bstep (a:=w4) (by first | exact hBP | exact bstep hBP (aJ _)) hbC;have hPin2:=hPin.below (by first | exact hbC | exact bstep (aJ _) hbC))
      | (go_at_call 9;refine(oD u0 u1 u2 u3 xa xf st S c _ hPin2 HW.out (HTZ.out _ (bstep HB4.out hBC)) (HSH.out _ (bstep HB4.out hBC)) HS9.out.six hXa hXf HFEW.out HSM.out).mono ?_;rintro e wT ⟨hTo,hbT⟩;obtain⟨tv,rfl,hg⟩:=hTo.1 HR.out))
     all_goals (
      simp only[zA,zB,zC,Act.put,zD,zE,zF]
      go_wp2_with fail
      go_meet
      case rel=>exact⟨⟨rfl,hg⟩,bstep hBC hbT⟩)
    case rest =>
     obtain⟨hrel,hbb⟩:=hcut
     obtain⟨rfl,hg⟩:=hrel
     have hgu:=hg
     obtain⟨la,lc,rfl⟩:=hg.form
     have HL4:=zH hgu
     have HG4:=zH (HG3.out.on hbb hbb.size)
     clear hgu hg
     have HB5:=zH (bstep HB4.out hbb)
     obtain⟨w5,rfl⟩:∃y,y=wc:=⟨_,rfl⟩
     clear p0 p1 p2 p3 p4 q0 q1 q2
     have HRR:=zH (kw _ _ _ _ _ _ st S c w5 (HPO.out _ HB5.out) HW.out HS9.out (HAR.out _ HB5.out) (HFU.out _ HB5.out) HFEW.out HSM.out)
     rw[CD.bz HR.out] at HRR
     have HGM:=zH HG4.out
     obtain⟨p0,p1,p2,p3,p4⟩:=HBP.out _ HB5.out
     obtain⟨q0,q1,q2⟩:=HBC.out _ HB5.out
     go_wp2_with fail
     refine HRR.out.mono ?_
     rintro e w6 ⟨rfl,hb6⟩
     have HB6:=zH (bstep HB5.out hb6)
     have HG6:=zH (HGM.out.on hb6 hb6.size)
     have HL6:=zH ((HL4.out.below hb6).mono hb6.size)
     clear hb6 p0 p1 p2 p3 p4 q0 q1 q2
     obtain⟨p0,p1,p2,p3,p4⟩:=HBP.out _ HB6.out
     obtain⟨q0,q1,q2⟩:=HBC.out _ HB6.out
     have HRD:=zH (rq _ _ _ _ _ _ st S c w6 (HPO.out _ HB6.out) (HAR.out _ HB6.out) (HFU.out _ HB6.out) HFEW.out)
     go_wp2_with fail
     refine HRD.out.mono ?_
     rintro e w7 ⟨dv,rfl,hd,hb7⟩
     have hdu:=hd
     obtain⟨da,dc,rfl⟩:=hd.form
     have HD7:=zH hdu
     have HB7:=zH (bstep HB6.out hb7)
     have HG7:=zH (HG6.out.on hb7 hb7.size)
     have HL7:=zH ((HL6.out.below hb7).mono hb7.size)
     clear hb7 hdu hd p0 p1 p2 p3 p4 q0 q1 q2
     obtain⟨q0,q1,q2⟩:=HBC.out _ HB7.out
     have HRT:=zH (nV _ _ c w7 (HAR.out _ HB7.out) (HFU.out _ HB7.out) HFEW.out)
     go_wp2_with fail
     refine HRT.out.mono ?_
     rintro e w8 ⟨gv,rfl,hgv,hb8⟩
     have hgu:=hgv
     obtain⟨ga,gc,rfl⟩:=hgv.form
     have HR8:=zH hgu
     have HG8:=zH (HG7.out.on hb8 hb8.size)
     have HL8:=zH ((HL7.out.below hb8).mono hb8.size)
     have HD8:=zH ((HD7.out.below hb8).mono hb8.size)
     have HB8:=zH (bstep HB7.out hb8)
     have HTS:=zH (kO (c:=c) hfl)
     clear hb8 hgu hgv q0 q1 q2
     go_wp2_with fail
     refine(qd _ _ (toC c) (toC c) _ _ HG8.out HR8.out HTS.out HTS.out).mono ?_
     rintro e w9 ⟨rfl,d,e9⟩
     rw[decide_eq_true (rfl:toC c=toC c)]
     have HB9:=zH (show Below w2.heap.size w2 w9 from by rw[e9];exact HB8.out.trans ⟨rfl,rfl,rfl,Nat.le_refl _,fun _ _=>rfl⟩)
     have HL9:=zH (show BRow w9.heap.size w9 (.slice la (fw c st.D).length lc) (fw c st.D) by rw[e9];exact HL8.out.drewN d)
     have HD9:=zH (show BRow w9.heap.size w9 (.slice da (fw c st.D).length dc) (fw c st.D) by rw[e9];exact HD8.out.drewN d)
     clear e9
     have hdl:=deepL_len (c:=c) st.D hfl
     obtain⟨xs,exs⟩:∃xs,xs=fw c st.D:=⟨_,rfl⟩
     rw[<-exs] at HL9 HD9 hdl ⊢
     have t1:((xs.length:Int) != (xs.length:Int))=false:=by simp
     clear exs
     go_wp2_with fail
     go_loopw [10] (fun s10 wr=>∃i:Nat,i<=xs.length/\s10=.int .i64 (i:Int)/\RowKit.Hid (Below w9.heap.size w9 wr)) (fun s10 _=>xs.length-(intOf s10).toNat)
     case atStart=>exact⟨0,Nat.zero_le _,rfl,zH (Below.refl _ _)⟩
     case round =>
      obtain⟨v9,rfl⟩:∃y,y=wr:=⟨_,rfl⟩
      obtain⟨i,hi,rfl,HI⟩:=hrel
      by_cases hlt:i<xs.length
      ·obtain⟨rb,ro,e1,hc⟩:=(HL9.out.below HI.out).cellAt hlt
       cases e1
       obtain⟨sb,so,e2,hd⟩:=(HD9.out.below HI.out).cellAt hlt
       cases e2
       have HLT:=zH hlt
       have i1:(0:Int)<=i/\(i:Int)<xs.length:=by omega
       obtain⟨x,ex⟩:∃x,x=xs[i]?.getD false:=⟨_,rfl⟩
       rw[<-ex] at hc hd
       have t2:(x != x)=false:=by simp
       clear hlt ex
       go_upto_region 13 with fail
       go_region
       have HI2:=zH (HI.out.trans ((aJ v9).mono HI.out.size))
       generalize v9.drew=v10 at HI2 ⊢
       go_wp2_with fail
       go_roundw
       case rel=>exact⟨i+1,HLT.out,by go_num,HI2⟩
       case measure=>have:=HLT.out;simp [intOf];omega
      ·have ei:i=xs.length:=by omega
       subst ei
       clear hlt
       go_wp2_with fail
       refine(mw v9).mono ?_
       rintro e w10 ⟨rfl,hb⟩
       have HB10:=zH (bstep (bstep HB9.out HI.out) hb)
       clear hb
       go_wp2_with fail
       go_ret
       exact⟨rfl,HUP.out _ HB10.out⟩
  ·have HR:=zH hR
   clear hR
   have hpc3:=HBP.out _ HB3.out
   obtain⟨p0,p1,p2,p3,p4⟩:=hpc3
   obtain⟨q0,q1,q2⟩:=HBC.out _ HB3.out
   go_upto_region 3 with fail
   go_cut [5,6] (fun s5 s6 w9=>(s5=.slice none 0 0/\s6=.int .i64 1)/\Below w3.heap.size w3 w9)
   case first =>
    go_region_with (first
     | (go_at_call 7;refine(kq _ _ _ _ st S _ (HPO.out _ (bstep HB3.out (by first | exact hBC | exact hBP | exact aJ _ | exact Below.refl _ _)))).mono ?_;rintro e wP ⟨⟨u0,u1,u2,u3,rfl,hPin⟩,hbP⟩;have hBP:=bstep (a:=w3) (aJ w3) hbP;obtain⟨q0,q1,q2⟩:=HBC.out _ (bstep HB3.out hBP))
     | (go_at_call 8;refine(jl _ _ c _ (HAR.out _ (bstep HB3.out (by first | exact hBP | exact bstep hBP (aJ _)))) (HFU.out _ (bstep HB3.out (by first | exact hBP | exact bstep hBP (aJ _)))) HFEW.out HSM.out).mono ?_;rintro e wC ⟨⟨xa,xf,rfl,hXa,hXf⟩,hbC⟩;have hBC:=bstep (a:=w3) (by first | exact hBP | exact bstep hBP (aJ _)) hbC;have hPin2:=hPin.below (by first | exact hbC | exact bstep (aJ _) hbC))
     | (go_at_call 6;refine(pQ u0 u1 u2 u3 xa xf st S c _ hPin2 HW.out (HTZ.out _ (bstep HB3.out hBC)) (HSH.out _ (bstep HB3.out hBC)) HS9.out.six hXa hXf HFEW.out HSM.out).mono ?_;rintro e wT ⟨hTo,hbT⟩;have hE:=hTo.2 HR.out;subst hE))
    all_goals (
     simp only[zA,zB,zC,Act.put,zD,zE,zF]
     go_wp2_with fail
     go_meet
     case rel=>exact⟨⟨rfl,rfl⟩,bstep hBC hbT⟩)
   case rest =>
    obtain⟨hrel,hbb⟩:=hcut
    obtain⟨rfl,rfl⟩:=hrel
    have HB4:=zH (bstep HB3.out hbb)
    obtain⟨w4,rfl⟩:∃y,y=wc:=⟨_,rfl⟩
    clear p0 p1 p2 p3 p4 q0 q1 q2
    have hpc4:=HBP.out _ HB4.out
    obtain⟨p0,p1,p2,p3,p4⟩:=hpc4
    obtain⟨q0,q1,q2⟩:=HBC.out _ HB4.out
    go_upto_region 4 with fail
    go_cut [7,8] (fun s7 s8 w9=>(s7=.slice none 0 0/\s8=.int .i64 1)/\Below w4.heap.size w4 w9)
    case first =>
     go_region_with (first
      | (go_at_call 7;refine(kq _ _ _ _ st S _ (HPO.out _ (bstep HB4.out (by first | exact hBC | exact hBP | exact aJ _ | exact Below.refl _ _)))).mono ?_;rintro e wP ⟨⟨u0,u1,u2,u3,rfl,hPin⟩,hbP⟩;have hBP:=bstep (a:=w4) (aJ w4) hbP;obtain⟨q0,q1,q2⟩:=HBC.out _ (bstep HB4.out hBP))
      | (go_at_call 8;refine(jl _ _ c _ (HAR.out _ (bstep HB4.out (by first | exact hBP | exact bstep hBP (aJ _)))) (HFU.out _ (bstep HB4.out (by first | exact hBP | exact bstep hBP (aJ _)))) HFEW.out HSM.out).mono ?_;rintro e wC ⟨⟨xa,xf,rfl,hXa,hXf⟩,hbC⟩;have hBC:=bstep (a:=w4) (by first | exact hBP | exact bstep hBP (aJ _)) hbC;have hPin2:=hPin.below (by first | exact hbC | exact bstep (aJ _) hbC))
      | (go_at_call 9;refine(oD u0 u1 u2 u3 xa xf st S c _ hPin2 HW.out (HTZ.out _ (bstep HB4.out hBC)) (HSH.out _ (bstep HB4.out hBC)) HS9.out.six hXa hXf HFEW.out HSM.out).mono ?_;rintro e wT ⟨hTo,hbT⟩;have hE:=hTo.2 HR.out;subst hE))
     all_goals (
      simp only[zA,zB,zC,Act.put,zD,zE,zF]
      go_wp2_with fail
      go_meet
      case rel=>exact⟨⟨rfl,rfl⟩,bstep hBC hbT⟩)
    case rest =>
     obtain⟨hrel,hbb⟩:=hcut
     obtain⟨rfl,rfl⟩:=hrel
     have HB5:=zH (bstep HB4.out hbb)
     obtain⟨w5,rfl⟩:∃y,y=wc:=⟨_,rfl⟩
     clear p0 p1 p2 p3 p4 q0 q1 q2
     have HRR:=zH (kw _ _ _ _ _ _ st S c w5 (HPO.out _ HB5.out) HW.out HS9.out (HAR.out _ HB5.out) (HFU.out _ HB5.out) HFEW.out HSM.out)
     rw[CD.aD HR.out] at HRR
     obtain⟨p0,p1,p2,p3,p4⟩:=HBP.out _ HB5.out
     obtain⟨q0,q1,q2⟩:=HBC.out _ HB5.out
     go_wp2_with fail
     refine HRR.out.mono ?_
     rintro e w6 ⟨rfl,hb6⟩
     have HB6:=zH (bstep HB5.out hb6)
     clear hb6 p0 p1 p2 p3 p4 q0 q1 q2
     go_wp2_with fail
     refine(mw w6).mono ?_
     rintro e w7 ⟨rfl,hb⟩
     have HB7:=zH (bstep HB6.out hb)
     clear hb
     go_wp2_with fail
     go_ret
     exact⟨rfl,HUP.out _ HB7.out⟩
end
section
open Go.RowKit
theorem own:ownKnob Tryz.prog.godebug=none:=by kernel_rfl
theorem laidOut:laidOutB Tryz.prog=true:=by kernel_rfl
noncomputable def doorW (os:Os):World:=World.doorLaid Tryz.prog 32 os
theorem rR{l:List (String × DataW Unit)}{W:World}(h:laidMetH Tryz.prog l W)(keep:String × DataW Unit->Bool){m:List (String × DataW Unit)}
 (e:((l.filter fun x=>x.2.handleName?.isNone).filter keep)=m):laidMet Tryz.prog m W:=e ▸ (laidMetH_iff.1 h).1.filter keep
end
section
open Go.RowKit
theorem gTz:Tryz.prog.globalNamed "math/bits.deBruijn64tab" = some 0:=by kernel_rfl
theorem gTzType:(Tryz.prog.globals[0]?).map (·.type)=some 300:=by kernel_rfl
def tzL:List Int:=Lib.deBruijn64tab.map fun(n:Nat)=>(n:Int)
theorem tz_of{l:List (String × DataW Unit)}{W:World}(h:laidMetH Tryz.prog l W)
 (e:((l.filter fun x=>x.2.handleName?.isNone).filter fun x=>x.1 == "math/bits.deBruijn64tab")=[("math/bits.deBruijn64tab",Rows.laid_math_bits_deBruijn64tab)]):Tz W:=by
 have h':=rR h _ e
 have ht:Lib.TabIs Tryz.prog W "math/bits.deBruijn64tab" .u8 tzL :=
  Lib.tabIs_of_head (rest:=[]) gTz gTzType Tryz.underlying300 Tryz.underlying5 (by kernel_rfl) (by kernel_rfl) h'
 intro j hj
 have hc:=ht.cell gTz j (by unfold tzL;rw[List.length_map];exact hj)
 rw[hc]
 unfold tzL
 rw[List.getD_eq_getElem?_getD,List.getD_eq_getElem?_getD,List.getElem?_map,List.getElem?_eq_getElem hj]
 rfl
end
section
open Go.RowKit
theorem gSh:Tryz.prog.globalNamed "interdict/names.shapes" = some shG:=by kernel_rfl
theorem gShType:(Tryz.prog.globals[shG]?).map (·.type)=some 305:=by kernel_rfl
def shRow(k:Nat):List (DataW Unit):=[.lit (.int .u8 (refW k)),.lit (.int .u8 (altW k)),.lit (.bool (decide (CD.Defs k))),.lit (.int .i64 (CD.argN k:Nat))]
theorem shapes_is:(Rows.laid_interdict_names_shapes:DataW Unit)=.agg ((List.range 14).map fun k=>.agg (shRow k)):=by kernel_rfl
set_option maxRecDepth 100000 in
theorem sht_of{l:List (String × DataW Unit)}{W:World}(h:laidMetH Tryz.prog l W)
 (e:((l.filter fun x=>x.2.handleName?.isNone).filter fun x=>x.1 == "interdict/names.shapes")=[("interdict/names.shapes",Rows.laid_interdict_names_shapes)]):ShT W:=by
 have h':=rR h _ e
 rw[shapes_is] at h'
 obtain⟨g,t,cs,fuel,p,hg,hty,hvar,hd⟩:=Lib.laidMet.reads h' (.head _)
 obtain rfl:=Option.some.inj (gSh.symm.trans hg)
 obtain rfl:=Option.some.inj (gShType.symm.trans hty)
 have c4:Tryz.prog.cellsOf 304=4:=by kernel_rfl
 have c8:Tryz.prog.cellsOf 237=1:=by kernel_rfl
 have cb:Tryz.prog.cellsOf 4=1:=by kernel_rfl
 have ci:Tryz.prog.cellsOf 3=1:=by kernel_rfl
 intro k hk
 obtain⟨fuel',d,q,hdi,he⟩:=Lib.array_elem Tryz.underlying305 hd k hk
 simp only[List.getElem?_map,List.getElem?_range hk,Option.map_some,Option.some.injEq] at hdi
 subst hdi
 rw[c4] at he
 obtain⟨xs,n,_,hx,hl,hxl,hall⟩:=DataW.trod_struct Tryz.underlying304 he
 match xs,hxl with
 | [y0,y1,y2,y3],_ =>
   have g0:=hall 0 _ rfl
   have g1:=hall 1 _ rfl
   have g2:=hall 2 _ rfl
   have g3:=hall 3 _ rfl
   simp only[List.getElem?_cons_zero,List.getElem?_cons_succ] at g0 g1 g2 g3
   obtain⟨n0,e0,z0,_⟩:=DataW.trod_int Tryz.underlying237 g0
   obtain⟨n1,e1,z1,_⟩:=DataW.trod_int Tryz.underlying237 g1
   obtain⟨b2,e2,z2⟩:=DataW.trod_bool Tryz.underlying4 g2
   obtain⟨n3,e3,z3,_⟩:=DataW.trod_int Tryz.underlying3 g3
   have hr:shRow k=[y0.1,y1.1,y2.1,y3.1]:=by simpa using (Prod.mk.inj hx).1
   rw[z0,z1,z2,z3] at hr
   unfold shRow at hr
   simp only[List.cons.injEq,DataW.lit.injEq,Lit.int.injEq,Lit.bool.injEq,true_and,and_true] at hr
   obtain⟨r0,r1,r2,r3⟩:=hr
   subst r0 r1 r2 r3
   have f0:=congrArg (·[0]?) e0
   have f1:=congrArg (·[0]?) e1
   have f2:=congrArg (·[0]?) e2
   have f3:=congrArg (·[0]?) e3
   simp [c8,cb,ci,List.getElem?_take,List.getElem?_drop] at f0 f1 f2 f3
   refine⟨?_,?_,?_,?_⟩
   ·rw[World.var?_cell hg hvar (k*4)];exact f0
   ·rw[World.var?_cell hg hvar (k*4+1)];exact f1
   ·rw[World.var?_cell hg hvar (k*4+2)];exact f2
   ·rw[World.var?_cell hg hvar (k*4+3)];exact f3
end
section
open Go.ChangeShapes Go.WideShapes Go.RowKit Go.Deep Go.Joins
instance:Inhabited OpV:=⟨⟨0,0,0,0,0,none,0,0,none,0,0,0,0⟩⟩
theorem gweight{H:Type}{P:Program}{t e:TypeId}{A B:List (DataW H)}(ht:P.underlying t=some (.slice e))(hsz:∀n∈(DataW.slice A B:DataW H).weights P t,n<=reachBytes):(A.length+B.length)*P.bytesOf e<=140737488351232:=by
 have e1:reachBytes=140737488351232:=by decide
 rw[<-e1]
 refine hsz _ ?_
 simp only[DataW.weights,ht]
 exact List.mem_cons_self ..
section
variable {H:Type} {enc:TypeId × Value->H} {W:World} {fuel:Nat} {v:Value} {x:DataW H × List MemPlace}
end
end
section
open Go.ChangeShapes Go.WideShapes Go.RowKit Go.Deep Go.Joins
open CD (OpP BodyP CodeP aj blAt fnAt)
instance:Inhabited OpP:=⟨CD.o0⟩
instance:Inhabited BodyP:=⟨CD.b0⟩
section
variable {H:Type} {enc:TypeId × Value->H} {W:World} {fuel:Nat} {v:Value} {x:DataW H × List MemPlace}
theorem oK(hf:DataW.trod enc Tryz.prog W 0 (fun _=>true) true fuel 54 [v]=some x)(hsz:∀n∈x.1.weights Tryz.prog 54,n<=reachBytes) :
 ∃(a:Option Addr) (c:Nat) (zs:List Int),v=.slice a zs.length c/\Row W.heap.size W (.slice a zs.length c) zs/\zs.length<=17592186044416:=by
 rcases open_ints Tryz.underlying54 Tryz.underlying3 (by kernel_rfl) hf with⟨hcs,_⟩ | ⟨y,l,c,zs,hcs,_,hl,hm,hz,hx,hcell,hwz⟩
 ·simp at hcs
  subst hcs
  exact⟨none,0,[],rfl,br _ _ _ _ (fun _=>rfl),Nat.zero_le _⟩
 ·simp at hcs
  subst hcs
  have hzl:zs.length=c:=by simpa using hz
  have htl:(zs.take l).length=l:=by rw[List.length_take];omega
  refine⟨some y,c,zs.take l,by rw[htl],?_,?_⟩
  ·by_cases h0:l=0
   ·subst h0
    rw[List.take_zero]
    exact br _ _ _ _ (fun e=>by cases e)
   ·have hc:=hcell 0 (by omega)
    rw[show y.add 0=y from by cases y;rename_i s;cases s <;> simp [Addr.add]] at hc
    obtain⟨b,off,rfl,hlt⟩:=lN hc
    refine .inr ⟨b,off,c,by rw[aY],hlt,by rw[aY,htl];exact hl,fun k u hk=>?_⟩
    have hkn:k<l:=by
     have:=(List.getElem?_eq_some_iff.1 hk).1
     rwa [aY,htl] at this
    have h7:=hcell k (by omega)
    rw[Addr.add_lit] at h7
    rw[h7]
    rw[qc (by omega),List.getElem?_take_of_lt hkn] at hk
    rw[List.getD_eq_getElem?_getD]
    exact hk
  ·rw[hx] at hsz
   have h:=gweight Tryz.underlying54 hsz
   have e2:Tryz.prog.bytesOf 3=8:=by kernel_rfl
   rw[e2] at h
   simp only[lits,List.length_map,List.length_take,List.length_drop] at h
   omega
set_option maxRecDepth 100000 in
theorem open_opsF(hf:DataW.trod enc Tryz.prog W 0 (fun _=>true) true fuel 53 [v]=some x)(hsz:∀n∈x.1.weights Tryz.prog 53,n<=reachBytes) :
 ∃b,OpsF W.heap.size W v b/\∀j,j<b.length->fl (aj b j):=by
 rcases open_slice Tryz.underlying53 hf with⟨hcs,_⟩ | ⟨y,l,c,m,n,D,Pl,hcs,_,hl,hm,hmm,hx,hel⟩
 ·simp at hcs
  subst hcs
  exact⟨[],⟨[],.inl ⟨⟨_,_,rfl⟩,rfl⟩,rfl,fun i x h=>by simp at h⟩,fun j hj=>absurd hj (Nat.not_lt_zero _)⟩
 ·simp at hcs
  subst hcs
  have hm':m=c:=by simpa using hmm
  have ce:Tryz.prog.cellsOf 56=9:=by kernel_rfl
  have c8:Tryz.prog.cellsOf 5=1:=by kernel_rfl
  have ci:Tryz.prog.cellsOf 3=1:=by kernel_rfl
  have c64:Tryz.prog.cellsOf 2=1:=by kernel_rfl
  have cr:Tryz.prog.cellsOf 54=1:=by kernel_rfl
  have each:∀i,i<l->∃q:OpV × OpP,(∀k u,(aF q.1)[k]?=some u->W.cell? (y.add (i*9+k))=some u)/\OpOf W.heap.size W q.1 q.2/\fl q.2:=by
   intro i hi
   obtain⟨cs',h1,h2⟩:=hel i (by omega)
   rw[ce] at h1
   obtain⟨_,hlen,hcell⟩:=World.cells?_some h1
   obtain⟨xs,k,_,hxD,_,hxl,hg⟩:=DataW.trod_struct Tryz.underlying56 h2
   match xs,hxl,cs',hlen with
   | [y0,y1,y2,y3,y4,y5,y6,y7,y8],_,[u0,u1,u2,u3,u4,u5,u6,u7,u8],_ =>
     have g0:=hg 0 _ rfl
     have g1:=hg 1 _ rfl
     have g2:=hg 2 _ rfl
     have g3:=hg 3 _ rfl
     have g4:=hg 4 _ rfl
     have g5:=hg 5 _ rfl
     have g6:=hg 6 _ rfl
     have g7:=hg 7 _ rfl
     have g8:=hg 8 _ rfl
     simp [c8] at g0 g1
     simp [ci] at g2 g3 g4 g8
     simp [cr] at g5 g6
     simp [c64] at g7
     have hDi:D i=.agg [y0.1,y1.1,y2.1,y3.1,y4.1,y5.1,y6.1,y7.1,y8.1]:=by simpa using (Prod.mk.inj hxD).1
     have hw:∀n,n∈y5.1.weights Tryz.prog 54∨n∈y6.1.weights Tryz.prog 54->n<=reachBytes:=by
      intro n hn
      refine hsz n ?_
      rw[hx]
      simp only[DataW.weights,Tryz.underlying53]
      refine List.mem_cons_of_mem _ (List.mem_append_left _ (dS (d:=D i) (List.mem_map.2 ⟨i,List.mem_range.2 hi,rfl⟩) ?_))
      rw[hDi]
      simp only[DataW.weights,Tryz.underlying56]
      simp only[DataW.weightsEach,List.map_cons,List.map_nil,List.mem_append]
      rcases hn with hn | hn
      ·exact .inr (.inr (.inr (.inr (.inr (.inl hn)))))
      ·exact .inr (.inr (.inr (.inr (.inr (.inr (.inl hn))))))
     obtain⟨n0,e0,_,_⟩:=DataW.trod_int Tryz.underlying5 g0
     obtain⟨n1,e1,_,_⟩:=DataW.trod_int Tryz.underlying5 g1
     obtain⟨n2,e2,_,_⟩:=DataW.trod_int Tryz.underlying3 g2
     obtain⟨n3,e3,_,_⟩:=DataW.trod_int Tryz.underlying3 g3
     obtain⟨n4,e4,_,_⟩:=DataW.trod_int Tryz.underlying3 g4
     obtain⟨a5,k5,z5,e5,r5,s5⟩:=oK g5 (fun n hn=>hw n (.inl hn))
     obtain⟨a6,k6,z6,e6,r6,s6⟩:=oK g6 (fun n hn=>hw n (.inr hn))
     obtain⟨n7,e7,_,_⟩:=DataW.trod_int Tryz.underlying2 g7
     obtain⟨n8,e8,_,_⟩:=DataW.trod_int Tryz.underlying3 g8
     simp at e0 e1 e2 e3 e4 e7 e8
     subst e0 e1 e2 e3 e4 e5 e6 e7 e8
     refine⟨(⟨n0,n1,n2,n3,n4,a5,z5.length,k5,a6,z6.length,k6,n7,n8⟩,⟨n0,n1,n2,n3,n4,z5,z6,n7,n8⟩),fun k u hk=>?_,⟨⟨rfl,rfl,rfl,rfl,rfl,rfl,rfl⟩,r5,r6⟩,s5,s6⟩
     have hk9:k<9:=by
      have:=(List.getElem?_eq_some_iff.1 hk).1
      simpa [aF] using this
     have c0:=hcell k hk9
     rw[add_add] at c0
     rw[c0]
     exact hk
  obtain⟨q,hq⟩:=choose_lt each
  have hat:∀i z,((List.range l).map fun i=>(q i).1)[i]?=some z->i<l/\z=(q i).1:=fun i z hz=>by
   have hi:=(List.getElem?_eq_some_iff.1 hz).1
   rw[List.length_map,List.length_range] at hi
   rw[List.getElem?_map,List.getElem?_range hi] at hz
   exact⟨hi,(Option.some.inj hz).symm⟩
  have hin:∀i,i<l->aj ((List.range l).map fun i=>(q i).2) i=(q i).2:=fun i hi=>by
   unfold aj
   rw[List.getElem?_map,List.getElem?_range hi]
   rfl
  refine⟨(List.range l).map fun i=>(q i).2,⟨(List.range l).map fun i=>(q i).1,?_,by simp,fun i z hz=>?_⟩,fun j hj=>?_⟩
  ·by_cases h0:l=0
   ·subst h0;exact .inl ⟨⟨_,_,rfl⟩,rfl⟩
   ·obtain⟨b,off,spot⟩:=y
    have hc:=(hq 0 (by omega)).1 0 _ rfl
    have hspot:spot=none:=by simpa [Addr.add] using World.cell?_spot hc
    subst hspot
    have hlt:b<W.heap.size:=by
     apply Classical.byContradiction;intro hn
     simp [World.cell?,Addr.add,Array.getElem?_eq_none (Nat.le_of_not_lt hn)] at hc
    refine .inr ⟨b,off,c,by simp,hlt,fun j z hj k u hk=>?_⟩
    obtain⟨hj',rfl⟩:=hat j z hj
    have:=(hq j hj').1 k u hk
    rw[Addr.add_lit] at this
    rw[Nat.add_assoc]
    exact this
  ·obtain⟨hi,rfl⟩:=hat i z hz
   rw[hin i hi]
   exact(hq i hi).2.1
  ·have hj':j<l:=by simpa using hj
   rw[hin j hj']
   exact(hq j hj').2.2
def SmallB(bs:List (List OpP)):Prop:=∀k,k<bs.length->∀j,j<(bs[k]?.getD []).length->fl (aj (bs[k]?.getD []) j)
set_option maxRecDepth 100000 in
theorem pW(hf:DataW.trod enc Tryz.prog W 0 (fun _=>true) true fuel 50 [v]=some x)(hsz:∀n∈x.1.weights Tryz.prog 50,n<=reachBytes) :
 ∃bs,aU W.heap.size W v bs/\SmallB bs:=by
 rcases open_slice Tryz.underlying50 hf with⟨hcs,_⟩ | ⟨y,l,c,m,n,D,Pl,hcs,_,hl,hm,hmm,hx,hel⟩
 ·simp at hcs
  subst hcs
  exact⟨[],⟨[],⟨[],br _ _ _ _ (fun _=>rfl),rfl,fun j hj=>absurd hj (Nat.not_lt_zero _)⟩,rfl,fun j hj=>absurd hj (Nat.not_lt_zero _)⟩,fun j hj=>absurd hj (Nat.not_lt_zero _)⟩
 ·simp at hcs
  subst hcs
  have hm':m=c:=by simpa using hmm
  have ce:Tryz.prog.cellsOf 53=1:=by kernel_rfl
  have each:∀i,i<l->∃q:(Value × List OpV) × List OpP,W.cell? (y.add i)=some q.1.1/\Ops W.heap.size W q.1.1 q.1.2/\dV W.heap.size W q.1.2 q.2/\∀j,j<q.2.length->fl (aj q.2 j):=by
   intro i hi
   obtain⟨cs',h1,h2⟩:=hel i (by omega)
   rw[ce,Nat.mul_one] at h1
   obtain⟨_,hlen,hcell⟩:=World.cells?_some h1
   match cs',hlen with
   | [u0],_ =>
     have c0:=hcell 0 (by omega)
     rw[add_add] at c0
     obtain⟨b,⟨vs,hb1,hb2⟩,hb3⟩:=open_opsF h2 (fun k hk=>hsz k (by
      rw[hx]
      simp only[DataW.weights,Tryz.underlying50]
      exact List.mem_cons_of_mem _ (List.mem_append_left _ (dS (d:=D i) (List.mem_map.2 ⟨i,List.mem_range.2 hi,rfl⟩) hk))))
     exact⟨((u0,vs),b),by simpa using c0,hb1,hb2,hb3⟩
  obtain⟨q,hq⟩:=choose_lt each
  have hv:∀j,j<l->((List.range l).map fun i=>(q i).1.2)[j]?.getD []=(q j).1.2:=fun j hj=>by
   rw[List.getElem?_map,List.getElem?_range hj];rfl
  have hp:∀j,j<l->((List.range l).map fun i=>(q i).2)[j]?.getD []=(q j).2:=fun j hj=>by
   rw[List.getElem?_map,List.getElem?_range hj];rfl
  refine⟨(List.range l).map fun i=>(q i).2,⟨(List.range l).map fun i=>(q i).1.2,⟨(List.range l).map fun i=>(q i).1.1,?_,by simp,fun j hj=>?_⟩,by simp,fun j hj=>?_⟩,fun k hk=>?_⟩
  ·by_cases h0:l=0
   ·subst h0;exact .inl ⟨⟨some y,c,rfl,fun e=>by cases e⟩,rfl⟩
   ·have hc:=(hq 0 (by omega)).1
    rw[show y.add 0=y from by cases y;rename_i s;cases s <;> simp [Addr.add]] at hc
    obtain⟨b,off,rfl,hlt⟩:=lN hc
    refine .inr ⟨b,off,c,by simp,hlt,by simpa using hl,fun j u hj=>?_⟩
    have hjn:j<l:=by
     have:=(List.getElem?_eq_some_iff.1 hj).1
     simpa using this
    rw[List.getElem?_map,List.getElem?_range hjn] at hj
    have:=(hq j hjn).1
    rw[Addr.add_lit] at this
    rw[this];exact hj
  ·have hjn:j<l:=by simpa using hj
   refine⟨(q j).1.1,by rw[List.getElem?_map,List.getElem?_range hjn];rfl,?_⟩
   rw[hv j hjn]
   exact(hq j hjn).2.1
  ·have hjn:j<l:=by simpa using hj
   rw[hv j hjn,hp j hjn]
   exact(hq j hjn).2.2.1
  ·have hkn:k<l:=by simpa using hk
   rw[hp k hkn]
   exact(hq k hkn).2.2.2
set_option maxRecDepth 100000 in
theorem rS(hf:DataW.trod enc Tryz.prog W 0 (fun _=>true) true fuel 28 [v]=some x)(hsz:∀n∈x.1.weights Tryz.prog 28,n<=reachBytes) :
 ∃fs,bh W.heap.size W v fs/\∀i,i<fs.length->SmallB (fs[i]?.getD CD.b0).bs:=by
 rcases open_slice Tryz.underlying28 hf with⟨hcs,_⟩ | ⟨y,l,c,m,n,D,Pl,hcs,_,hl,hm,hmm,hx,hel⟩
 ·simp at hcs
  subst hcs
  exact⟨[],.inl ⟨⟨_,_,rfl⟩,rfl⟩,fun j hj=>absurd hj (Nat.not_lt_zero _)⟩
 ·simp at hcs
  subst hcs
  have hm':m=c:=by simpa using hmm
  have ce:Tryz.prog.cellsOf 52=3:=by kernel_rfl
  have ci:Tryz.prog.cellsOf 3=1:=by kernel_rfl
  have cr:Tryz.prog.cellsOf 50=1:=by kernel_rfl
  have each:∀i,i<l->∃q:BodyP × (Option Addr × Nat),(∀k u,(bodyC q.1 q.2.1 q.2.2)[k]?=some u->W.cell? (y.add (i*3+k))=some u)/\aU W.heap.size W (.slice q.2.1 q.1.bs.length q.2.2) q.1.bs/\SmallB q.1.bs:=by
   intro i hi
   obtain⟨cs',h1,h2⟩:=hel i (by omega)
   rw[ce] at h1
   obtain⟨_,hlen,hcell⟩:=World.cells?_some h1
   obtain⟨xs,k,_,hxD,_,hxl,hg⟩:=DataW.trod_struct Tryz.underlying52 h2
   match xs,hxl,cs',hlen with
   | [y0,y1,y2],_,[u0,u1,u2],_ =>
     have g0:=hg 0 _ rfl
     have g1:=hg 1 _ rfl
     have g2:=hg 2 _ rfl
     simp [ci] at g0 g1
     simp [cr] at g2
     have hDi:D i=.agg [y0.1,y1.1,y2.1]:=by simpa using (Prod.mk.inj hxD).1
     have hw:∀n,n∈y2.1.weights Tryz.prog 50->n<=reachBytes:=by
      intro n hn
      refine hsz n ?_
      rw[hx]
      simp only[DataW.weights,Tryz.underlying28]
      refine List.mem_cons_of_mem _ (List.mem_append_left _ (dS (d:=D i) (List.mem_map.2 ⟨i,List.mem_range.2 hi,rfl⟩) ?_))
      rw[hDi]
      simp only[DataW.weights,Tryz.underlying52]
      simp only[DataW.weightsEach,List.map_cons,List.map_nil,List.mem_append]
      exact .inr (.inr (.inl hn))
     obtain⟨n0,e0,_,_⟩:=DataW.trod_int Tryz.underlying3 g0
     obtain⟨n1,e1,_,_⟩:=DataW.trod_int Tryz.underlying3 g1
     obtain⟨bs,hb,hs⟩:=pW g2 hw
     obtain⟨ba,bc,e2⟩:=hb.form
     simp at e0 e1
     subst e0 e1 e2
     refine⟨(⟨n0,n1,bs⟩,(ba,bc)),fun k u hk=>?_,hb,hs⟩
     have hk3:k<3:=by
      have:=(List.getElem?_eq_some_iff.1 hk).1
      simpa [bodyC] using this
     have c0:=hcell k hk3
     rw[add_add] at c0
     rw[c0]
     exact hk
  obtain⟨q,hq⟩:=choose_lt each
  have hp:∀j,j<l->((List.range l).map fun i=>(q i).1)[j]?.getD CD.b0=(q j).1:=fun j hj=>by
   rw[List.getElem?_map,List.getElem?_range hj];rfl
  refine⟨(List.range l).map fun i=>(q i).1,?_,fun i hi=>?_⟩
  ·by_cases h0:l=0
   ·subst h0;exact .inl ⟨⟨_,_,rfl⟩,rfl⟩
   ·obtain⟨b,off,spot⟩:=y
    have hc:=(hq 0 (by omega)).1 0 _ rfl
    have hspot:spot=none:=by simpa [Addr.add] using World.cell?_spot hc
    subst hspot
    have hlt:b<W.heap.size:=by
     apply Classical.byContradiction;intro hn
     simp [World.cell?,Addr.add,Array.getElem?_eq_none (Nat.le_of_not_lt hn)] at hc
    refine .inr ⟨b,off,c,by simp,hlt,fun j hj=>?_⟩
    have hj':j<l:=by simpa using hj
    obtain⟨h1,h2,_⟩:=hq j hj'
    rw[hp j hj']
    refine⟨(q j).2.1,(q j).2.2,fun k u hk=>?_,h2⟩
    have:=h1 k u hk
    rw[Addr.add_lit] at this
    rw[Nat.add_assoc]
    exact this
  ·have hi':i<l:=by simpa using hi
   rw[hp i hi']
   exact(hq i hi').2.2
set_option maxRecDepth 100000 in
theorem rT(hf:DataW.trod enc Tryz.prog W 0 (fun _=>true) true fuel 27 [v]=some x):∃ps,bA W.heap.size W v ps:=by
 rcases open_slice Tryz.underlying27 hf with⟨hcs,_⟩ | ⟨y,l,c,m,n,D,Pl,hcs,_,hl,hm,hmm,hx,hel⟩
 ·simp at hcs
  subst hcs
  exact⟨[],.inl ⟨⟨_,_,rfl,fun _=>rfl⟩,rfl⟩⟩
 ·simp at hcs
  subst hcs
  have hm':m=c:=by simpa using hmm
  have ce:Tryz.prog.cellsOf 119=2:=by kernel_rfl
  have ci:Tryz.prog.cellsOf 3=1:=by kernel_rfl
  have each:∀i,i<l->∃q:Int × Int,W.cell? (y.add (i*2))=some (.int .i64 q.1)/\W.cell? (y.add (i*2+1))=some (.int .i64 q.2):=by
   intro i hi
   obtain⟨cs',h1,h2⟩:=hel i (by omega)
   rw[ce] at h1
   obtain⟨_,hlen,hcell⟩:=World.cells?_some h1
   obtain⟨xs,k,_,hxD,_,hxl,hg⟩:=DataW.trod_struct Tryz.underlying119 h2
   match xs,hxl,cs',hlen with
   | [y0,y1],_,[u0,u1],_ =>
     have g0:=hg 0 _ rfl
     have g1:=hg 1 _ rfl
     simp [ci] at g0 g1
     obtain⟨n0,e0,_,_⟩:=DataW.trod_int Tryz.underlying3 g0
     obtain⟨n1,e1,_,_⟩:=DataW.trod_int Tryz.underlying3 g1
     have c0:=hcell 0 (by omega)
     have c1:=hcell 1 (by omega)
     rw[add_add] at c0 c1
     simp at e0 e1
     subst e0 e1
     exact⟨(n0,n1),by simpa using c0,by simpa using c1⟩
  obtain⟨q,hq⟩:=choose_lt each
  refine⟨(List.range l).map q,?_⟩
  by_cases h0:l=0
  ·subst h0;exact .inl ⟨⟨_,_,rfl,fun e=>by cases e⟩,rfl⟩
  ·obtain⟨b,off,spot⟩:=y
   have hc:=(hq 0 (by omega)).1
   have hspot:spot=none:=by simpa [Addr.add] using World.cell?_spot hc
   subst hspot
   have hlt:b<W.heap.size:=by
    apply Classical.byContradiction;intro hn
    simp [World.cell?,Addr.add,Array.getElem?_eq_none (Nat.le_of_not_lt hn)] at hc
   refine .inr ⟨b,off,c,by simp,hlt,fun j hj=>?_⟩
   have hj':j<l:=by simpa using hj
   have:=hq j hj'
   rw[Addr.add_lit,Addr.add_lit] at this
   rw[List.getElem?_map,List.getElem?_range hj']
   exact⟨by simpa using this.1,by simpa [Nat.add_assoc] using this.2⟩
end
set_option maxRecDepth 100000 in
theorem open_code{H:Type}{enc:TypeId × Value->H}{r:Reach}{b0:Nat}{W:World}{v:Value}{d:DataW H}{p:List MemPlace}
 (hv:Value.okWide Tryz.prog W r b0 30 v) (h:DataW.Trod enc Tryz.prog W 0 (fun _=>true) true 30 v d p)
 (hsz:∀n∈d.weights Tryz.prog 30,n<=reachBytes) :
 ∃(av fv:Value) (c:CodeP),v=.agg #[av,fv,.int .i64 c.mn0]/\bA W.heap.size W av c.ar/\bh W.heap.size W fv c.fs/\fm c:=by
 obtain⟨v0,v1,v2,y0,y1,y2,n,rfl,rfl,rfl,h0,h1,h2⟩:=open_agg3 Tryz.underlying30 (by kernel_rfl) (by kernel_rfl) hv h
 obtain⟨M,e2,_,_⟩:=DataW.trod_int Tryz.underlying3 h2
 simp at e2
 subst e2
 obtain⟨ps,wp⟩:=rT h0
 obtain⟨fs,wf,sf⟩:=rS h1 (fun k hk=>hsz k (by
  simp only[DataW.weights,Tryz.underlying30]
  simp only[DataW.weightsEach,List.map_cons,List.map_nil,List.mem_append]
  exact .inr (.inl hk)))
 exact⟨v0,v1,⟨ps,fs,M⟩,rfl,wp,wf,fun i hi k hk j hj=>sf i hi k hk j hj⟩
end
section
open Go.ChangeShapes Go.WideShapes Go.ChangeAt Go.RowKit Go.Deep Go.Joins
section
variable {H:Type} {enc:TypeId × Value->H} {W:World} {fuel:Nat} {v:Value} {x:DataW H × List MemPlace}
theorem im{P:Program}{t e:TypeId}{A B:List (DataW H)}(ht:P.underlying t=some (.slice e))(hsz:∀n∈(DataW.slice A B:DataW H).weights P t,n<=reachBytes):(A.length+B.length)*P.bytesOf e<=140737488351232:=by
 have e1:reachBytes=140737488351232:=by decide
 rw[<-e1]
 refine hsz _ ?_
 simp only[DataW.weights,ht]
 exact List.mem_cons_self ..
theorem fq{P:Program}{e:TypeId}{d:DataW H}{n:Nat}:∀ {l:List (DataW H)},d∈l->n∈d.weights P e->n∈DataW.weightsAll P e l
 | x :: l,hd,hn=>by
   simp only[DataW.weightsAll,List.mem_append]
   rcases List.mem_cons.1 hd with rfl | hd
   ·exact .inl hn
   ·exact .inr (fq hd hn)
theorem open_strs(hf:DataW.trod enc Tryz.prog W 0 (fun _=>true) true fuel 22 [v]=some x)(hsz:∀n∈x.1.weights Tryz.prog 22,n<=reachBytes) :
 ∃ss,Strs W.heap.size W v ss/\ss.length*16<=140737488351232/\∀j,j<ss.length->(wd6 ss j).size<=140737488351232:=by
 rcases open_slice Tryz.underlying22 hf with⟨hcs,_⟩ | ⟨y,l,c,m,n,D,Pl,hcs,_,hl,hm,hmm,hx,hel⟩
 ·simp at hcs
  subst hcs
  exact⟨[],.inl ⟨⟨_,_,rfl,fun _=>rfl⟩,rfl⟩,by decide,fun j hj=>absurd hj (Nat.not_lt_zero _)⟩
 ·simp at hcs
  subst hcs
  have hm':m=c:=by simpa using hmm
  have ce:Tryz.prog.cellsOf 9=1:=by kernel_rfl
  have eR:reachBytes=140737488351232:=by decide
  have each:∀i,i<l->∃q:ByteArray,W.cell? (y.add i)=some (.string q)/\q.size<=140737488351232:=by
   intro i hi
   obtain⟨cs',h1,h2⟩:=hel i (by omega)
   rw[ce,Nat.mul_one] at h1
   obtain⟨_,hlen,hcell⟩:=World.cells?_some h1
   obtain⟨s,rfl,hD,_⟩:=DataW.trod_string Tryz.underlying9 h2
   have c0:=hcell 0 (by omega)
   rw[add_add] at c0
   have hDi:D i=.lit (.string s.data.toList):=(Prod.mk.inj hD).1
   have hw:=hsz s.data.toList.length (by
    rw[hx]
    simp only[DataW.weights,Tryz.underlying22]
    exact List.mem_cons_of_mem _ (List.mem_append_left _ (fq (d:=D i) (List.mem_map.2 ⟨i,List.mem_range.2 hi,rfl⟩) (by rw[hDi];simp [DataW.weights]))))
   rw[eR] at hw
   exact⟨s,by simpa using c0,by simpa using hw⟩
  obtain⟨q,hq⟩:=choose_lt each
  have hb:l*16<=140737488351232:=by
   have hw:=hsz
   rw[hx] at hw
   have:=im Tryz.underlying22 hw
   have e2:Tryz.prog.bytesOf 9=16:=by kernel_rfl
   rw[e2,List.length_map,List.length_range,List.length_map,List.length_range] at this
   omega
  refine⟨(List.range l).map q,?_,by simpa using hb,fun j hj=>by
   have hj':j<l:=by simpa using hj
   unfold wd6
   rw[List.getElem?_map,List.getElem?_range hj']
   exact(hq j hj').2⟩
  by_cases h0:l=0
  ·subst h0;exact .inl ⟨⟨_,_,rfl,fun e=>by cases e⟩,rfl⟩
  ·obtain⟨b,off,spot⟩:=y
   have hc:=(hq 0 (by omega)).1
   have hspot:spot=none:=by simpa [Addr.add] using World.cell?_spot hc
   subst hspot
   have hlt:b<W.heap.size:=by
    apply Classical.byContradiction;intro hn
    simp [World.cell?,Addr.add,Array.getElem?_eq_none (Nat.le_of_not_lt hn)] at hc
   refine .inr ⟨b,off,c,by simp,hlt,by simpa using hl,fun j hj=>?_⟩
   have hj':j<l:=by simpa using hj
   have:=(hq j hj').1
   rw[Addr.add_lit] at this
   rw[List.getElem?_map,List.getElem?_range hj']
   exact this
theorem tO(hf:DataW.trod enc Tryz.prog W 0 (fun _=>true) true fuel 23 [v]=some x)(hsz:∀n∈x.1.weights Tryz.prog 23,n<=reachBytes) :
 ∃xs,Nums .u64 W.heap.size W v xs/\(∀c,v=.slice none 0 c->c=0)/\Wide xs/\xs.length*8<=140737488351232:=by
 rcases open_slice Tryz.underlying23 hf with⟨hcs,_⟩ | ⟨y,l,c,m,n,D,Pl,hcs,_,hl,hm,hmm,hx,hel⟩
 ·simp at hcs
  subst hcs
  exact⟨[],.inl ⟨⟨_,_,rfl⟩,rfl⟩,fun c e=>by cases e;rfl,(fun x hx=>by simp at hx),by decide⟩
 ·simp at hcs
  subst hcs
  have hm':m=c:=by simpa using hmm
  have ce:Tryz.prog.cellsOf 178=1:=by kernel_rfl
  have each:∀i,i<l->∃q:Int,W.cell? (y.add i)=some (.int .u64 q)/\0<=q/\q<=18446744073709551615:=by
   intro i hi
   obtain⟨cs',h1,h2⟩:=hel i (by omega)
   rw[ce,Nat.mul_one] at h1
   obtain⟨_,hlen,hcell⟩:=World.cells?_some h1
   obtain⟨s,rfl,_,hw⟩:=DataW.trod_int Tryz.underlying178 h2
   have c0:=hcell 0 (by omega)
   rw[add_add] at c0
   exact⟨s,by simpa using c0,wf_u64_bd hw⟩
  obtain⟨q,hq⟩:=choose_lt each
  have hb:l*8<=140737488351232:=by
   have hw:=hsz
   rw[hx] at hw
   have:=im Tryz.underlying23 hw
   have e2:Tryz.prog.bytesOf 178=8:=by kernel_rfl
   rw[e2,List.length_map,List.length_range,List.length_map,List.length_range] at this
   omega
  refine⟨(List.range l).map q,?_,(fun c e=>by cases e),(fun z hz=>?_),by simpa using hb⟩
  ·by_cases h0:l=0
   ·subst h0;exact .inl ⟨⟨_,_,rfl⟩,rfl⟩
   ·obtain⟨b,off,spot⟩:=y
    have hc:=(hq 0 (by omega)).1
    have hspot:spot=none:=by simpa [Addr.add] using World.cell?_spot hc
    subst hspot
    have hlt:b<W.heap.size:=by
     apply Classical.byContradiction;intro hn
     simp [World.cell?,Addr.add,Array.getElem?_eq_none (Nat.le_of_not_lt hn)] at hc
    refine .inr ⟨b,off,c,by simp,hlt,by simpa using hl,fun j hj=>?_⟩
    have hj':j<l:=by simpa using hj
    have:=(hq j hj').1
    rw[Addr.add_lit] at this
    rw[List.getElem?_map,List.getElem?_range hj']
    exact this
  ·obtain⟨j,hj,rfl⟩:=List.mem_map.1 hz
   exact(hq j (List.mem_range.1 hj)).2
set_option maxRecDepth 100000 in
theorem mY(hf:DataW.trod enc Tryz.prog W 0 (fun _=>true) true fuel 24 [v]=some x)(hsz:∀n∈x.1.weights Tryz.prog 24,n<=reachBytes) :
 ∃cs,cT W.heap.size W v cs/\(∀p∈cs,(Lit.int .i64 p.2).wf=true)/\cs.length*24<=140737488351232/\∀j,j<cs.length->(chAt cs j).1.size<=140737488351232:=by
 rcases open_slice Tryz.underlying24 hf with⟨hcs,_⟩ | ⟨y,l,c,m,n,D,Pl,hcs,_,hl,hm,hmm,hx,hel⟩
 ·simp at hcs
  subst hcs
  exact⟨[],.inl ⟨⟨_,_,rfl,fun _=>rfl⟩,rfl⟩,(fun x hx=>by simp at hx),by decide,fun j hj=>absurd hj (Nat.not_lt_zero _)⟩
 ·simp at hcs
  subst hcs
  have hm':m=c:=by simpa using hmm
  have eR:reachBytes=140737488351232:=by decide
  have ce:Tryz.prog.cellsOf 196=2:=by kernel_rfl
  have cs1:Tryz.prog.cellsOf 9=1:=by kernel_rfl
  have ci1:Tryz.prog.cellsOf 3=1:=by kernel_rfl
  have each:∀i,i<l->∃q:ByteArray × Int,W.cell? (y.add (i*2))=some (.string q.1)/\W.cell? (y.add (i*2+1))=some (.int .i64 q.2)/\(Lit.int .i64 q.2).wf=true/\q.1.size<=140737488351232:=by
   intro i hi
   obtain⟨cs',h1,h2⟩:=hel i (by omega)
   rw[ce] at h1
   obtain⟨_,hlen,hcell⟩:=World.cells?_some h1
   obtain⟨xs,k,_,hxD,_,hxl,hg⟩:=DataW.trod_struct Tryz.underlying196 h2
   match xs,hxl,cs',hlen with
   | [y0,y1],_,[u0,u1],_ =>
     have g0:=hg 0 _ rfl
     have g1:=hg 1 _ rfl
     simp [cs1] at g0
     simp [ci1] at g1
     obtain⟨s,e0,hy0,_⟩:=DataW.trod_string Tryz.underlying9 g0
     obtain⟨n1,e1,_,hw⟩:=DataW.trod_int Tryz.underlying3 g1
     have c0:=hcell 0 (by omega)
     have c1:=hcell 1 (by omega)
     rw[add_add] at c0 c1
     simp at e0 e1
     subst e0 e1
     have hDi:D i=.agg [y0.1,y1.1]:=by simpa using (Prod.mk.inj hxD).1
     have hws:=hsz s.data.toList.length (by
      rw[hx]
      simp only[DataW.weights,Tryz.underlying24]
      refine List.mem_cons_of_mem _ (List.mem_append_left _ (fq (d:=D i) (List.mem_map.2 ⟨i,List.mem_range.2 hi,rfl⟩) ?_))
      rw[hDi]
      simp only[DataW.weights,Tryz.underlying196]
      simp only[DataW.weightsEach,List.map_cons,List.map_nil,List.mem_append]
      refine .inl ?_
      rw[hy0]
      simp [DataW.weights])
     rw[eR] at hws
     exact⟨(s,n1),by simpa using c0,by simpa using c1,hw,by simpa using hws⟩
  obtain⟨q,hq⟩:=choose_lt each
  have hb:l*24<=140737488351232:=by
   have hw:=hsz
   rw[hx] at hw
   have:=im Tryz.underlying24 hw
   have e2:Tryz.prog.bytesOf 196=24:=by kernel_rfl
   rw[e2,List.length_map,List.length_range,List.length_map,List.length_range] at this
   omega
  refine⟨(List.range l).map q,?_,(fun p hp=>?_),by simpa using hb,fun j hj=>by
   have hj':j<l:=by simpa using hj
   unfold chAt
   rw[List.getElem?_map,List.getElem?_range hj']
   exact(hq j hj').2.2.2⟩
  ·by_cases h0:l=0
   ·subst h0;exact .inl ⟨⟨_,_,rfl,fun e=>by cases e⟩,rfl⟩
   ·obtain⟨b,off,spot⟩:=y
    have hc:=(hq 0 (by omega)).1
    have hspot:spot=none:=by simpa [Addr.add] using World.cell?_spot hc
    subst hspot
    have hlt:b<W.heap.size:=by
     apply Classical.byContradiction;intro hn
     simp [World.cell?,Addr.add,Array.getElem?_eq_none (Nat.le_of_not_lt hn)] at hc
    refine .inr ⟨b,off,c,by simp,hlt,by simpa using hl,fun j hj=>?_⟩
    have hj':j<l:=by simpa using hj
    have:=hq j hj'
    rw[Addr.add_lit,Addr.add_lit] at this
    rw[List.getElem?_map,List.getElem?_range hj']
    exact⟨by simpa using this.1,by simpa [Nat.add_assoc] using this.2.1⟩
  ·obtain⟨j,hj,rfl⟩:=List.mem_map.1 hp
   exact(hq j (List.mem_range.1 hj)).2.2.1
end
set_option maxRecDepth 100000 in
theorem open_pol{H:Type}{enc:TypeId × Value->H}{r:Reach}{b0:Nat}{W:World}{v:Value}{d:DataW H}{p:List MemPlace}
 (hv:Value.okWide Tryz.prog W r b0 26 v) (h:DataW.Trod enc Tryz.prog W 0 (fun _=>true) true 26 v d p)
 (hsz:∀n∈d.weights Tryz.prog 26,n<=reachBytes) :
 ∃(v0 v1 v2 v3:Value) (st:PSt) (S:List Int),v=.agg #[v0,v1,v2,v3,.int .i64 st.D]/\PolIn W v0 v1 v2 v3 st S/\Wide S/\(Lit.int .i64 st.D).wf=true/\(∀q∈st.I,(Lit.int .i64 q.2).wf=true)/\(∀q∈st.O,(Lit.int .i64 q.2).wf=true)/\(∀j,j<st.L.length->(wd6 st.L j).size<=140737488351232)/\(∀j,j<st.I.length->(chAt st.I j).1.size<=140737488351232)/\∀j,j<st.O.length->(chAt st.O j).1.size<=140737488351232:=by
 obtain⟨cs,rfl,hcs⟩:=okWide_struct Tryz.underlying26 hv
 obtain⟨l⟩:=cs
 have c5:Tryz.prog.cellsOf 26=5:=by kernel_rfl
 have k0:Tryz.prog.cellsOf 22=1:=by kernel_rfl
 have k1:Tryz.prog.cellsOf 23=1:=by kernel_rfl
 have k2:Tryz.prog.cellsOf 24=1:=by kernel_rfl
 have k4:Tryz.prog.cellsOf 3=1:=by kernel_rfl
 match l,hcs.trans c5 with
 | [u0,u1,u2,u3,u4],_ =>
   obtain⟨fuel,hf⟩:=h
   obtain⟨xs,n,_,hx,_,hxl,hg⟩:=DataW.trod_struct Tryz.underlying26 hf
   match xs,hxl with
   | [y0,y1,y2,y3,y4],_ =>
     have g0:=hg 0 _ rfl
     have g1:=hg 1 _ rfl
     have g2:=hg 2 _ rfl
     have g3:=hg 3 _ rfl
     have g4:=hg 4 _ rfl
     simp [Value.cells,k0] at g0
     simp [Value.cells,k1] at g1
     simp [Value.cells,k2] at g2 g3
     simp [Value.cells,k4] at g4
     have hd:d=.agg [y0.1,y1.1,y2.1,y3.1,y4.1]:=by simpa using (Prod.mk.inj hx).1
     subst hd
     have hw:∀n,n∈y0.1.weights Tryz.prog 22∨n∈y1.1.weights Tryz.prog 23∨n∈y2.1.weights Tryz.prog 24∨n∈y3.1.weights Tryz.prog 24->n<=reachBytes:=by
      intro n hn
      refine hsz n ?_
      simp only[DataW.weights,Tryz.underlying26]
      simp only[DataW.weightsEach,List.map_cons,List.map_nil,List.mem_append]
      rcases hn with hn | hn | hn | hn
      ·exact .inl hn
      ·exact .inr (.inl hn)
      ·exact .inr (.inr (.inl hn))
      ·exact .inr (.inr (.inr (.inl hn)))
     obtain⟨L,a1,a2,a3⟩:=open_strs g0 (fun n hn=>hw n (.inl hn))
     obtain⟨S,b1,b2,b3,b4⟩:=tO g1 (fun n hn=>hw n (.inr (.inl hn)))
     obtain⟨I,d1,d2,d3,d4⟩:=mY g2 (fun n hn=>hw n (.inr (.inr (.inl hn))))
     obtain⟨O,e1,e2,e3,e4⟩:=mY g3 (fun n hn=>hw n (.inr (.inr (.inr hn))))
     obtain⟨D,f1,_,f2⟩:=DataW.trod_int Tryz.underlying3 g4
     simp at f1
     subst f1
     exact⟨u0,u1,u2,u3,⟨L,I,O,D,[]⟩,S,rfl,⟨a1,b1,d1,e1,b2,a2,b4,d3,e3⟩,b3,f2,d2,e2,a3,d4,e4⟩
end
end Go.Proofs.YtjngffgkllakaaaGreatDoor
namespace Go.Proofs.YtjngffgkllakaaaGreatDoor.callsTo
open Go.ChangeShapes Go.WideShapes Go.ChangeAt Go.RowKit
open Go.ChangeMaps (open_string shut_string)
set_option maxRecDepth 100000 in
theorem contract(H:Type)(enc:TypeId × Value->H)(W:World)(base:Nat)(args:Array Value)(ds gs:List (DataW H))(before:List MemPlace)
 (hval0:∀(j:Nat) t v,Tryz.f3.params[j]?=some t->args[j]?=some v->Value.okWide Tryz.prog W .any base t v)
 (hW:DataW.Whole enc Tryz.prog Tryz.f3.params.toList Rows.callsToSpec.vars false W args.toList ds gs before)
 (hsz0:(DataW.weightsEach Tryz.prog (Tryz.f3.params.toList ++ (OpenSpec.ofChange Rows.callsToSpec).bare.plain.varTypes Tryz.prog) (ds ++ gs)).all (·<=reachBytes)=true)
 (hL:laidMetH Tryz.prog Rows.callsToRow.laid W) :
 Calls Tryz.prog 3 args W fun e W'=>∃v,e=.returned v/\Rows.callsToSpec.post enc Tryz.prog Tryz.f3 false true false false W args v W':=by
 have hsz:(DataW.weightsEach Tryz.prog (Tryz.f3.params.toList ++ Rows.callsToSpec.plain.varTypes Tryz.prog) (ds ++ gs)).all (·<=reachBytes)=true:=hsz0
 clear hsz0
 have hval:∀(j:Nat) t v,Tryz.f3.params[j]?=some t->args[j]?=some v->Value.okWide Tryz.prog W .any base t v:=hval0
 have hW':=hW
 obtain⟨p,q,hA0,hV,rfl,hfz,hnd⟩:=hW
 have hA:DataW.TrodAll enc Tryz.prog W 0 (fun _=>true) true Tryz.f3.params.toList args.toList ds p:=hA0
 rw[Tryz.params3] at hA hval hsz
 obtain⟨v0,vs0,d0,ds0,p0,q0,hargs,rfl,rfl,h0,r0⟩:=trodAll_cons hA
 obtain⟨v1,vs1,d1,ds1,p1,q1,rfl,rfl,rfl,h1,r1⟩:=trodAll_cons r0
 obtain⟨rfl,rfl,rfl⟩:=trodAll_nil r1
 obtain rfl:args=#[v0,v1]:=by cases args;simp_all
 obtain⟨rfl,rfl⟩:=trodVars_none hV
 have k0:=h0
 have lt0:∀x∈p0,x.block<W.heap.size:=by obtain⟨m,hm⟩:=k0;exact DataW.trod_lt m _ _ _ hm
 obtain⟨a0,b0,c0,g0,z0,y0,rfl,w0,s0⟩:=open_pol (hval 0 26 v0 rfl rfl) h0 (fun n hn=>by simpa using List.all_eq_true.1 hsz n (DataW.weights_mem_each (j:=0) rfl rfl n hn))
 have k1:=h1
 have lt1:∀x∈p1,x.block<W.heap.size:=by obtain⟨m,hm⟩:=k1;exact DataW.trod_lt m _ _ _ hm
 obtain⟨av1,fv1,c1,rfl,w1,f1,s1⟩:=open_code (hval 1 30 v1 rfl rfl) h1 (fun n hn=>by simpa using List.all_eq_true.1 hsz n (DataW.weights_mem_each (j:=1) rfl rfl n hn))
 clear hA0 hval0
 refine(pV a0 b0 c0 g0 av1 fv1 z0 y0 c1 W w0 s0.1 (tz_of hL (by kernel_rfl)) (sht_of hL (by kernel_rfl)) (Short9.of s0.2.2.2.2) w1 f1 s1).mono fun e W' ⟨he,bel⟩=>?_
 subst he
 exact⟨_,rfl,_,_,_,[],_,[],hW',trodAll_mk1 (shut_bool Tryz.underlying4 _),(trodAll_cons_mk (Below.trod laidOut (by kernel_rfl) (of_decide_eq_true (by kernel_rfl)) k0 bel lt0) (trodAll_cons_mk (Below.trod laidOut (by kernel_rfl) (of_decide_eq_true (by kernel_rfl)) k1 bel lt1) trodAll_mk0)),rfl,bel.frame _,fun h=>by cases h⟩
theorem reads(os:Os){H:Type}(enc:TypeId × Value->H):∃places,DataW.whole enc Tryz.prog ((doorW os).forCall (fun _ _=>0) ⟨#[],#[.agg #[.slice none 0 0,.slice none 0 0,.slice none 0 0,.slice none 0 0,.int .i64 0],.agg #[.slice none 0 0,.slice none 0 0,.int .i64 0]],[]⟩).memory Tryz.f3.params.toList Rows.callsToSpec.vars false (#[.agg #[.slice none 0 0,.slice none 0 0,.slice none 0 0,.slice none 0 0,.int .i64 0],.agg #[.slice none 0 0,.slice none 0 0,.int .i64 0]]:Array Value).toList 8=some ([.agg [.nil,.nil,.nil,.nil,.lit (.int .i64 0)],.agg [.nil,.nil,.lit (.int .i64 0)]],[],places) :=
 ⟨[],by kernel_rfl⟩
set_option maxRecDepth 100000 in
theorem lifted(os:Os)(started:os.Started)(H:Type)(enc:TypeId × Value->H)(F:Stop.Interp) :
 ReturnsInHanded {} Tryz.checked os 3 .any ((OpenSpec.ofChange Rows.callsToSpec).preRow enc Tryz.prog Tryz.f3 Rows.callsToRow.domain false Rows.callsToRow.laid) (((OpenSpec.ofChange Rows.callsToSpec).at F).post enc Tryz.prog Tryz.f3 false true false false):=by
 obtain⟨places,hx⟩:=reads os enc
 refine returnsInHanded_of_row (C:=Tryz.checked) (s:=OpenSpec.ofChange Rows.callsToSpec) own started (by kernel_rfl) Tryz.func3
  (witness_row_at (enc:=enc) (C:=Tryz.checked) false (doorW os) #[.agg #[.slice none 0 0,.slice none 0 0,.slice none 0 0,.slice none 0 0,.int .i64 0],.agg #[.slice none 0 0,.slice none 0 0,.int .i64 0]] rfl (by kernel_rfl) (by kernel_rfl) (by kernel_rfl)
   (OpenSpec.preRow_of_cond 8 hx (by kernel_rfl) (fun k hk=>by cases hk) (by kernel_rfl) (laidMet_of_run' 8 (by kernel_rfl) (by kernel_rfl)))) ?_
 intro W base args ds gs before hval hW _ _ hsz hL _ _
 exact contract H enc W base args ds gs before hval hW hsz hL
theorem said:Rows.CallsToSaid :=
 OpenClaim.holds_of_cond 3 Tryz.f3 rfl rfl rfl rfl rfl rfl rfl ⟨rfl,rfl,rfl,rfl,rfl⟩ rfl rfl rfl rfl rfl (by kernel_rfl) Tryz.func3 (by kernel_rfl)
  (of_decide_eq_true (by kernel_rfl)) (by unfold Func.isWrapper;first | (rw[if_pos (by decide +kernel)];kernel_rfl) | (rw[if_neg (by decide +kernel)];exact⟨rfl,rfl⟩))
  (fun os started H enc _ F=>by rw[OpenClaim.pre_eq_preRow];exact lifted os started H enc F)
theorem plain(f:FuncId)(fn:Func)(hf:Tryz.pinned.checked.prog.funcNamed "interdict/interdictlaw18.CallsTo" = some f)(hfn:Tryz.pinned.checked.prog.funcs[f]?=some fn) :
 true=Tryz.pinned.checked.prog.looks []/\∀(j:Nat) t,fn.params[j]?=some t->Tryz.pinned.checked.prog.wantsStandIn t=false:=by
 obtain rfl:f=3:=Option.some.inj ((show Tryz.prog.funcNamed "interdict/interdictlaw18.CallsTo" = some 3 by kernel_rfl).symm.trans hf) |>.symm
 obtain rfl:fn=Tryz.f3:=(Option.some.inj (Tryz.func3.symm.trans hfn)).symm
 refine⟨by kernel_rfl,fun j t ht=>?_⟩
 rw[Tryz.params3] at ht
 have hm:t∈([26,30]:List Nat):=by simpa using Array.mem_of_getElem? ht
 have hall:(([26,30]:List Nat).all fun u=>!Tryz.prog.wantsStandIn u)=true:=by kernel_rfl
 exact(show Tryz.prog.wantsStandIn t=false by simpa using List.all_eq_true.1 hall t hm)
theorem proved:Rows.CallsToCardSaid :=
 Claim7.holds_tied_plain_at .later [] _ _ _ _ said (fun _ h=>by cases h) (by kernel_rfl) (fun _ h=>by cases h) callsTo_row_tie rfl ⟨rfl,rfl⟩ (by kernel_rfl) rfl plain (by kernel_rfl)
#print axioms proved
end Go.Proofs.YtjngffgkllakaaaGreatDoor.callsTo
