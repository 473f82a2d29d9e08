/- A part of a proof: laws that the last text uses. -/
import Derived.Test.YtjngffgkllakaaaGreatDoorZ02
import Derived.Test.YtjngffgkllakaaaGreatDoorZ03
import Derived.Test.YtjngffgkllakaaaGreatDoorZ06
import Derived.Test.YtjngffgkllakaaaGreatDoorZ07
import Derived.Test.YtjngffgkllakaaaGreatDoorZ08
import Derived.Test.YtjngffgkllakaaaGreatDoorZ09
import Derived.Test.YtjngffgkllakaaaGreatDoorZ10
import Derived.StringKeys
import Derived.Lib.FieldsP
import Derived.Lib.Index
import Derived.Lib.SplitLaws
import Derived.Lib.FieldsU
import Derived.Lib.CountLaws
import Derived.Lib.TrimU
import Derived.Lib.IndexBytes
set_option linter.unusedSimpArgs false
set_option linter.unusedVariables false
namespace Go.Proofs.YtjngffgkllakaaaGreatDoor
open List renaming getElem_toArray → zA, getElem_cons_succ → zB, getElem_cons_zero → zC, setIfInBounds_toArray → zD, set_cons_zero → zE, set_cons_succ → zF
open Lib renaming hid → zH
section
open Go.RowKit
open CD (OpP BodyP CodeP aj blAt fnAt)
def lr(b:BodyP):Prop:=gr (toB b)/\∀i j,i<b.bs.length->j<(blAt b i).length->UseR b (toB b) (i,j)
set_option maxRecDepth 100000 in
set_option maxHeartbeats 3200000 in
theorem fault_any{q:CD.Cnt}{c:CodeP}{b:BodyP}(hb:CD.aK q c b)(hk:∀k,k<b.bs.length->(blAt b k).length<=300)(hv:b.va<=400)(hpa:∀r,CD.paAt c r<=4096)(ba:Option Addr)(bc n₀:Nat)(w:World)(hn:n₀<=w.heap.size)(hM:aU n₀ w (.slice ba b.bs.length bc) b.bs) :
 Calls Tryz.prog 58 #[.agg #[.int .i64 b.pa,.int .i64 b.va,.slice ba b.bs.length bc]] w fun e w'=>(∃(at':Int) (k:Nat),e=.returned (.tuple #[.int .i64 at',.int .i64 k])/\(k=0↔lr b))/\Below w.heap.size w w':=by
 have HM:=zH hM
 obtain⟨ls,hM1,hM2,hM3⟩:=hM
 have hof:=of_rel hb hM2 hM3
 have HR:=zH (gT hb)
 have HSM:=zH (show cQ (toB b) from kP hb)
 have HTL:=zH (fF b)
 have HL:=zH hb.1.2
 have HBO:=zH hb
 have HB1:=zH ((Below.refl w.heap.size w).alloc (Nat.le_refl _) (.cells #[.int .i64 b.pa,.int .i64 b.va,.slice ba b.bs.length bc] 52))
 have HW1:=zH (heap_alloc_new w (.cells #[.int .i64 b.pa,.int .i64 b.va,.slice ba b.bs.length bc] 52))
 have HOF:=zH (of_any b.pa b.va (w.alloc (.cells #[.int .i64 b.pa,.int .i64 b.va,.slice ba b.bs.length bc] 52)) ((hM1.below (HB1.out.mono hn)).mono (Nat.le_trans hn HB1.out.size)) (by have:=hb.1.2;omega) (fun l hl=>by obtain⟨i,hi,rfl⟩:=List.getElem_of_mem hl;have h1:=(hM3 i (by omega)).1;have h2:=hk i (by omega);unfold blAt at h2;rw[List.getElem?_eq_getElem hi] at h1;simp only[Option.getD_some] at h1;omega))
 unfold OfP at HOF
 rw[hof.1,hof.2] at HOF
 have HN:=zH hn
 have HK:=zH hk
 have HVA:=zH hv
 have HPA:=zH hpa
 clear hM1 hM2 hM3 hof hb hk hv hpa hn
 go_enter Tryz.func58,Tryz.ntmps58
 go_upto_region 3 with(first
  | (go_at_call 87;refine HOF.out.mono ?_;rintro e w1 ⟨v,rfl,hg,hb1⟩
     obtain⟨va,vc,rfl⟩:=hg.form
     have HG1:=zH hg
     have HB2:=zH (bstep HB1.out hb1)
     have HBX:=zH ((hb1.block _ (by simp)).trans HW1.out)
     clear hg hb1)
  | (go_at_call 88;refine(sK _ HG1.out HSM.out HR.out (by have:=HL.out;have:=HTL.out;omega)).mono ?_;rintro e w2 ⟨⟨ai,ak,rfl,hak,hai⟩,hb2⟩
     have HG2:=zH (HG1.out.on hb2 hb2.size)
     have HB3:=zH (bstep HB2.out hb2)
     have HX2:=zH ((hb2.block _ (Array.getElem?_eq_some_iff.1 HBX.out).1).trans HBX.out)
     have HAK:=zH hak
     clear hb2 hak))
 by_cases hz:ak=0
 ·subst hz
  have HFREE:=zH (HAK.out.1 rfl)
  have hb0:w2.cell? ⟨w.heap.size,0,none⟩=some (.int .i64 b.pa):=cell_of_row _ _ 0 _ _ _ HX2.out
  have hb1:w2.cell? ⟨w.heap.size,1,none⟩=some (.int .i64 b.va):=cell_of_row _ _ 1 _ _ _ HX2.out
  have hb2:w2.cell? ⟨w.heap.size,2,none⟩=some (.slice ba b.bs.length bc):=cell_of_row _ _ 2 _ _ _ HX2.out
  have HDF:=zH (defs_any q c b HBO.out HK.out HVA.out ba bc n₀ w2 (Nat.le_trans HN.out HB3.out.size) (HM.out.below (HB3.out.mono HN.out)))
  go_upto_region 6 with(go_at_call 89;refine HDF.out.mono ?_;rintro e w3 ⟨g,ff,rfl,hpn,hdi,rfl,hb3⟩)
  have HPN:=zH hpn
  have HB4:=zH (bstep HB3.out hb3)
  have HX3:=zH ((hb3.block _ (Array.getElem?_eq_some_iff.1 HX2.out).1).trans HX2.out)
  have hb0':w3.cell? ⟨w.heap.size,0,none⟩=some (.int .i64 b.pa):=(hb3.cell (p:=⟨w.heap.size,0,none⟩) (Array.getElem?_eq_some_iff.1 HX2.out).1).trans hb0
  have hb1':w3.cell? ⟨w.heap.size,1,none⟩=some (.int .i64 b.va):=(hb3.cell (p:=⟨w.heap.size,1,none⟩) (Array.getElem?_eq_some_iff.1 HX2.out).1).trans hb1
  have hb2':w3.cell? ⟨w.heap.size,2,none⟩=some (.slice ba b.bs.length bc):=(hb3.cell (p:=⟨w.heap.size,2,none⟩) (Array.getElem?_eq_some_iff.1 HX2.out).1).trans hb2
  have hl3:w.heap.size<w3.heap.size:=(Array.getElem?_eq_some_iff.1 HX3.out).1
  have HGV:=zH (fun(V:World) (h:Below w3.heap.size w3 V)=>(HG2.out.on hb3 hb3.size).on h h.size)
  have HBE:=zH (show gH (toB b)=GG.bR (toB b) from if_pos HR.out)
  have HTREE:=zH (show (DD.cH (toB b)).length=b.bs.length by rw[DD.fQ HR.out (kQ HR.out HFREE.out),HTL.out])
  have htl:(DD.cH (toB b)).length<=4294967296:=by have:=tB (toB b);have:=HL.out;have:=HTL.out;omega
  clear hpn hdi hb3 hb0 hb1 hb2 HDF HOF HG1 HB2 HBX
  go_region_with (first
   | (go_at_call 90;refine(iy _ (HGV.out _ (by first | exact hBB | exact hTT | exact hCC | exact⟨rfl,rfl,rfl,Nat.le_refl _,fun _ _=>rfl⟩)) HSM.out).mono ?_;rintro e wB ⟨kv,rfl,hgB,hbB⟩;obtain⟨kva,kvc,rfl⟩:=hgB.form;have hBB:=bstep (a:=w3) (by first | exact hTT | exact hCC | exact⟨rfl,rfl,rfl,Nat.le_refl _,fun _ _=>rfl⟩) hbB;have kwB0:wB.cell? ⟨w.heap.size,0,none⟩=some (.int .i64 b.pa):=(hBB.cell (p:=⟨w.heap.size,0,none⟩) hl3).trans hb0';have kwB1:wB.cell? ⟨w.heap.size,1,none⟩=some (.int .i64 b.va):=(hBB.cell (p:=⟨w.heap.size,1,none⟩) hl3).trans hb1';have kwB2:wB.cell? ⟨w.heap.size,2,none⟩=some (.slice ba b.bs.length bc):=(hBB.cell (p:=⟨w.heap.size,2,none⟩) hl3).trans hb2')
   | (go_at_call 92;refine(tree_full _ (HGV.out _ (by first | exact hBB | exact hTT | exact hCC | exact⟨rfl,rfl,rfl,Nat.le_refl _,fun _ _=>rfl⟩)) HSM.out).mono ?_;rintro e wT ⟨⟨tv,rfl,hrT,hbT⟩,htok⟩;have HTOK:=zH htok;clear htok;obtain⟨tva,tvc,rfl⟩:=hrT.form;have hTT:=bstep (a:=w3) (by first | exact hBB | exact hCC | exact⟨rfl,rfl,rfl,Nat.le_refl _,fun _ _=>rfl⟩) hbT;have kwT0:wT.cell? ⟨w.heap.size,0,none⟩=some (.int .i64 b.pa):=(hTT.cell (p:=⟨w.heap.size,0,none⟩) hl3).trans hb0';have kwT1:wT.cell? ⟨w.heap.size,1,none⟩=some (.int .i64 b.va):=(hTT.cell (p:=⟨w.heap.size,1,none⟩) hl3).trans hb1';have kwT2:wT.cell? ⟨w.heap.size,2,none⟩=some (.slice ba b.bs.length bc):=(hTT.cell (p:=⟨w.heap.size,2,none⟩) hl3).trans hb2')
   | (go_at_call 91;refine(sM _ (by first | exact hrT | exact(hrT.below hbB).mono hbB.size) htl).mono ?_;rintro e wC ⟨ov,rfl,hgC,hbC⟩;obtain⟨ova,ovc,rfl⟩:=hgC.form;have hCC:=bstep (a:=w3) (by first | exact hBB | exact hTT | exact⟨rfl,rfl,rfl,Nat.le_refl _,fun _ _=>rfl⟩) hbC;have kwC0:wC.cell? ⟨w.heap.size,0,none⟩=some (.int .i64 b.pa):=(hCC.cell (p:=⟨w.heap.size,0,none⟩) hl3).trans hb0';have kwC1:wC.cell? ⟨w.heap.size,1,none⟩=some (.int .i64 b.va):=(hCC.cell (p:=⟨w.heap.size,1,none⟩) hl3).trans hb1';have kwC2:wC.cell? ⟨w.heap.size,2,none⟩=some (.slice ba b.bs.length bc):=(hCC.cell (p:=⟨w.heap.size,2,none⟩) hl3).trans hb2'))
  all_goals (
   have hgBC:aq wC.heap.size wC (.slice kva (gH (toB b)).length kvc) (gH (toB b)):=by
    first
     | exact(hgB.below hbC).mono hbC.size
     | exact(((hgB.below hbT).mono hbT.size).below hbC).mono hbC.size
   rw[HBE.out] at hgBC ⊢
   have hA:Below wC.heap.size wC (wC.alloc (.cells #[.int .i64 b.pa,.int .i64 b.va,.slice ba b.bs.length bc,.slice (some ⟨g,0,none⟩) b.va.toNat b.va.toNat,.slice kva (GG.bR (toB b)).length kvc,.slice ova (chainsL (DD.cH (toB b))).length ovc] 166)):=(Below.refl _ _).alloc (Nat.le_refl _) _
   have hgl3:g<w3.heap.size:=World.rowIs.lt HPN.out
   have hC3:=hCC.size
   have HF:=zH (show FnM (wC.heap.size+1) wC.heap.size b (FF b (itB b)) (GG.bR (toB b)) (chainsL (DD.cH (toB b))) ba bc g (.slice kva (GG.bR (toB b)).length kvc) (.slice ova (chainsL (DD.cH (toB b))).length ovc) (wC.alloc (.cells #[.int .i64 b.pa,.int .i64 b.va,.slice ba b.bs.length bc,.slice (some ⟨g,0,none⟩) b.va.toNat b.va.toNat,.slice kva (GG.bR (toB b)).length kvc,.slice ova (chainsL (DD.cH (toB b))).length ovc] 166)) from
    ⟨by omega,by omega,heap_alloc_new _ _,World.rowIs.alloc (World.rowIs.of_block HPN.out (hCC.block g hgl3)) _,(hgBC.below hA).mono (by omega),(hgC.below hA).mono (by omega),((HM.out.below ((HB4.out.trans (hCC.mono HB4.out.size)).mono HN.out)).below (hA.mono (by have:=HN.out;have:=HB4.out.size;omega))).mono (by have:=HN.out;have:=HB4.out.size;omega)⟩)
   have HMI:=zH (ru HBO.out HK.out HVA.out HPA.out (wC.alloc (.cells #[.int .i64 b.pa,.int .i64 b.va,.slice ba b.bs.length bc,.slice (some ⟨g,0,none⟩) b.va.toNat b.va.toNat,.slice kva (GG.bR (toB b)).length kvc,.slice ova (chainsL (DD.cH (toB b))).length ovc] 166)) HF.out (by rw[World.size_alloc];omega) (by rw[GG.cg,HTL.out]) (by rw[show (chainsL (DD.cH (toB b))).length=(DD.cH (toB b)).length from ib _ _,HTREE.out]) (fun i=>tC HTL.out HL.out.2 i) (fun i=>pP _ i))
   have HBF:=zH ((HB4.out.trans (hCC.mono HB4.out.size)).alloc (by have:=HB4.out.size;omega) (.cells #[.int .i64 b.pa,.int .i64 b.va,.slice ba b.bs.length bc,.slice (some ⟨g,0,none⟩) b.va.toNat b.va.toNat,.slice kva (GG.bR (toB b)).length kvc,.slice ova (chainsL (DD.cH (toB b))).length ovc] 166))
   simp only[zA,zB,zC,Act.put,zD,zE,zF]
   clear hgBC hA hgC hgB hrT hbC hbT hbB
   go_wp2_with (go_at_call 93;refine HMI.out.mono ?_;rintro e w9 ⟨⟨at9,k9,rfl,hk9⟩,hb9⟩)
   go_ret2
   exact⟨⟨at9,k9,rfl,hk9.trans ⟨fun h=>⟨HFREE.out,fun i j hi hj=>(rz HBO.out HR.out (kQ HR.out HFREE.out) HTOK.out hi hj).1 (h i j hi hj)⟩,fun h i j hi hj=>(rz HBO.out HR.out (kQ HR.out HFREE.out) HTOK.out hi hj).2 (h.2 i j hi hj)⟩⟩,bstep HBF.out hb9⟩)
 ·have HZ:=zH hz
  have hii:ai<b.bs.length:=by have:=HTL.out;omega
  obtain⟨bb,bo,ba',bc',eba,hbb,hbc,hops⟩:=(HM.out.below (HB3.out.mono HN.out)).at hii
  have h1:=(HBO.out.2.1 ai hii).1
  have h1':0<(b.bs[ai]?.getD []).length:=h1
  obtain⟨blk,off,xa,xc,ya,yc,eb,hblk,hcs,_,_⟩:=hops.at h1'
  subst eb
  have hat:=hcs 8 _ rfl
  have hb2:w2.cell? ⟨w.heap.size,2,none⟩=some (.slice ba b.bs.length bc):=cell_of_row _ _ 2 _ _ _ HX2.out
  subst eba
  obtain⟨bl,ebl⟩:∃bl,bl=(b.bs[ai]?.getD []).length:=⟨_,rfl⟩
  rw[<-ebl] at hbc h1'
  obtain⟨tt,ett⟩:∃tt,tt=(aj (b.bs[ai]?.getD []) 0).t:=⟨_,rfl⟩
  replace hat:w2.cell? ⟨blk,off+8,none⟩=some (.int .i64 tt):=by
   rw[ett]
   have h9:=hat
   simp only[Nat.zero_mul,Nat.add_zero] at h9
   exact h9
  have i1:(0:Int)<=ai/\(ai:Int)<b.bs.length:=by omega
  have hne:((ak:Int) != 0)=true:=by rw[bne_iff_ne];omega
  clear hcs hops ebl ett h1
  go_wp2_with fail
  go_ret2
  exact⟨⟨tt,ak,rfl,⟨fun h=>absurd h HZ.out,fun h=>absurd (HAK.out.2 h.1) HZ.out⟩⟩,HB3.out⟩
end
section
open Go.RowKit
open CD (OpP BodyP CodeP aj blAt fnAt)
def AllOk(q:CD.Cnt)(c:CodeP):Prop:=∀i,i<c.fs.length->CD.aK q c (fnAt c i)
set_option maxRecDepth 100000 in
set_option maxHeartbeats 12800000 in
theorem rA{n₀:Nat}(B:Nat)(av fv:Value)(c:CodeP)(q:CD.Cnt)(nb0 nv0 nx0:Int)(w:World)(h:Ck B w (ckC av fv c.mn0 q nb0 nv0 nx0 4096))(hf:bh n₀ w fv c.fs)(hn:n₀<=B)(hqf:q.fn=c.fs.length)(hfew:CD.Few c)(hs:fm c)(hT:ShT w)(hBT:B≠shG) :
 Calls Tryz.prog 86 #[.pointer (some ⟨B,0,none⟩)] w fun e w'=>e=.returned (.bool (CD.tf (AllOk q c)))/\w.grownBy w' (some B):=by
 obtain⟨fa,fc,rfl⟩:=hf.form
 have hBw:=h.lt
 obtain⟨z,ez⟩:∃z,z=CD.tf (AllOk q c):=⟨_,rfl⟩
 rw[<-ez]
 have HZ:=zH ez
 have HF:=zH hf
 have HFEW:=zH hfew
 have HS:=zH hs
 have HT:=zH hT
 have HQF:=zH hqf
 have HCK:=zH h
 have i0:(c.fs.length:Int)<=100:=by have:=hfew.f;omega
 have HN0:=zH (show n₀<=w.heap.size by omega)
 have hc1:w.cell? ⟨B,1,none⟩=some (.slice fa c.fs.length fc):=h.at 1 rfl
 clear ez hf hfew hs hT hqf h
 go_enter Tryz.func86,Tryz.ntmps86
 go_wp2_with fail
 go_loopw [11] (fun k wr=>∃i:Nat,i<=c.fs.length/\k=.int .i64 (i:Int)/\RowKit.Hid ((∀j,j<i->CD.aK q c (fnAt c j))/\w.grownBy wr (some B)/\∃nb nv nx,Ck B wr (ckC av (.slice fa c.fs.length fc) c.mn0 q nb nv nx (4096-CD.lenC c i)))) (fun k _=>c.fs.length-(intOf k).toNat)
 case atStart=>exact⟨0,Nat.zero_le _,rfl,zH ⟨fun j hj=>absurd hj (Nat.not_lt_zero _),bp _ (Below.refl _ _),_,_,_,by rw[CD.iW];simpa using HCK.out⟩⟩
 case round =>
  clear hc1 HCK
  obtain⟨w5,rfl⟩:∃w5,w5=wr:=⟨_,rfl⟩
  obtain⟨i,hi,rfl,HI⟩:=hrel
  by_cases hlt:i<c.fs.length
  ·obtain⟨nb,nv,nx,hck⟩:=HI.out.2.2
   have HB5:=zH (aX HI.out.2.1 hn HN0.out)
   obtain⟨lb,lo,ba,bc,efa,hlb,h0,h1,h2,hbl⟩:=(HF.out.below HB5.out).at hlt
   subst efa
   obtain⟨b,eb⟩:∃b,b=fnAt c i:=⟨_,rfl⟩
   have eb2:c.fs[i]?.getD CD.b0=b:=eb.symm
   rw[eb2] at h0 h1 h2 hbl
   have HBE:=zH eb
   have HLT:=zH hlt
   have i5:(0:Int)<=i/\(i:Int)<c.fs.length:=by omega
   obtain⟨w6,ew6⟩:∃w6,w6=w5.alloc (lg b ba bc):=⟨_,rfl⟩
   have hb6:Below w5.heap.size w5 w6:=by rw[ew6];exact(Below.refl _ _).alloc (Nat.le_refl _) _
   have HG6:=zH (aH HI.out.2.1 (bp (some B) hb6))
   have hle:(CD.lenB b b.bs.length:Int)<=4096-CD.lenC c i/\4096-(CD.lenC c i:Int)<=4096:=by
    have h1:=HFEW.out.all
    have h2:=CD.gL c (show i+1<=c.fs.length by omega)
    rw[CD.fM hlt] at h2
    rw[eb]
    omega
   have HCALL:=zH (nbody_any (n₀:=n₀) B av _ c b q nb nv nx (4096-CD.lenC c i) ba bc w6 (hck.on hb6) (HF.out.below (aX HG6.out hn HN0.out)) hn HFEW.out.f HQF.out (by rw[eb];exact HFEW.out.b i hlt) (by rw[eb];exact HFEW.out.l i hlt) (by rw[eb];exact HS.out i hlt) hle (HT.out.grown HG6.out hBT) hBT (hbl.below (hb6.mono (by have:=HI.out.2.1.size;have:=HN0.out;omega))))
   unfold lg at ew6
   clear hbl eb eb2 hck hb6 hle hlt
   cases hbk:CD.tf (CD.aK q c b)
   ·have HNO:=zH (show ¬AllOk q c from fun h=>CD.cZ hbk (by rw[HBE.out];exact h i HLT.out))
    have HBK:=zH hbk
    have e1:z=false:=by rw[HZ.out];exact CD.aD HNO.out
    clear hbk
    subst e1
    go_wp2_with (go_at_call 136;rw[<-ew6];refine HCALL.out.mono ?_;rintro e w7 ⟨rfl,hg,hck⟩;rw[HBK.out];have HG7:=zH (aH HG6.out hg);clear hg hck)
    go_ret
    exact⟨rfl,HG7.out⟩
   ·have HBK:=zH hbk
    clear hbk
    go_wp2_with (go_at_call 136;rw[<-ew6];refine HCALL.out.mono ?_;rintro e w7 ⟨rfl,hg,hck⟩;rw[HBK.out];have HG7:=zH (aH HG6.out hg);have HC7:=zH (hck (CD.dU HBK.out));clear hg hck)
    have HN:=zH (show (∀j,j<i+1->CD.aK q c (fnAt c j))/\w.grownBy w7 (some B)/\∃nb nv nx,Ck B w7 (ckC av (.slice (some ⟨lb,lo,none⟩) c.fs.length fc) c.mn0 q nb nv nx (4096-CD.lenC c (i+1))) from
     ⟨fun j hj=>by
      by_cases e:j=i
      ·rw[e,<-HBE.out];exact CD.dU HBK.out
      ·exact HI.out.1 j (by omega),HG7.out,by
      have h:=HC7.out
      rw[show (4096:Int)-(CD.lenC c (i+1):Nat)=4096-CD.lenC c i-CD.lenB b b.bs.length by rw[CD.fM HLT.out,HBE.out];omega]
      exact h⟩)
    go_roundw
    case rel=>exact⟨i+1,by have:=HLT.out;omega,by go_num,HN⟩
    case measure=>have:=HLT.out;simp [intOf];omega
  ·have e0:i=c.fs.length:=by omega
   subst e0
   have e1:z=true:=by rw[HZ.out];exact CD.bz HI.out.1
   subst e1
   go_wp2_with fail
   go_ret
   exact⟨by first | rfl | simp,HI.out.2.1⟩
set_option maxRecDepth 100000 in
set_option maxHeartbeats 12800000 in
theorem jE{n₀:Nat}(B:Nat)(av fv:Value)(c:CodeP)(q:CD.Cnt)(nb nv nx lf:Int)(w:World)(h:Ck B w (ckC av fv c.mn0 q nb nv nx lf))(ha:bA n₀ w av c.ar)(hn:n₀<=B)(hal:c.ar.length<=100) :
 Calls Tryz.prog 84 #[.pointer (some ⟨B,0,none⟩)] w fun e w'=>e=.returned (.bool (CD.tf (CD.jO q c.ar)))/\Below w.heap.size w w':=by
 obtain⟨fa,fc,rfl⟩:=ha.form
 have hBw:=h.lt
 obtain⟨z,ez⟩:∃z,z=CD.tf (CD.jO q c.ar):=⟨_,rfl⟩
 rw[<-ez]
 have HZ:=zH ez
 have HA:=zH ha
 have HCK:=zH h
 have i0:(c.ar.length:Int)<=100:=by omega
 have HN0:=zH (show n₀<=w.heap.size by omega)
 have hc0:w.cell? ⟨B,0,none⟩=some (.slice fa c.ar.length fc):=h.at 0 rfl
 clear ez ha h
 go_enter Tryz.func84,Tryz.ntmps84
 go_wp2_with fail
 go_loopw [11] (fun k wr=>∃i:Nat,i<=c.ar.length/\k=.int .i64 (i:Int)/\RowKit.Hid ((∀j,j<i->(1<=(c.ar[j]?.getD (0,0)).1/\(c.ar[j]?.getD (0,0)).1<=256)/\(0<=(c.ar[j]?.getD (0,0)).2/\(c.ar[j]?.getD (0,0)).2<(q.l:Nat)))/\Below w.heap.size w wr)) (fun k _=>c.ar.length-(intOf k).toNat)
 case atStart=>exact⟨0,Nat.zero_le _,rfl,zH ⟨fun j hj=>absurd hj (Nat.not_lt_zero _),Below.refl _ _⟩⟩
 case round =>
  clear hc0
  obtain⟨w5,rfl⟩:∃w5,w5=wr:=⟨_,rfl⟩
  obtain⟨i,hi,rfl,HI⟩:=hrel
  by_cases hlt:i<c.ar.length
  ·obtain⟨lb,lo,efa,hlb,h0,h1⟩:=(HA.out.below (HI.out.2.mono HN0.out)).at hlt
   subst efa
   obtain⟨⟨s,t⟩,es⟩:∃y,y=c.ar[i]?.getD (0,0):=⟨_,rfl⟩
   rw[<-es] at h0 h1
   simp only at h0 h1
   have HES:=zH es
   have HLT:=zH hlt
   have i5:(0:Int)<=i/\(i:Int)<c.ar.length:=by omega
   have HC6:=zH ((HCK.out.on HI.out.2).on ((Below.refl w5.heap.size w5).alloc (Nat.le_refl _) (.cells #[.int .i64 s,.int .i64 t] 119)))
   have HB6:=zH (HI.out.2.alloc HI.out.2.size (.cells #[.int .i64 s,.int .i64 t] 119))
   have HIS:=zH (jQ B 5 t (q.l:Nat) (w5.alloc (.cells #[.int .i64 s,.int .i64 t] 119)) (by decide) (HC6.out.at 8 rfl))
   clear es hlt
   have bad:¬((1<=s/\s<=256)/\(0<=t/\t<(q.l:Nat)))->z=false:=fun hb=>by
    rw[HZ.out]
    exact CD.aD (fun h=>hb (by have:=h i HLT.out;rw[<-HES.out] at this;exact this))
   rcases Decidable.em (s<1) with s1 | s1
   ·have e1:=bad (by omega)
    clear bad HZ
    subst e1
    go_wp2_with fail
    go_ret
    exact⟨rfl,HB6.out⟩
   ·rcases Decidable.em (256<s) with s2 | s2
    ·have e1:=bad (by omega)
     clear bad HZ
     subst e1
     go_wp2_with fail
     go_ret
     exact⟨rfl,HB6.out⟩
    ·cases ht:decide (0<=t/\t<(q.l:Nat))
     ·have e1:=bad (fun h=>of_decide_eq_false ht h.2)
      have HTT:=zH ht
      clear bad HZ ht
      subst e1
      go_wp2_with (go_at_call 135;refine HIS.out.mono ?_;rintro e w7 ⟨rfl,e7⟩;rewrite [e7];clear e7;rw[HTT.out])
      go_ret
      exact⟨rfl,HB6.out⟩
     ·have HTT:=zH ht
      clear bad ht
      have HN:=zH (show (∀j,j<i+1->(1<=(c.ar[j]?.getD (0,0)).1/\(c.ar[j]?.getD (0,0)).1<=256)/\(0<=(c.ar[j]?.getD (0,0)).2/\(c.ar[j]?.getD (0,0)).2<(q.l:Nat))) from fun j hj=>by
       by_cases e:j=i
       ·rw[e,<-HES.out];exact⟨by simp only;omega,of_decide_eq_true HTT.out⟩
       ·exact HI.out.1 j (by omega))
      go_wp2_with (go_at_call 135;refine HIS.out.mono ?_;rintro e w7 ⟨rfl,e7⟩;rewrite [e7];clear e7;rw[HTT.out])
      go_roundw
      case rel=>exact⟨i+1,by have:=HLT.out;omega,by go_num,zH ⟨HN.out,HB6.out⟩⟩
      case measure=>have:=HLT.out;simp [intOf];omega
  ·have e0:i=c.ar.length:=by omega
   subst e0
   have e1:z=true:=by rw[HZ.out];exact CD.bz HI.out.1
   subst e1
   go_wp2_with fail
   go_ret
   exact⟨by first | rfl | simp,HI.out.2⟩
end
section
open Go.RowKit
def bQ(ss:List ByteArray):Nat->Nat->Bool
 | 0,_=>true
 | f+1,k=>if bN (wd6 ss k)=false then false else if 0<=be (ss.take k) (wd6 ss k) then false else bQ ss f (k+1)
def dZ(ss:List ByteArray):Bool:=bQ ss ss.length 0
def oz(n:Int)(cs:List (ByteArray × Int)):Bool:=cs.all fun c=>decide (0<=c.2) && decide (c.2<n)
def bZ(n:Int)(cs:List (ByteArray × Int)):Bool:=decide (cs.length<=32) && oz n cs && dZ (cs.map (·.1))
def bg(st:PSt)(S:List Int):Bool :=
 decide (1<=st.D/\st.D<=64) && decide (S.length=st.L.length) && LL.bB S && dZ st.L && bZ st.L.length st.I && bZ st.L.length st.O
theorem take_wd{ss:List ByteArray}{k j:Nat}(h:j<k):wd6 (ss.take k) j=wd6 ss j:=by
 unfold wd6;rw[List.getElem?_take_of_lt h]
theorem oA{ss:List ByteArray}{s:ByteArray}{j:Nat}(h:be ss s=(j:Int)):j<ss.length/\(wd6 ss j).toList=s.toList:=by
 unfold be at h
 rcases nZ (eO ss s) ss.length 0 with h1 | ⟨k,_,h2,h3,h4⟩
 ·rw[h1] at h;omega
 ·rw[h4] at h
  obtain rfl:k=j:=by omega
  unfold eO at h3
  exact⟨by omega,beq_iff_eq.1 h3⟩
end
section
open Go.RowKit
end
section
open Go.RowKit
theorem rB(p:Nat->Bool):∀f k j,k<=j->j<k+f->p j=true->0<=bU p f k
 | 0,k,j,h1,h2,_=>by omega
 | f+1,k,j,h1,h2,h3=>by
   unfold bU
   by_cases hk:p k=true
   ·rw[if_pos hk];omega
   ·rw[if_neg hk]
    have:k≠j:=by intro e;subst e;exact hk h3
    exact rB p f (k+1) j (by omega) (by omega) h3
theorem mQ{ss:List ByteArray}{s:ByteArray}{j:Nat}(hj:j<ss.length)(h:(wd6 ss j).toList=s.toList):0<=be ss s:=by
 unfold be
 refine rB _ _ _ j (Nat.zero_le _) (by omega) ?_
 unfold eO
 rw[beq_iff_eq]
 exact h
theorem rC{ss:List ByteArray}:∀f k,bQ ss f k=true->∀j,k<=j->j<k+f->bN (wd6 ss j)=true/\be (ss.take j) (wd6 ss j)<0
 | 0,k,_,j,h1,h2=>by omega
 | f+1,k,h,j,h1,h2=>by
   unfold bQ at h
   by_cases hp:bN (wd6 ss k)=false
   ·rw[if_pos hp] at h;cases h
   rw[if_neg hp] at h
   by_cases hl:0<=be (ss.take k) (wd6 ss k)
   ·rw[if_pos hl] at h;cases h
   rw[if_neg hl] at h
   by_cases e:k=j
   ·subst e;exact⟨by simpa using hp,by omega⟩
   ·exact rC f (k+1) h j (by omega) (by omega)
theorem kR{ss:List ByteArray}(h:dZ ss=true):∀j,j<ss.length->bN (wd6 ss j)=true/\be (ss.take j) (wd6 ss j)<0 :=
 fun j hj=>rC _ _ h j (Nat.zero_le _) (by omega)
theorem mR{ss:List ByteArray}(h:dZ ss=true){a:Nat}(ha:a<ss.length):be ss (wd6 ss a)=(a:Int):=by
 have h0:=mQ ha (s:=wd6 ss a) rfl
 obtain⟨k,hk⟩:∃k:Nat,be ss (wd6 ss a)=(k:Int):=⟨(be ss (wd6 ss a)).toNat,by omega⟩
 obtain⟨hkl,he⟩:=oA hk
 rw[hk]
 have lt:∀x y,x<y->y<ss.length->(wd6 ss x).toList=(wd6 ss y).toList->False:=by
  intro x y hxy hy e
  have hn:=(kR h y hy).2
  have:=mQ (ss:=ss.take y) (s:=wd6 ss y) (j:=x) (by rw[List.length_take];omega) (by rw[take_wd hxy];exact e)
  omega
 rcases Nat.lt_trichotomy k a with hlt | rfl | hgt
 ·exact(lt k a hlt ha he).elim
 ·rfl
 ·exact(lt a k hgt hkl he.symm).elim
theorem mS(cs:List (ByteArray × Int))(s:ByteArray):iH cs s=be (cs.map (·.1)) s:=by
 unfold iH be
 rw[List.length_map]
 congr 1
 funext k
 unfold ke eO
 rw[List.getElem?_map]
 cases cs[k]? <;> rfl
def chAt(cs:List (ByteArray × Int))(k:Nat):ByteArray × Int:=cs[k]?.getD (⟨#[]⟩,0)
theorem lF{cs:List (ByteArray × Int)}{k:Nat}(h:k<cs.length):wd6 (cs.map (·.1)) k=(chAt cs k).1:=by
 unfold wd6 chAt
 rw[List.getElem?_map,List.getElem?_eq_getElem h];rfl
theorem ch_lev{n:Int}{cs:List (ByteArray × Int)}(h:oz n cs=true){k:Nat}(hk:k<cs.length):0<=(chAt cs k).2/\(chAt cs k).2<n:=by
 unfold oz at h
 have:=List.all_eq_true.1 h (chAt cs k) (by unfold chAt;rw[List.getElem?_eq_getElem hk];exact List.getElem_mem hk)
 simpa using this
theorem lu{n:Int}{cs:List (ByteArray × Int)}(h:bZ n cs=true):cs.length<=32/\oz n cs=true/\dZ (cs.map (·.1))=true:=by
 unfold bZ at h
 rw[Bool.and_eq_true,Bool.and_eq_true,decide_eq_true_eq] at h
 exact⟨h.1.1,h.1.2,h.2⟩
theorem bP{st:PSt}{S:List Int}(h:bg st S=true):(1<=st.D/\st.D<=64)/\S.length=st.L.length/\LL.bB S=true/\dZ st.L=true/\bZ st.L.length st.I=true/\bZ st.L.length st.O=true:=by
 unfold bg at h
 simp only[Bool.and_eq_true,decide_eq_true_eq] at h
 obtain⟨⟨⟨⟨⟨a,b⟩,c⟩,d⟩,e⟩,f⟩:=h
 exact⟨a,b,c,d,e,f⟩
end
section
open Go.RowKit
end
end Go.Proofs.YtjngffgkllakaaaGreatDoor
namespace Go.Proofs.YtjngffgkllakaaaGreatDoor.LL
def kv(xs:List Int)(a c:Nat):Nat:=if isCover xs a c=true then 1 else 0
end Go.Proofs.YtjngffgkllakaaaGreatDoor.LL
namespace Go.Proofs.YtjngffgkllakaaaGreatDoor
open List renaming getElem_toArray → zA, getElem_cons_succ → zB, getElem_cons_zero → zC, setIfInBounds_toArray → zD, set_cons_zero → zE, set_cons_succ → zF
open Lib renaming hid → zH
section
open Go.RowKit
end
section
open Go.RowKit
theorem Strs.take{n:Nat}{w:World}{a:Option Addr}{m cap j:Nat}{ss:List ByteArray}(h:Strs n w (.slice a m cap) ss)(hj:j<=ss.length):Strs n w (.slice a j cap) (ss.take j):=by
 have hl:(ss.take j).length=j:=by rw[List.length_take];omega
 rcases h with⟨⟨b,c,e,hn⟩,rfl⟩ | ⟨b,off,c,e,hb,hc,hcell⟩
 ·cases e
  obtain rfl:j=0:=by simpa using hj
  exact .inl ⟨⟨_,_,rfl,hn⟩,rfl⟩
 ·cases e
  refine .inr ⟨b,off,cap,by rw[hl],hb,by omega,fun k hk=>?_⟩
  rw[hl] at hk
  rw[List.getElem?_take_of_lt hk]
  exact hcell k (by omega)
theorem Strs.at{n:Nat}{w:World}{a:Option Addr}{m cap j:Nat}{ss:List ByteArray}(h:Strs n w (.slice a m cap) ss)(hj:j<ss.length):∃b off,a=some ⟨b,off,none⟩/\j<=cap/\w.cell? ⟨b,off+j,none⟩=some (.string (wd6 ss j)):=by
 rcases h with⟨_,rfl⟩ | ⟨b,off,c,e,hb,hc,hcell⟩
 ·simp at hj
 ·cases e
  exact⟨b,off,rfl,by omega,hcell j hj⟩
theorem names_no{ss:List ByteArray}{f k:Nat}(h:bN (wd6 ss k)=false):bQ ss (f+1) k=false:=by
 unfold bQ;rw[if_pos h]
theorem tD{ss:List ByteArray}{f k:Nat}(h:0<=be (ss.take k) (wd6 ss k)):bQ ss (f+1) k=false:=by
 unfold bQ;split
 ·rfl
 ·first | rfl | rw[if_pos h]
theorem mT{ss:List ByteArray}{f k:Nat}(h:bN (wd6 ss k)=true)(h2:¬0<=be (ss.take k) (wd6 ss k)):bQ ss (f+1) k=bQ ss f (k+1):=by
 conv=>lhs;unfold bQ
 rw[if_neg (by rw[h];simp),if_neg h2]
set_option maxRecDepth 100000 in
set_option maxHeartbeats 1600000 in
theorem eZ(v:Value)(ss:List ByteArray)(w:World)(hv:Strs w.heap.size w v ss)(hx:ss.length<=9223372036854775807)(hz:∀j,j<ss.length->(wd6 ss j).size<=562949953421312) :
 Calls Tryz.prog 77 #[v] w fun e w'=>e=.returned (.bool (dZ ss))/\Below w.heap.size w w':=by
 obtain⟨a,cap,rfl⟩:=hv.form
 have HV:=zH hv
 have HZ:=zH hz
 clear hv hz
 go_enter Tryz.func77,Tryz.ntmps77
 go_wp2_with fail
 go_loopw [7] (fun k wr=>∃j:Nat,j<=ss.length/\k=.int .i64 (j:Int)/\Below w.heap.size w wr/\RowKit.Hid (dZ ss=bQ ss (ss.length-j) j)) (fun k _=>ss.length-(intOf k).toNat)
 case atStart=>exact⟨0,Nat.zero_le _,rfl,Below.refl _ _,rfl⟩
 case round =>
  obtain⟨j,hj,rfl,hB,HP⟩:=hrel
  have HB:=zH hB
  clear hB
  by_cases hlt:j<ss.length
  ·obtain⟨b,off,rfl,hjc,hc⟩:=(HV.out.below HB.out).at hlt
   have i1:(0:Int)<=j/\(j:Int)<ss.length:=by omega
   have hzj:=HZ.out j hlt
   have HT:=zH ((HV.out.below HB.out).take hj)
   have hf:ss.length-j=(ss.length-(j+1))+1:=by omega
   obtain⟨q,eq⟩:∃q,q=wd6 ss j:=⟨_,rfl⟩
   have HN0:=zH (fun h=>HP.out.trans ((congrArg (fun f=>bQ ss f j) hf).trans (names_no (f:=ss.length-(j+1)) h)))
   have HN1:=zH (fun h=>HP.out.trans ((congrArg (fun f=>bQ ss f j) hf).trans (tD (f:=ss.length-(j+1)) h)))
   have HN2:=zH (fun h h2=>HP.out.trans ((congrArg (fun f=>bQ ss f j) hf).trans (mT (f:=ss.length-(j+1)) h h2)))
   rw[<-eq] at hc hzj HN0 HN1 HN2
   clear eq hf
   cases hp:bN q
   ·have HR:=zH (HN0.out hp)
    clear HN0 HN1 HN2
    have HPF:=zH hp
    clear hp
    go_wp2_with (go_at_call 122;refine(jB q _ hzj).mono ?_;rintro e w' ⟨rfl,hb⟩;rw[HPF.out];have HB1:=zH (HB.out.trans (hb.mono HB.out.size));clear hb)
    go_ret
    exact⟨af HR.out.symm,HB1.out⟩
   ·have HPF:=zH hp
    by_cases hs:0<=be (ss.take j) q
    ·have HR:=zH (HN1.out hs)
     have HS:=zH (decide_eq_true hs)
     clear HN0 HN1 HN2 hp hs
     go_wp2_with (first
      | (go_at_call 122;refine(jB q _ hzj).mono ?_;rintro e w' ⟨rfl,hb⟩;rw[HPF.out];have HB1:=zH (HB.out.trans (hb.mono HB.out.size));have HT1:=zH (HT.out.below (hb.mono HB.out.size));clear hb)
      | (go_at_call 123;refine(mG _ _ q _ _ HT1.out (by rw[List.length_take];omega)).mono ?_;rintro e w' ⟨rfl,rfl⟩;rw[HS.out]))
     go_ret
     exact⟨af HR.out.symm,HB1.out⟩
    ·have HR:=zH (HN2.out hp hs)
     have HS:=zH (decide_eq_false hs)
     clear HN0 HN1 HN2 hp hs
     go_wp2_with (first
      | (go_at_call 122;refine(jB q _ hzj).mono ?_;rintro e w' ⟨rfl,hb⟩;rw[HPF.out];have HB1:=zH (HB.out.trans (hb.mono HB.out.size));have HT1:=zH (HT.out.below (hb.mono HB.out.size));clear hb)
      | (go_at_call 123;refine(mG _ _ q _ _ HT1.out (by rw[List.length_take];omega)).mono ?_;rintro e w' ⟨rfl,rfl⟩;rw[HS.out]))
     go_roundw
     case rel=>exact⟨j+1,by omega,by go_num,HB1.out,HR⟩
     case measure=>simp [intOf];omega
  ·obtain rfl:j=ss.length:=by omega
   go_wp2_with fail
   go_ret
   exact⟨af (by rw[HP.out,Nat.sub_self];rfl),HB.out⟩
end
section
open Go.RowKit
theorem rD{w':World}(w:World)(h:w' = { w with heap:=w'.heap })(e:w'.heap=w.heap):w'=w:=by
 rw[e] at h;exact h
theorem iP(w:World)(old cs:Array Value)(t:TypeId):(w.alloc (.cells old t)).setRow w.heap.size cs=w.alloc (.cells cs t):=by
 have e:((w.alloc (.cells old t)).setRow w.heap.size cs).heap=(w.alloc (.cells cs t)).heap:=by
  apply Array.ext_getElem?
  intro k
  by_cases h:k=w.heap.size
  ·subst h
   rw[setRow_heap _ _ old cs t (0,0) (heap_alloc_new _ _),heap_alloc_new]
  ·simp only[World.setRow,Array.getElem?_modify]
   rw[if_neg (fun e=>h e.symm)]
   by_cases h2:k<w.heap.size
   ·rw[heap_alloc_old _ _ h2,heap_alloc_old _ _ h2]
   ·rw[Array.getElem?_eq_none (by simp;omega),Array.getElem?_eq_none (by simp;omega)]
 exact rD (w':=(w.alloc (.cells old t)).setRow w.heap.size cs) (w.alloc (.cells cs t)) rfl e
theorem cell_one6(w:World)(v:Value)(t:TypeId){b:Nat}(h:w.heap.size=b):∀(j:Nat) (u:Value),[v][j]?=some u->(w.alloc (.cells #[v] t)).cell? ((⟨b,0,none⟩:Addr).add j)=some u:=by
 subst h
 intro j u hj
 rw[Addr.add_lit,Nat.zero_add]
 simp only[World.cell?,heap_alloc_new]
 simpa using hj
theorem tE(w:World):(zeroValue 196).run Tryz.prog w=.ok (.agg #[.string ⟨#[]⟩,.int .i64 0]) w:=by
 have h:=Tryz.infoChan6
 cases hi:Tryz.prog.info? 196 with
 | none=>rw[hi] at h;cases h
 | some i =>
   rw[hi] at h
   simp only[Option.map_some,Option.some.injEq,Prod.mk.injEq] at h
   simp [zeroValue,typeInfo,hi,h.1]
theorem gD{ops:Array Oper}{rest:List Oper}{o:Oper}{a:Act}{w:World}{Q:Exit->Act->World->Prop}(hgd:o.guard=none)(x:Operand)(ho:o.op=.load 196 x)
 (blk off:Nat) (hx:a.eval x=.pointer (some ⟨blk,off,none⟩)) (p q:Value) (h1:w.cell? ⟨blk,off,none⟩=some p) (h2:w.cell? ⟨blk,off+1,none⟩=some q)
 (h:wpList Tryz.prog ops Q rest (a.put o.dst (.agg #[p,q])) w):wpList Tryz.prog ops Q (o :: rest) a w:=by
 have hl:(loadCells ⟨blk,off,none⟩ 2).run Tryz.prog w=.ok #[p,q] w :=
  run_loadCells_list (P:=Tryz.prog) w ⟨blk,off,none⟩ [p,q] (fun j u hu=>by
   rw[Addr.add_lit]
   match j,hu with
   | 0,hu=>simp at hu;subst hu;exact h1
   | 1,hu=>simp at hu;subst hu;exact h2)
 have hagg:(isAgg 196).run Tryz.prog w=.ok true w:=by kernel_rfl
 have hs:(sizeOf 196).run Tryz.prog w=.ok 2 w:=by kernel_rfl
 refine wpList_plain hgd fun K hK=>?_
 unfold Oper.wp execOp
 simp only[ho,hx,Instr.loadAt,Instr.sureAddr,Sem.run_bind,Sem.run_pure,Result.andThen_ok]
 simp only[loadVar,Sem.run_bind,hagg,hs,hl,Result.andThen_ok,if_true,Sem.run_pure]
 exact hK _ _ h
theorem cT.at{n:Nat}{w:World}{a:Option Addr}{m cap j:Nat}{cs:List (ByteArray × Int)}(h:cT n w (.slice a m cap) cs)(hj:j<cs.length) :
 ∃b off,a=some ⟨b,off,none⟩/\w.cell? ⟨b,off+j*2,none⟩=some (.string (chAt cs j).1)/\w.cell? ⟨b,off+j*2+1,none⟩=some (.int .i64 (chAt cs j).2):=by
 rcases h with⟨_,rfl⟩ | ⟨b,off,c,e,hb,hc,hcell⟩
 ·simp at hj
 ·cases e
  exact⟨b,off,rfl,hcell j hj⟩
theorem chans_no{N:Int}{cs:List (ByteArray × Int)}{k:Nat}(hk:k<cs.length)(h:¬(0<=(chAt cs k).2/\(chAt cs k).2<N)):bZ N cs=false:=by
 cases e:bZ N cs
 ·rfl
 ·exact absurd (ch_lev (lu e).2.1 hk) h
theorem oB{N:Int}{cs:List (ByteArray × Int)}(h32:cs.length<=32)(h:∀k,k<cs.length->0<=(chAt cs k).2/\(chAt cs k).2<N):bZ N cs=dZ (cs.map (·.1)):=by
 have:oz N cs=true:=by
  unfold oz
  rw[List.all_eq_true]
  intro c hc
  obtain⟨k,hk,e⟩:=List.getElem_of_mem hc
  have h1:=h k hk
  have e2:chAt cs k=c:=by unfold chAt;rw[List.getElem?_eq_getElem hk];exact e
  rw[e2] at h1
  rw[Bool.and_eq_true,decide_eq_true_eq,decide_eq_true_eq]
  exact h1
 unfold bZ
 rw[this,decide_eq_true h32];rfl
def nmV(cs:List (ByteArray × Int))(i:Nat):List Value:=((cs.map (·.1)).take i).map Value.string
theorem nmV_succ{cs:List (ByteArray × Int)}{i:Nat}(hi:i<cs.length):nmV cs i ++ [.string (chAt cs i).1]=nmV cs (i+1):=by
 unfold nmV
 have hl:i<(cs.map (·.1)).length:=by simpa using hi
 rw[List.take_succ_eq_append_getElem hl,List.map_append]
 simp [chAt,List.getElem?_eq_getElem hi]
theorem nm_in{B:Nat}{w wr w2:World}{u v2:Value}{i:Nat}{xs:List Value}{o o2:Obj}(hB:Below B w wr)(hs:B<=wr.heap.size)(hO:wr.ownsRow B 9 1 u i xs)(hg:((wr.alloc o).alloc o2).grownBy w2 u.ownBlock):Below B w w2 :=
 ((hB.alloc hs o).alloc (by simp;omega) o2).grown hg (by simp;omega) (fun k e=>(hO.lt k e).1)
theorem rE(w:World)(p q:Value)(t:TypeId):(w.alloc (.cells #[p,q] t)).cell? ⟨w.heap.size,0,none⟩=some p/\(w.alloc (.cells #[p,q] t)).cell? ⟨w.heap.size,1,none⟩=some q:=by
 constructor <;> (simp only[World.cell?,heap_alloc_new];rfl)
theorem ch_one(s:ByteArray)(l:Int):(#[.string s,.int .i64 l]:Array Value).all (·.oneCell')=true:=by
 simp [Value.oneCell']
set_option maxRecDepth 100000 in
set_option maxHeartbeats 3200000 in
theorem gE(v:Value)(cs:List (ByteArray × Int))(N:Int)(w:World)(hv:cT w.heap.size w v cs)(hz:∀j,j<cs.length->(chAt cs j).1.size<=562949953421312) :
 Calls Tryz.prog 78 #[v,.int .i64 N] w fun e w'=>e=.returned (.bool (bZ N cs))/\Below w.heap.size w w':=by
 obtain⟨a,cap,rfl⟩:=hv.form
 obtain⟨i0,hi,hz0,hz1,hz2⟩:=info_parts Tryz.infoStr6
 have hzc:=fun(w:World)=>tE w
 have HV:=zH hv
 have HZ:=zH hz
 clear hv hz
 by_cases h32:cs.length<=32
 ·go_enter Tryz.func78,Tryz.ntmps78
  go_wp2_with fail
  go_loopw [5,13] (fun o k wr=>∃i:Nat,i<=cs.length/\k=.int .i64 (i:Int)/\wr.ownsRow w.heap.size 9 1 o i (nmV cs i)/\Below w.heap.size w wr/\RowKit.Hid (∀j,j<i->0<=(chAt cs j).2/\(chAt cs j).2<N)) (fun _ k _=>cs.length-(intOf k).toNat)
  case atStart=>exact⟨0,Nat.zero_le _,rfl,World.ownsRow_nil _ _ _ _,Below.refl _ _,zH (fun j hj=>absurd hj (Nat.not_lt_zero _))⟩
  case round =>
   obtain⟨i,hil,rfl,hO,hB,HK⟩:=hrel
   have HO:=zH hO
   have HB:=zH hB
   clear hO hB
   by_cases hlt:i<cs.length
   ·obtain⟨b,off,rfl,c1,c2⟩:=(HV.out.below HB.out).at hlt
    have i1:(0:Int)<=i/\(i:Int)<cs.length:=by omega
    have HNV:=zH (nmV_succ hlt)
    have HNO:=zH (fun h=>chans_no (N:=N) hlt h)
    have HST:=zH (fun(h:0<=(chAt cs i).2/\(chAt cs i).2<N) j (hj:j<i+1)=>(Nat.lt_succ_iff_lt_or_eq.1 hj).elim (HK.out j) (fun e=>by rw[e];exact h))
    obtain⟨s,es⟩:∃s,s=(chAt cs i).1:=⟨_,rfl⟩
    obtain⟨l,el⟩:∃l,l=(chAt cs i).2:=⟨_,rfl⟩
    rw[<-es] at c1 HNV
    rw[<-el] at c2 HNO HST
    clear es el
    have h1:=(rE wr (.string s) (.int .i64 l) 196).1
    have h2:=(rE wr (.string s) (.int .i64 l) 196).2
    by_cases l0:l<0
    ·have HR:=zH (HNO.out (by omega))
     clear HNO HST HNV
     go_wp2_with (first
      | (refine gD rfl (.tmp 15) rfl b (off+i*2) rfl _ _ c1 c2 ?_)
      | (refine wpList_store_row rfl 196 (.tmp 7) (.tmp 16) rfl _ #[.string s,.int .i64 l] rfl rfl 196 #[.string ⟨#[]⟩,.int .i64 0] (heap_alloc_new _ _) (by kernel_rfl) rfl (ch_one s l) ?_
         rw[iP]))
     go_ret
     exact⟨af HR.out.symm,HB.out.alloc HB.out.size _⟩
    ·by_cases l1:l<N
     ·have l2:¬N<=l:=by omega
      have HS:=zH (HST.out (by omega))
      clear HNO HST
      go_wp2_with (first
       | (refine gD rfl (.tmp 15) rfl b (off+i*2) rfl _ _ c1 c2 ?_)
       | (refine wpList_store_row rfl 196 (.tmp 7) (.tmp 16) rfl _ #[.string s,.int .i64 l] rfl rfl 196 #[.string ⟨#[]⟩,.int .i64 0] (heap_alloc_new _ _) (by kernel_rfl) rfl (ch_one s l) ?_
          rw[iP])
       | (at_builtin
          refine wpList_append_any rfl _ _ 22 rfl w.heap.size 9 i0 (.string ⟨#[]⟩) 1 16 Tryz.underlying22 hi hz0 hz1 hz2 rfl (by decide) u5 i (nmV cs i) rfl ((HO.out.alloc _).alloc _) (.slice (some ⟨_,0,none⟩) 1 1) 1 [.string s] rfl rfl (.inr ⟨_,_,rfl,cell_one6 _ _ _ (by simp)⟩) (by intro u hu;rw[List.mem_singleton.1 hu];rfl) (by unfold maxLen;omega) (by omega) (by have:=HB.out.size;simp;omega) ?_
          intro v2 w2 ho hg
          have HD:=zH ho
          have HE:=zH (nm_in (v2:=v2) HB.out HB.out.size HO.out hg)
          clear ho hg))
      go_roundw
      case rel=>exact⟨i+1,by omega,by go_num,by rw[<-HNV.out];exact HD.out,HE.out,zH HS.out⟩
      case measure=>simp [intOf];omega
     ·have l2:N<=l:=by omega
      have HR:=zH (HNO.out (by omega))
      clear HNO HST HNV
      go_wp2_with (first
       | (refine gD rfl (.tmp 15) rfl b (off+i*2) rfl _ _ c1 c2 ?_)
       | (refine wpList_store_row rfl 196 (.tmp 7) (.tmp 16) rfl _ #[.string s,.int .i64 l] rfl rfl 196 #[.string ⟨#[]⟩,.int .i64 0] (heap_alloc_new _ _) (by kernel_rfl) rfl (ch_one s l) ?_
          rw[iP]))
      go_ret
      exact⟨af HR.out.symm,HB.out.alloc HB.out.size _⟩
   ·have hie:i=cs.length:=by omega
    have HY:=zH (oB (N:=N) h32 (fun k hk=>HK.out k (by omega)))
    have HS:=zH (show Strs wr.heap.size wr u5 (cs.map (·.1)) by
     have h:=HO.out
     rw[hie] at h
     refine iI (base:=w.heap.size) (e:=9) ?_
     rw[List.length_map]
     have e:nmV cs cs.length=(cs.map (·.1)).map Value.string:=by unfold nmV;rw[List.take_of_length_le (by simp)]
     rw[<-e];exact h)
    have HZ2:=zH (show ∀j,j<(cs.map (·.1)).length->(wd6 (cs.map (·.1)) j).size<=562949953421312 from fun j hj=>by
     have hj':j<cs.length:=by simpa using hj
     rw[lF hj'];exact HZ.out j hj')
    clear hie
    go_wp2_with (go_at_call 77;refine(eZ _ (cs.map (·.1)) _ HS.out (by rw[List.length_map];omega) HZ2.out).mono ?_;rintro e w' ⟨rfl,hb⟩)
    go_ret
    exact⟨af HY.out.symm,HB.out.trans (hb.mono HB.out.size)⟩
 ·have HR:=zH (show bZ N cs=false by unfold bZ;rw[decide_eq_false h32];rfl)
  go_enter Tryz.func78,Tryz.ntmps78
  go_wp2_with fail
  go_ret
  exact⟨af HR.out.symm,Below.refl _ _⟩
end
section
open Go.RowKit
structure Short6 (st:PSt):Prop where
 l:∀j,j<st.L.length->(wd6 st.L j).size<=562949953421312
 i:∀j,j<st.I.length->(chAt st.I j).1.size<=562949953421312
 o:∀j,j<st.O.length->(chAt st.O j).1.size<=562949953421312
theorem cM{st:PSt}{S:List Int}(h:bg st S=true->False):bg st S=false:=by
 cases e:bg st S
 ·rfl
 ·exact(h e).elim
theorem kS(w:World)(p0 p1 p2 p3 p4:Value)(t:TypeId):∀(c:Nat) (u:Value),[p0,p1,p2,p3,p4][c]?=some u->(w.alloc (.cells #[p0,p1,p2,p3,p4] t)).cell? ⟨w.heap.size,c,none⟩=some u:=by
 intro c u h
 simp only[World.cell?,heap_alloc_new]
 simpa using h
theorem bstep6{A w w':World}(h:Below A.heap.size A w)(g:Below w.heap.size w w'):Below A.heap.size A w':=h.trans (g.mono h.size)
set_option maxRecDepth 100000 in
set_option maxHeartbeats 3200000 in
theorem tF(v0 v1 v2 v3:Value)(st:PSt)(S:List Int)(w:World)(h:PolIn w v0 v1 v2 v3 st S)(hw:Wide S)(hTz:Tz w)(hsh:Short6 st) :
 Calls Tryz.prog 51 #[.agg #[v0,v1,v2,v3,.int .i64 st.D]] w fun e w'=>e=.returned (.bool (bg st S))/\Below w.heap.size w w':=by
 have hl0:=h.l0
 have hl1:=h.l1
 obtain⟨a0,k0,rfl⟩:=h.s0.form
 obtain⟨a1,k1,rfl⟩:=h.s1.form
 obtain⟨a2,k2,rfl⟩:=h.s2.form
 obtain⟨a3,k3,rfl⟩:=h.s3.form
 obtain⟨W0,eW0⟩:∃W0,W0=w.alloc (.cells #[.slice a0 st.L.length k0,.slice a1 S.length k1,.slice a2 st.I.length k2,.slice a3 st.O.length k3,.int .i64 st.D] 26):=⟨_,rfl⟩
 have HB0:=zH (show Below w.heap.size w W0 by rw[eW0];exact(Below.refl _ _).alloc (Nat.le_refl _) _)
 have HW0:=zH (show w.heap.size<W0.heap.size by rw[eW0];simp)
 have HC0:=zH (show ∀c u,[.slice a0 st.L.length k0,.slice a1 S.length k1,.slice a2 st.I.length k2,.slice a3 st.O.length k3,.int .i64 st.D][c]?=some u->W0.cell? ⟨w.heap.size,c,none⟩=some u by rw[eW0];exact kS _ _ _ _ _ _ _)
 have HP0:=zH (h.below HB0.out)
 have HT0:=zH (hTz.on HB0.out)
 have HSH:=zH hsh
 have EW0:=zH eW0
 have q0:=HC0.out 0 _ rfl
 have q1:=HC0.out 1 _ rfl
 have q2:=HC0.out 2 _ rfl
 have q3:=HC0.out 3 _ rfl
 have q4:=HC0.out 4 _ rfl
 rw[eW0] at q0 q1 q2 q3 q4
 have HKC:=zH (fun(w1:World) (hb:Below W0.heap.size W0 w1) c u (hu:[.slice a0 st.L.length k0,.slice a1 S.length k1,.slice a2 st.I.length k2,.slice a3 st.O.length k3,.int .i64 st.D][c]?=some u)=>(hb.cell (p:=⟨w.heap.size,c,none⟩) HW0.out).trans (HC0.out c u hu))
 clear h hTz hsh eW0
 by_cases c1:1<=st.D
 ·by_cases c2:st.D<=64
  ·by_cases c3:S.length=st.L.length
   ·have HC3:=zH c3
    have t3:((S.length:Int) == (st.L.length:Int))=true:=beq_iff_eq.2 (by omega)
    clear c3
    by_cases c4:LL.bB S=true
    ·have HR4:=zH c4
     by_cases c5:dZ st.L=true
     ·have HR5:=zH c5
      by_cases c6:bZ st.L.length st.I=true
      ·have HR6:=zH c6
       have HN:=zH (show bg st S=bZ st.L.length st.O by unfold bg;rw[decide_eq_true (show 1<=st.D/\st.D<=64 from⟨c1,c2⟩),decide_eq_true HC3.out,c4,c5,c6];simp)
       clear c4 c5 c6
       go_enter Tryz.func51,Tryz.ntmps51
       go_wp2_with (first
        | (go_at_call 78;refine(gE (.slice a3 st.O.length k3) st.O st.L.length w3 (cV HP0.out.s3 HB3.out) HSH.out.o).mono ?_;rintro e w4 ⟨rfl,hb⟩;have HB4:=zH (bstep6 HB3.out hb);clear hb p0 p2 p3)
        | (go_at_call 78;refine(gE (.slice a2 st.I.length k2) st.I st.L.length w2 (cV HP0.out.s2 HB2.out) HSH.out.i).mono ?_;rintro e w3 ⟨rfl,hb⟩;rw[HR6.out];have HB3:=zH (bstep6 HB2.out hb);clear hb p0 p2 p3;have p0:=HKC.out w3 HB3.out 0 _ rfl;have p2:=HKC.out w3 HB3.out 2 _ rfl;have p3:=HKC.out w3 HB3.out 3 _ rfl)
        | (go_at_call 77;refine(eZ _ st.L w1 (fE HP0.out.s0 HB1.out) (by omega) HSH.out.l).mono ?_;rintro e w2 ⟨rfl,hb⟩;rw[HR5.out];have HB2:=zH (bstep6 HB1.out hb);clear hb p0 p2 p3;have p0:=HKC.out w2 HB2.out 0 _ rfl;have p2:=HKC.out w2 HB2.out 2 _ rfl;have p3:=HKC.out w2 HB2.out 3 _ rfl)
        | (go_at_call 76;rw[<-EW0.out];refine(ik _ S W0.heap.size _ (ji HP0.out.s1 (Below.refl _ _)) (Nat.le_refl _) hw (by simp only[big5];omega) HT0.out).mono ?_;rintro e w1 ⟨rfl,hb⟩;rw[HR4.out];have HB1:=zH hb;clear hb;have p0:=HKC.out w1 HB1.out 0 _ rfl;have p2:=HKC.out w1 HB1.out 2 _ rfl;have p3:=HKC.out w1 HB1.out 3 _ rfl))
       go_ret
       exact⟨af HN.out.symm,HB0.out.trans (HB4.out.mono HB0.out.size)⟩
      ·have HN:=zH (cM (st:=st) (S:=S) (fun e=>c6 (bP e).2.2.2.2.1))
       have HR6:=zH (eq_false_of_ne_true c6)
       clear c4 c5 c6
       go_enter Tryz.func51,Tryz.ntmps51
       go_wp2_with (first
        | (go_at_call 78;refine(gE (.slice a2 st.I.length k2) st.I st.L.length w2 (cV HP0.out.s2 HB2.out) HSH.out.i).mono ?_;rintro e w3 ⟨rfl,hb⟩;rw[HR6.out];have HB3:=zH (bstep6 HB2.out hb);clear hb p0 p2 p3;have p0:=HKC.out w3 HB3.out 0 _ rfl;have p2:=HKC.out w3 HB3.out 2 _ rfl;have p3:=HKC.out w3 HB3.out 3 _ rfl)
        | (go_at_call 77;refine(eZ _ st.L w1 (fE HP0.out.s0 HB1.out) (by omega) HSH.out.l).mono ?_;rintro e w2 ⟨rfl,hb⟩;rw[HR5.out];have HB2:=zH (bstep6 HB1.out hb);clear hb p0 p2 p3;have p0:=HKC.out w2 HB2.out 0 _ rfl;have p2:=HKC.out w2 HB2.out 2 _ rfl;have p3:=HKC.out w2 HB2.out 3 _ rfl)
        | (go_at_call 76;rw[<-EW0.out];refine(ik _ S W0.heap.size _ (ji HP0.out.s1 (Below.refl _ _)) (Nat.le_refl _) hw (by simp only[big5];omega) HT0.out).mono ?_;rintro e w1 ⟨rfl,hb⟩;rw[HR4.out];have HB1:=zH hb;clear hb;have p0:=HKC.out w1 HB1.out 0 _ rfl;have p2:=HKC.out w1 HB1.out 2 _ rfl;have p3:=HKC.out w1 HB1.out 3 _ rfl))
       go_ret
       exact⟨af HN.out.symm,HB0.out.trans (HB3.out.mono HB0.out.size)⟩
     ·have HN:=zH (cM (st:=st) (S:=S) (fun e=>c5 (bP e).2.2.2.1))
      have HR5:=zH (eq_false_of_ne_true c5)
      clear c4 c5
      go_enter Tryz.func51,Tryz.ntmps51
      go_wp2_with (first
       | (go_at_call 77;refine(eZ _ st.L w1 (fE HP0.out.s0 HB1.out) (by omega) HSH.out.l).mono ?_;rintro e w2 ⟨rfl,hb⟩;rw[HR5.out];have HB2:=zH (bstep6 HB1.out hb);clear hb p0 p2 p3;have p0:=HKC.out w2 HB2.out 0 _ rfl;have p2:=HKC.out w2 HB2.out 2 _ rfl;have p3:=HKC.out w2 HB2.out 3 _ rfl)
       | (go_at_call 76;rw[<-EW0.out];refine(ik _ S W0.heap.size _ (ji HP0.out.s1 (Below.refl _ _)) (Nat.le_refl _) hw (by simp only[big5];omega) HT0.out).mono ?_;rintro e w1 ⟨rfl,hb⟩;rw[HR4.out];have HB1:=zH hb;clear hb;have p0:=HKC.out w1 HB1.out 0 _ rfl;have p2:=HKC.out w1 HB1.out 2 _ rfl;have p3:=HKC.out w1 HB1.out 3 _ rfl))
      go_ret
      exact⟨af HN.out.symm,HB0.out.trans (HB2.out.mono HB0.out.size)⟩
    ·have HN:=zH (cM (st:=st) (S:=S) (fun e=>c4 (bP e).2.2.1))
     have HR4:=zH (eq_false_of_ne_true c4)
     clear c4
     go_enter Tryz.func51,Tryz.ntmps51
     go_wp2_with (first
      | (go_at_call 76;rw[<-EW0.out];refine(ik _ S W0.heap.size _ (ji HP0.out.s1 (Below.refl _ _)) (Nat.le_refl _) hw (by simp only[big5];omega) HT0.out).mono ?_;rintro e w1 ⟨rfl,hb⟩;rw[HR4.out];have HB1:=zH hb;clear hb;have p0:=HKC.out w1 HB1.out 0 _ rfl;have p2:=HKC.out w1 HB1.out 2 _ rfl;have p3:=HKC.out w1 HB1.out 3 _ rfl))
     go_ret
     exact⟨af HN.out.symm,HB0.out.trans (HB1.out.mono HB0.out.size)⟩
   ·have HN:=zH (cM (st:=st) (S:=S) (fun e=>c3 (bP e).2.1))
    go_enter Tryz.func51,Tryz.ntmps51
    go_wp2_with fail
    go_ret
    exact⟨af HN.out.symm,by first | exact HB0.out | (rw[<-EW0.out];exact HB0.out)⟩
  ·have HN:=zH (cM (st:=st) (S:=S) (fun e=>c2 (bP e).1.2))
   go_enter Tryz.func51,Tryz.ntmps51
   go_wp2_with fail
   go_ret
   exact⟨af HN.out.symm,by first | exact HB0.out | (rw[<-EW0.out];exact HB0.out)⟩
 ·have HN:=zH (cM (st:=st) (S:=S) (fun e=>c1 (bP e).1.1))
  have d1:st.D<1:=by omega
  go_enter Tryz.func51,Tryz.ntmps51
  go_wp2_with fail
  go_ret
  exact⟨af HN.out.symm,by first | exact HB0.out | (rw[<-EW0.out];exact HB0.out)⟩
end
section
open Go.RowKit
open CD (OpP BodyP CodeP aj blAt fnAt)
theorem nis_q0{B j:Nat}{n T:Int}{W:World}{t:Bool}(hj:j<8)(hc:RowKit.Hid (W.cell? ⟨B,3+j,none⟩=some (.int .i64 T)))(ht:RowKit.Hid (decide (0<=n/\n<T)=t))(d:Nat) :
 Calls Tryz.prog 135 #[.pointer (some ⟨B,0,none⟩),.int .u8 (j:Int),.int .i64 n] (W.drewN d) fun e w'=>e=.returned (.bool t)/\∃k,w'=W.drewN k:=by
 refine(jQ B j n T (W.drewN d) hj hc.out).mono ?_
 rintro e w' ⟨rfl,rfl⟩
 exact⟨by rw[ht.out],d,rfl⟩
set_option maxRecDepth 100000 in
set_option maxHeartbeats 6400000 in
theorem oC{n₀:Nat}(B:Nat)(av fv:Value)(c:CodeP)(q:CD.Cnt)(nb nv nx lf:Int)(w:World)(h:Ck B w (ckC av fv c.mn0 q nb nv nx lf))(hf:bh n₀ w fv c.fs)(hqf:q.fn=c.fs.length)(hfl:c.fs.length<=100) :
 Calls Tryz.prog 85 #[.pointer (some ⟨B,0,none⟩)] w fun e w'=>e=.returned (.bool (CD.tf (CD.pe c)))/\Below w.heap.size w w':=by
 obtain⟨fa,fc,rfl⟩:=hf.form
 obtain⟨z,ez⟩:∃z,z=CD.tf (CD.pe c):=⟨_,rfl⟩
 rw[<-ez]
 have HZ:=zH ez
 have hc1:w.cell? ⟨B,1,none⟩=some (.slice fa c.fs.length fc):=h.at 1 rfl
 have hc2:w.cell? ⟨B,2,none⟩=some (.int .i64 c.mn0):=h.at 2 rfl
 have HC5:=zH (show w.cell? ⟨B,3+2,none⟩=some (.int .i64 (q.fn:Nat)) from h.at 5 rfl)
 have i0:(c.fs.length:Int)<=100:=by omega
 clear ez h
 cases ht:decide (0<=c.mn0/\c.mn0<(q.fn:Nat))
 ·have e1:z=false:=by rw[HZ.out];exact CD.aD (fun h=>of_decide_eq_false ht (by rw[hqf];exact h.1))
  have HTT:=zH ht
  clear HZ ht
  subst e1
  go_enter Tryz.func85,Tryz.ntmps85
  go_wp2_with fail
  go_quiet ((go_at_call 135;exact nis_q0 (j:=2) (by decide) HC5 HTT _))
  go_wp2_with fail
  go_ret
  exact⟨rfl,⟨rfl,rfl,rfl,Nat.le_refl _,fun _ _=>rfl⟩⟩
 ·have hr:0<=c.mn0/\c.mn0<(c.fs.length:Nat):=by have:=of_decide_eq_true ht;rwa [hqf] at this
  obtain⟨lb,lo,ba,bc,efa,hlb,h0,_⟩:=hf.at (i:=c.mn0.toNat) (by omega)
  subst efa
  have h0':w.cell? ⟨lb,lo+c.mn0.toNat*3,none⟩=some (.int .i64 (CD.paAt c c.mn0)):=h0
  have HTT:=zH ht
  obtain⟨pa,epa⟩:∃pa,pa=CD.paAt c c.mn0:=⟨_,rfl⟩
  rw[<-epa] at h0'
  have i1:(0:Int)<=c.mn0/\c.mn0<(c.fs.length:Int):=hr
  clear ht h0 hf hqf
  cases hp:(pa == (0:Int))
  ·have e1:z=false:=by rw[HZ.out];exact CD.aD (fun h=>by have:=h.2;rw[<-epa] at this;simp [this] at hp)
   clear HZ epa
   subst e1
   go_enter Tryz.func85,Tryz.ntmps85
   go_wp2_with fail
   go_quiet ((go_at_call 135;exact nis_q0 (j:=2) (by decide) HC5 HTT _))
   go_wp2_with fail
   go_ret
   exact⟨rfl,⟨rfl,rfl,rfl,Nat.le_refl _,fun _ _=>rfl⟩⟩
  ·have e1:z=true:=by rw[HZ.out];exact CD.bz ⟨hr,by rw[<-epa];simpa using hp⟩
   clear HZ epa
   subst e1
   go_enter Tryz.func85,Tryz.ntmps85
   go_wp2_with fail
   go_quiet ((go_at_call 135;exact nis_q0 (j:=2) (by decide) HC5 HTT _))
   go_wp2_with fail
   go_ret
   exact⟨rfl,⟨rfl,rfl,rfl,Nat.le_refl _,fun _ _=>rfl⟩⟩
theorem box5{w:World}{b:Nat}{t:TypeId}{v0 v1 v2 v3 v4:Value}(h:w.heap[b]?=some (.cells #[v0,v1,v2,v3,v4] t)) :
 w.cell? ⟨b,0,none⟩=some v0/\w.cell? ⟨b,1,none⟩=some v1/\w.cell? ⟨b,2,none⟩=some v2/\w.cell? ⟨b,3,none⟩=some v3/\w.cell? ⟨b,4,none⟩=some v4 :=
 ⟨cell_of_row _ _ 0 _ _ _ h,cell_of_row _ _ 1 _ _ _ h,cell_of_row _ _ 2 _ _ _ h,cell_of_row _ _ 3 _ _ _ h,cell_of_row _ _ 4 _ _ _ h⟩
def aE(st:PSt)(c:CodeP):CD.Cnt:=⟨c.ar.length,c.fs.length,st.I.length,st.O.length,st.L.length⟩
set_option maxRecDepth 100000 in
set_option maxHeartbeats 12800000 in
theorem tG(v0 v1 v2 v3 av fv:Value)(st:PSt)(S:List Int)(c:CodeP)(w:World)(hp:PolIn w v0 v1 v2 v3 st S)(hw:Wide S)(hTz:Tz w)(hT:ShT w)(hsh:Short6 st)(ha:bA w.heap.size w av c.ar)(hf:bh w.heap.size w fv c.fs)(hfew:CD.Few c)(hs:fm c) :
 Calls Tryz.prog 57 #[.agg #[v0,v1,v2,v3,.int .i64 st.D],.agg #[av,fv,.int .i64 c.mn0]] w fun e w'=>e=.returned (.bool (CD.tf (CD.fk (bg st S) (aE st c) c)))/\Below w.heap.size w w':=by
 obtain⟨aa,ac,rfl⟩:=ha.form
 obtain⟨fa,fc,rfl⟩:=hf.form
 obtain⟨a0,k0,rfl⟩:=hp.s0.form
 obtain⟨a1,k1,rfl⟩:=hp.s1.form
 obtain⟨a2,k2,rfl⟩:=hp.s2.form
 obtain⟨a3,k3,rfl⟩:=hp.s3.form
 have hl0:=hp.l0
 have hl2:=hp.l2
 have hl3:=hp.l3
 obtain⟨z,ez⟩:∃z,z=CD.tf (CD.fk (bg st S) (aE st c) c):=⟨_,rfl⟩
 rw[<-ez]
 have HZ:=zH ez
 obtain⟨w2,ew2⟩:∃w2,w2=(w.alloc (.cells #[.slice a0 st.L.length k0,.slice a1 S.length k1,.slice a2 st.I.length k2,.slice a3 st.O.length k3,.int .i64 st.D] 26)).alloc (.cells #[.slice aa c.ar.length ac,.slice fa c.fs.length fc,.int .i64 c.mn0] 30):=⟨_,rfl⟩
 have hb2:Below w.heap.size w w2:=by rw[ew2];exact((Below.refl _ _).alloc (Nat.le_refl _) _).alloc (by simp) _
 have HB2:=zH hb2
 have hk5:w2.heap[w.heap.size]?=some (.cells #[.slice a0 st.L.length k0,.slice a1 S.length k1,.slice a2 st.I.length k2,.slice a3 st.O.length k3,.int .i64 st.D] 26):=by
  rw[ew2,Below.heap_alloc _ _ _ (by simp)];exact heap_alloc_new _ _
 have hk3:w2.heap[w.heap.size+1]?=some (.cells #[.slice aa c.ar.length ac,.slice fa c.fs.length fc,.int .i64 c.mn0] 30):=by
  have e:=heap_alloc_new (w.alloc (.cells #[.slice a0 st.L.length k0,.slice a1 S.length k1,.slice a2 st.I.length k2,.slice a3 st.O.length k3,.int .i64 st.D] 26)) (.cells #[.slice aa c.ar.length ac,.slice fa c.fs.length fc,.int .i64 c.mn0] 30)
  rw[show (w.alloc (.cells #[.slice a0 st.L.length k0,.slice a1 S.length k1,.slice a2 st.I.length k2,.slice a3 st.O.length k3,.int .i64 st.D] 26)).heap.size=w.heap.size+1 by simp] at e
  rw[ew2];exact e
 have HK5:=zH (fun w3 (hb:Below w2.heap.size w2 w3)=>box5 ((hb.block _ (Array.getElem?_eq_some_iff.1 hk5).1).trans hk5))
 have HK3:=zH (fun w3 (hb:Below w2.heap.size w2 w3)=>box3 ((hb.block _ (Array.getElem?_eq_some_iff.1 hk3).1).trans hk3))
 have HPR:=zH (tF _ _ _ _ st S w2 (hp.below hb2) hw (hTz.on hb2) hsh)
 have HF:=zH hf
 have HA:=zH ha
 have HT:=zH hT
 have HFEW:=zH hfew
 have HS:=zH hs
 have b1:(c.ar.length:Int)<=100:=by have:=hfew.a;omega
 have b2:(c.fs.length:Int)<=100:=by have:=hfew.f;omega
 have b3:(st.I.length:Int)<=17592186044416:=by omega
 have b4:(st.O.length:Int)<=17592186044416:=by omega
 have b5:(st.L.length:Int)<=17592186044416:=by omega
 clear ez hp hw hTz hT hsh ha hf hfew hs hb2 hk5 hk3 hl0 hl2 hl3
 cases hpol:bg st S
 ·have e1:z=false:=by rw[HZ.out];exact CD.aD (fun h=>by rw[h.1.1] at hpol;cases hpol)
  have HPO:=zH hpol
  clear HZ hpol
  subst e1
  go_enter Tryz.func57,Tryz.ntmps57
  go_wp2_with (go_at_call 51;rw[<-ew2];refine HPR.out.mono ?_;rintro e w3 ⟨rfl,hb⟩;rw[HPO.out];have HB3:=zH hb;clear hb;obtain⟨hc0,hc1,hc2,hc3,hc4⟩:=HK5.out w3 HB3.out;obtain⟨hd0,hd1,hd2⟩:=HK3.out w3 HB3.out)
  go_ret
  exact⟨rfl,HB2.out.trans (HB3.out.mono HB2.out.size)⟩
 ·have HPO:=zH hpol
  rcases Decidable.em (16<(c.ar.length:Int)) with q1 | q1
  ·have e1:z=false:=by rw[HZ.out];exact CD.aD (fun h=>by have:=h.1.2.1;omega)
   clear HZ hpol
   subst e1
   go_enter Tryz.func57,Tryz.ntmps57
   go_wp2_with (go_at_call 51;rw[<-ew2];refine HPR.out.mono ?_;rintro e w3 ⟨rfl,hb⟩;rw[HPO.out];have HB3:=zH hb;clear hb;obtain⟨hc0,hc1,hc2,hc3,hc4⟩:=HK5.out w3 HB3.out;obtain⟨hd0,hd1,hd2⟩:=HK3.out w3 HB3.out)
   go_ret
   exact⟨rfl,HB2.out.trans (HB3.out.mono HB2.out.size)⟩
  ·rcases Decidable.em (64<(c.fs.length:Int)) with q2 | q2
   ·have e1:z=false:=by rw[HZ.out];exact CD.aD (fun h=>by have:=h.1.2.2;omega)
    clear HZ hpol
    subst e1
    go_enter Tryz.func57,Tryz.ntmps57
    go_wp2_with (go_at_call 51;rw[<-ew2];refine HPR.out.mono ?_;rintro e w3 ⟨rfl,hb⟩;rw[HPO.out];have HB3:=zH hb;clear hb;obtain⟨hc0,hc1,hc2,hc3,hc4⟩:=HK5.out w3 HB3.out;obtain⟨hd0,hd1,hd2⟩:=HK3.out w3 HB3.out)
    go_ret
    exact⟨rfl,HB2.out.trans (HB3.out.mono HB2.out.size)⟩
   ·have HG0:=zH (show bg st S=true/\c.ar.length<=16/\c.fs.length<=64 from⟨hpol,by omega,by omega⟩)
    clear hpol
    go_enter Tryz.func57,Tryz.ntmps57
    go_upto_region 4 with(go_at_call 51;rw[<-ew2];refine HPR.out.mono ?_;rintro e w3 ⟨rfl,hb⟩;rw[HPO.out];have HB3:=zH hb;clear hb;obtain⟨hc0,hc1,hc2,hc3,hc4⟩:=HK5.out w3 HB3.out;obtain⟨hd0,hd1,hd2⟩:=HK3.out w3 HB3.out)
    clear hc0 hc1 hc2 hc3 hc4 hd0 hd1 hd2
    obtain⟨w4,ew4⟩:∃w4,w4=w3.alloc (.cells (ckC (.slice aa c.ar.length ac) (.slice fa c.fs.length fc) c.mn0 (aE st c) 0 0 0 4096) 157):=⟨_,rfl⟩
    have HB4:=zH (show Below w.heap.size w w4 by rw[ew4];exact(HB2.out.trans (HB3.out.mono HB2.out.size)).alloc (Nat.le_trans HB2.out.size HB3.out.size) _)
    have HCK:=zH (show Ck w3.heap.size w4 (ckC (.slice aa c.ar.length ac) (.slice fa c.fs.length fc) c.mn0 (aE st c) 0 0 0 4096) by rw[ew4];exact heap_alloc_new _ _)
    have HN:=zH (show w.heap.size<=w3.heap.size from Nat.le_trans HB2.out.size HB3.out.size)
    have HBT:=zH (show w3.heap.size≠shG by have:=HT.out.lt;have:=HN.out;omega)
    have ew5:w4=w3.alloc (.cells #[.slice aa c.ar.length ac,.slice fa c.fs.length fc,.int .i64 c.mn0,.int .i64 1,.int .i64 c.ar.length,.int .i64 c.fs.length,.int .i64 st.I.length,.int .i64 st.O.length,.int .i64 st.L.length,.int .i64 0,.int .i64 0,.int .i64 0,.int .i64 4096] 157):=ew4
    rw[<-ew5]
    clear ew4 ew5
    cases h1:CD.tf (CD.jO (aE st c) c.ar)
    ·have e1:z=false:=by rw[HZ.out];exact CD.aD (fun h=>CD.cZ h1 h.2.1)
     have H1:=zH h1
     clear HZ h1
     subst e1
     go_wp2_with (go_at_call 84;refine(jE (n₀:=w.heap.size) w3.heap.size _ _ c (aE st c) 0 0 0 4096 w4 HCK.out (HA.out.below HB4.out) HN.out HFEW.out.a).mono ?_;rintro e w5 ⟨rfl,hb⟩;rw[H1.out];have HB5:=zH hb;clear hb)
     go_ret
     exact⟨rfl,HB4.out.trans (HB5.out.mono HB4.out.size)⟩
    ·cases h2:CD.tf (CD.pe c)
     ·have e1:z=false:=by rw[HZ.out];exact CD.aD (fun h=>CD.cZ h2 h.2.2.1)
      have H1:=zH h1
      have H2:=zH h2
      clear HZ h1 h2
      subst e1
      go_wp2_with (first | (go_at_call 84;refine(jE (n₀:=w.heap.size) w3.heap.size _ _ c (aE st c) 0 0 0 4096 w4 HCK.out (HA.out.below HB4.out) HN.out HFEW.out.a).mono ?_;rintro e w5 ⟨rfl,hb⟩;rw[H1.out];have HB5:=zH hb;clear hb) | (go_at_call 85;refine(oC (n₀:=w.heap.size) w3.heap.size _ _ c (aE st c) 0 0 0 4096 w5 (HCK.out.on HB5.out) (HF.out.below (HB4.out.trans (HB5.out.mono HB4.out.size))) rfl HFEW.out.f).mono ?_;rintro e w6 ⟨rfl,hb⟩;rw[H2.out];have HB6:=zH (HB5.out.trans (hb.mono HB5.out.size));clear hb))
      go_ret
      exact⟨rfl,HB4.out.trans (HB6.out.mono HB4.out.size)⟩
     ·obtain⟨y,ey⟩:∃y,y=CD.tf (AllOk (aE st c) c):=⟨_,rfl⟩
      have e1:z=y:=by
       rw[HZ.out,ey]
       exact CD.tf_congr ⟨fun h=>h.2.2.2,fun h=>⟨HG0.out,CD.dU h1,CD.dU h2,h⟩⟩
      have H1:=zH h1
      have H2:=zH h2
      have H3:=zH ey.symm
      clear HZ h1 h2 ey
      subst e1
      cases z <;>
       (go_wp2_with (first | (go_at_call 84;refine(jE (n₀:=w.heap.size) w3.heap.size _ _ c (aE st c) 0 0 0 4096 w4 HCK.out (HA.out.below HB4.out) HN.out HFEW.out.a).mono ?_;rintro e w5 ⟨rfl,hb⟩;rw[H1.out];have HB5:=zH hb;clear hb) | (go_at_call 85;refine(oC (n₀:=w.heap.size) w3.heap.size _ _ c (aE st c) 0 0 0 4096 w5 (HCK.out.on HB5.out) (HF.out.below (HB4.out.trans (HB5.out.mono HB4.out.size))) rfl HFEW.out.f).mono ?_;rintro e w6 ⟨rfl,hb⟩;rw[H2.out];have HB6:=zH (HB5.out.trans (hb.mono HB5.out.size));clear hb) | (go_at_call 86;refine(rA (n₀:=w.heap.size) w3.heap.size _ _ c (aE st c) 0 0 0 w6 (HCK.out.on HB6.out) (HF.out.below (HB4.out.trans (HB6.out.mono HB4.out.size))) HN.out rfl HFEW.out HS.out ((HT.out.on HB4.out).on HB6.out) HBT.out).mono ?_;rintro e w7 ⟨rfl,hg⟩;rw[H3.out];have HB7:=zH ((HB4.out.trans (HB6.out.mono HB4.out.size)).trans (aX hg HN.out (Nat.le_trans HB4.out.size HB6.out.size)));clear hg))
        go_ret
        exact⟨rfl,HB7.out⟩)
end
section
open Go.RowKit
open CD (OpP BodyP CodeP aj blAt fnAt)
theorem rF{q:CD.Cnt}{c:CodeP}(h:∀i,i<c.fs.length->CD.aK q c (fnAt c i))(r:Int):CD.paAt c r<=4096:=by
 unfold CD.paAt
 by_cases hr:r.toNat<c.fs.length
 ·have:=(h _ hr).1.1
  omega
 ·unfold fnAt
  rw[List.getElem?_eq_none (by omega)]
  show (0:Int)<=4096
  omega
theorem va_small{q:CD.Cnt}{c:CodeP}(hf:CD.Few c){i:Nat}(hi:i<c.fs.length)(h:CD.aK q c (fnAt c i)):(fnAt c i).va<=400:=by
 have h1:=h.2.2
 have h2:=CD.pf (fnAt c i) (fnAt c i).bs.length (Nat.le_refl _)
 have h3:=CD.gL c (show i+1<=c.fs.length by omega)
 rw[CD.fM hi] at h3
 have h4:=hf.all
 have h5:=h.1.1
 omega
def gz(pol:Bool)(q:CD.Cnt)(c:CodeP):Prop:=CD.fk pol q c/\∀i,i<c.fs.length->lr (fnAt c i)
set_option maxRecDepth 100000 in
set_option maxHeartbeats 3200000 in
theorem check_any(v0 v1 v2 v3 av fv:Value)(st:PSt)(S:List Int)(c:CodeP)(w:World)(hp:PolIn w v0 v1 v2 v3 st S)(hw:Wide S)(hTz:Tz w)(hT:ShT w)(hsh:Short6 st)(ha:bA w.heap.size w av c.ar)(hf:bh w.heap.size w fv c.fs)(hfew:CD.Few c)(hs:fm c) :
 Calls Tryz.prog 32 #[.agg #[v0,v1,v2,v3,.int .i64 st.D],.agg #[av,fv,.int .i64 c.mn0]] w fun e w'=>(∃(i at':Int) (k:Nat),e=.returned (.tuple #[.int .i64 i,.int .i64 at',.int .i64 k])/\(k=0↔gz (bg st S) (aE st c) c))/\Below w.heap.size w w':=by
 obtain⟨aa,ac,rfl⟩:=ha.form
 obtain⟨fa,fc,rfl⟩:=hf.form
 obtain⟨a0,k0,rfl⟩:=hp.s0.form
 obtain⟨a1,k1,rfl⟩:=hp.s1.form
 obtain⟨a2,k2,rfl⟩:=hp.s2.form
 obtain⟨a3,k3,rfl⟩:=hp.s3.form
 obtain⟨w2,ew2⟩:∃w2,w2=(w.alloc (.cells #[.slice a0 st.L.length k0,.slice a1 S.length k1,.slice a2 st.I.length k2,.slice a3 st.O.length k3,.int .i64 st.D] 26)).alloc (.cells #[.slice aa c.ar.length ac,.slice fa c.fs.length fc,.int .i64 c.mn0] 30):=⟨_,rfl⟩
 have hb2:Below w.heap.size w w2:=by rw[ew2];exact((Below.refl _ _).alloc (Nat.le_refl _) _).alloc (by simp) _
 have HB2:=zH hb2
 have hk5:w2.heap[w.heap.size]?=some (.cells #[.slice a0 st.L.length k0,.slice a1 S.length k1,.slice a2 st.I.length k2,.slice a3 st.O.length k3,.int .i64 st.D] 26):=by
  rw[ew2,Below.heap_alloc _ _ _ (by simp)];exact heap_alloc_new _ _
 have hk3:w2.heap[w.heap.size+1]?=some (.cells #[.slice aa c.ar.length ac,.slice fa c.fs.length fc,.int .i64 c.mn0] 30):=by
  have e:=heap_alloc_new (w.alloc (.cells #[.slice a0 st.L.length k0,.slice a1 S.length k1,.slice a2 st.I.length k2,.slice a3 st.O.length k3,.int .i64 st.D] 26)) (.cells #[.slice aa c.ar.length ac,.slice fa c.fs.length fc,.int .i64 c.mn0] 30)
  rw[World.size_alloc] at e
  rw[ew2];exact e
 have HNR:=zH (tG _ _ _ _ _ _ st S c w2 (hp.below hb2) hw (hTz.on hb2) (hT.on hb2) hsh ((ha.below hb2).mono hb2.size) ((hf.below hb2).mono hb2.size) hfew hs)
 obtain⟨p0,p1,p2,p3,p4⟩:=box5 hk5
 obtain⟨d0,d1,d2⟩:=box3 hk3
 have HK3:=zH hk3
 have HF:=zH hf
 have HFEW:=zH hfew
 have b2:(c.fs.length:Int)<=100:=by have:=hfew.f;omega
 obtain⟨z,ez⟩:∃z,z=CD.tf (CD.fk (bg st S) (aE st c) c):=⟨_,rfl⟩
 rw[<-ez] at HNR
 have HZ:=zH ez
 clear ez hp hw hTz hT hsh ha hf hfew hs hb2 hk5 hk3
 cases z
 ·have HNO:=zH (show ¬gz (bg st S) (aE st c) c from fun h=>CD.cZ HZ.out.symm h.1)
  go_enter Tryz.func32,Tryz.ntmps32
  go_wp2_with (go_at_call 57;rw[<-ew2];refine HNR.out.mono ?_;rintro e w3 ⟨rfl,hb3⟩)
  go_ret3
  exact⟨⟨0,0,1,rfl,⟨(fun h=>by cases h),(fun h=>absurd h HNO.out)⟩⟩,HB2.out.trans (hb3.mono HB2.out.size)⟩
 ·have HOK:=zH (CD.dU HZ.out.symm)
  go_enter Tryz.func32,Tryz.ntmps32
  go_upto_region 3 with(go_at_call 57;rw[<-ew2];refine HNR.out.mono ?_;rintro e w3 ⟨rfl,hb3⟩)
  have HB3:=zH (HB2.out.trans (hb3.mono HB2.out.size))
  have hk3':=(hb3.block _ (Array.getElem?_eq_some_iff.1 HK3.out).1).trans HK3.out
  obtain⟨u0,u1,u2⟩:=box3 hk3'
  clear hb3 hk3' p0 p1 p2 p3 p4 d0 d1 d2
  go_wp2_with fail
  go_loopw [18] (fun k wr=>∃i:Nat,i<=c.fs.length/\k=.int .i64 (i:Int)/\RowKit.Hid ((∀j,j<i->lr (fnAt c j))/\Below w.heap.size w wr)) (fun k _=>c.fs.length-(intOf k).toNat)
  case atStart=>exact⟨0,Nat.zero_le _,rfl,zH ⟨fun j hj=>absurd hj (Nat.not_lt_zero _),HB3.out⟩⟩
  case round =>
   clear u0 u1 u2
   obtain⟨w4,rfl⟩:∃w4,w4=wr:=⟨_,rfl⟩
   obtain⟨i,hi,rfl,HI⟩:=hrel
   by_cases hlt:i<c.fs.length
   ·obtain⟨blk,off,ba,bc,efa,hblk,f0,f1,f2,hbs⟩:=(HF.out.below HI.out.2).at hlt
    subst efa
    have i1:(0:Int)<=i/\(i:Int)<c.fs.length:=by omega
    have hbo:=HOK.out.2.2.2 i hlt
    have HLT:=zH hlt
    have hs4:=HI.out.2.size
    have HB5:=zH ((Below.refl w4.heap.size w4).alloc (Nat.le_refl _) (.cells #[.int .i64 (fnAt c i).pa,.int .i64 (fnAt c i).va,.slice ba (fnAt c i).bs.length bc] 52))
    have HFA:=zH (fault_any hbo (HFEW.out.l i hlt) (va_small HFEW.out hlt hbo) (rF (fun j hj=>HOK.out.2.2.2 j hj)) ba bc w.heap.size (w4.alloc (.cells #[.int .i64 (fnAt c i).pa,.int .i64 (fnAt c i).va,.slice ba (fnAt c i).bs.length bc] 52)) (by rw[World.size_alloc];omega) ((show aU w.heap.size w4 (.slice ba (fnAt c i).bs.length bc) (fnAt c i).bs from hbs).below (HB5.out.mono hs4)))
    replace f0:w4.cell? ⟨blk,off+i*3,none⟩=some (.int .i64 (fnAt c i).pa):=f0
    replace f1:w4.cell? ⟨blk,off+i*3+1,none⟩=some (.int .i64 (fnAt c i).va):=f1
    replace f2:w4.cell? ⟨blk,off+i*3+2,none⟩=some (.slice ba (fnAt c i).bs.length bc):=f2
    clear hbs hbo hlt
    go_upto_region 7 with(go_at_call 58;refine HFA.out.mono ?_;rintro e w5 ⟨⟨at5,k5,rfl,hk5⟩,hb5⟩)
    have HK5:=zH hk5
    have HB6:=zH (HI.out.2.trans ((HB5.out.trans (hb5.mono HB5.out.size)).mono hs4))
    clear hk5 hb5 f0 f1 f2
    by_cases hz:k5=0
    ·subst hz
     have HN:=zH (show ∀j,j<i+1->lr (fnAt c j) from fun j hj=>by
      by_cases e:j=i
      ·rw[e];exact HK5.out.1 rfl
      ·exact HI.out.1 j (by omega))
     go_wp2_with fail
     go_roundw
     case rel=>exact⟨i+1,HLT.out,by go_num,zH ⟨HN.out,HB6.out⟩⟩
     case measure=>have:=HLT.out;simp [intOf];omega
    ·have HZ5:=zH hz
     have hne:((k5:Int) != 0)=true:=by rw[bne_iff_ne];omega
     go_wp2_with fail
     go_ret3
     exact⟨⟨i,at5,k5,rfl,⟨fun h=>absurd h HZ5.out,fun h=>absurd (HK5.out.2 (h.2 i HLT.out)) HZ5.out⟩⟩,HB6.out⟩
   ·have ei:i=c.fs.length:=by omega
    subst ei
    go_wp2_with fail
    go_ret3
    exact⟨⟨0,0,0,rfl,⟨fun _=>⟨HOK.out,HI.out.1⟩,fun _=>rfl⟩⟩,HI.out.2⟩
set_option maxRecDepth 100000 in
set_option maxHeartbeats 3200000 in
theorem rG(v0 v1 v2 v3 av fv:Value)(st:PSt)(S:List Int)(c:CodeP)(w:World)(hp:PolIn w v0 v1 v2 v3 st S)(hw:Wide S)(hTz:Tz w)(hT:ShT w)(hsh:Short6 st)(ha:bA w.heap.size w av c.ar)(hf:bh w.heap.size w fv c.fs)(hfew:CD.Few c)(hs:fm c) :
 Calls Tryz.prog 16 #[.agg #[v0,v1,v2,v3,.int .i64 st.D],.agg #[av,fv,.int .i64 c.mn0]] w fun e w'=>e=.returned (.bool (CD.tf (gz (bg st S) (aE st c) c)))/\Below w.heap.size w w':=by
 obtain⟨aa,ac,rfl⟩:=ha.form
 obtain⟨fa,fc,rfl⟩:=hf.form
 obtain⟨a0,k0,rfl⟩:=hp.s0.form
 obtain⟨a1,k1,rfl⟩:=hp.s1.form
 obtain⟨a2,k2,rfl⟩:=hp.s2.form
 obtain⟨a3,k3,rfl⟩:=hp.s3.form
 obtain⟨w2,ew2⟩:∃w2,w2=(w.alloc (.cells #[.slice a0 st.L.length k0,.slice a1 S.length k1,.slice a2 st.I.length k2,.slice a3 st.O.length k3,.int .i64 st.D] 26)).alloc (.cells #[.slice aa c.ar.length ac,.slice fa c.fs.length fc,.int .i64 c.mn0] 30):=⟨_,rfl⟩
 have hb2:Below w.heap.size w w2:=by rw[ew2];exact((Below.refl _ _).alloc (Nat.le_refl _) _).alloc (by simp) _
 have HB2:=zH hb2
 have HCK:=zH (check_any _ _ _ _ _ _ st S c w2 (hp.below hb2) hw (hTz.on hb2) (hT.on hb2) hsh ((ha.below hb2).mono hb2.size) ((hf.below hb2).mono hb2.size) hfew hs)
 obtain⟨z,ez⟩:∃z,z=CD.tf (gz (bg st S) (aE st c) c):=⟨_,rfl⟩
 rw[<-ez]
 have HZ:=zH ez
 clear ez hp hw hTz hT hsh ha hf hfew hs hb2
 go_enter Tryz.func16,Tryz.ntmps16
 go_wp2_with (go_at_call 32;rw[<-ew2];refine HCK.out.mono ?_;rintro e w3 ⟨⟨i3,at3,k3',rfl,hk3⟩,hb3⟩;have HK3:=zH hk3;have HB3:=zH (HB2.out.trans (hb3.mono HB2.out.size));clear hk3 hb3)
 go_ret
 refine⟨?_,HB3.out⟩
 have e1:z=decide (k3'=0):=by
  rw[HZ.out]
  exact CD.nu (by rw[<-HK3.out];simp)
 rw[e1]
 by_cases h0:k3'=0
 ·subst h0;rfl
 ·have:((k3':Int) == 0)=false:=by rw[beq_eq_false_iff_ne];omega
  simp [h0,this]
end
section
open Go.RowKit
open CD (OpP BodyP CodeP aj blAt fnAt)
def kr(c:CodeP)(i:Nat):List (List Int):=(List.range i).map fun j=>ic (fnAt c j)
theorem tH(c:CodeP)(i:Nat):kr c (i+1)=kr c i ++ [ic (fnAt c i)]:=by unfold kr;rw[List.range_succ,List.map_append];rfl
theorem rowsU_len(c:CodeP)(i:Nat):(kr c i).length=i:=by unfold kr;rw[List.length_map,List.length_range]
theorem refs_in{pol:Bool}{q:CD.Cnt}{c:CodeP}(hq:q.fn=c.fs.length)(h:CD.fk pol q c){i:Nat}(hi:i<c.fs.length):∀x∈dN (fnAt c i),0<=x/\x<(c.fs.length:Nat):=by
 intro x hx
 obtain⟨k,j,hk,hj,h7,rfl⟩:=mem_refsB.1 hx
 have h1:=(((h.2.2.2 i hi).2.1 k hk).2 j hj).1.2.2.2.1
 rw[h7] at h1
 have h2:CD.refN q (fnAt c i).bs.length 7=c.fs.length:=by unfold CD.refN;simp [hq]
 rw[h2] at h1
 exact h1
theorem rowsU_all{pol:Bool}{q:CD.Cnt}{c:CodeP}(hq:q.fn=c.fs.length)(h:CD.fk pol q c):kr c c.fs.length=toC c:=by
 unfold kr toC
 exact List.map_congr_left fun i hi=>sS (refs_in hq h (List.mem_range.1 hi))
def CtoE(R:Prop)(c:CodeP)(e:Ending)(W:World):Prop:=(R->∃v,e=.returned (.tuple #[v,.int .i64 0])/\aq W.heap.size W v (toC c))/\(¬R->e=.returned (.tuple #[.slice none 0 0,.int .i64 1]))
theorem ctoE_yes{R:Prop}(h:R){c:CodeP}{v:Value}{W:World}(hg:aq W.heap.size W v (toC c)):CtoE R c (.returned (.tuple #[v,.int .i64 0])) W:=⟨fun _=>⟨v,rfl,hg⟩,fun g=>absurd h g⟩
theorem ctoE_no{R:Prop}(h:¬R){c:CodeP}{W:World}:CtoE R c (.returned (.tuple #[.slice none 0 0,.int .i64 1])) W:=⟨fun g=>absurd g h,fun _=>rfl⟩
set_option maxRecDepth 100000 in
set_option maxHeartbeats 6400000 in
theorem pQ(v0 v1 v2 v3 av fv:Value)(st:PSt)(S:List Int)(c:CodeP)(w:World)(hp:PolIn w v0 v1 v2 v3 st S)(hw:Wide S)(hTz:Tz w)(hT:ShT w)(hsh:Short6 st)(ha:bA w.heap.size w av c.ar)(hf:bh w.heap.size w fv c.fs)(hfew:CD.Few c)(hs:fm c) :
 Calls Tryz.prog 6 #[.agg #[v0,v1,v2,v3,.int .i64 st.D],.agg #[av,fv,.int .i64 c.mn0]] w fun e w'=>CtoE (gz (bg st S) (aE st c) c) c e w'/\Below w.heap.size w w':=by
 obtain⟨aa,ac,rfl⟩:=ha.form
 obtain⟨fa,fc,rfl⟩:=hf.form
 obtain⟨a0,k0,rfl⟩:=hp.s0.form
 obtain⟨a1,k1,rfl⟩:=hp.s1.form
 obtain⟨a2,k2,rfl⟩:=hp.s2.form
 obtain⟨a3,k3,rfl⟩:=hp.s3.form
 obtain⟨j0,hj0,hy0,hy1,hy2⟩:=info_parts Tryz.infoGRow
 have HBX:=zH (boxes2 w (.cells #[.slice a0 st.L.length k0,.slice a1 S.length k1,.slice a2 st.I.length k2,.slice a3 st.O.length k3,.int .i64 st.D] 26) (.cells #[.slice aa c.ar.length ac,.slice fa c.fs.length fc,.int .i64 c.mn0] 30))
 obtain⟨w2,ew2⟩:∃w2,w2=(w.alloc (.cells #[.slice a0 st.L.length k0,.slice a1 S.length k1,.slice a2 st.I.length k2,.slice a3 st.O.length k3,.int .i64 st.D] 26)).alloc (.cells #[.slice aa c.ar.length ac,.slice fa c.fs.length fc,.int .i64 c.mn0] 30):=⟨_,rfl⟩
 rw[<-ew2] at HBX
 have EW:=zH ew2
 have hb2:=HBX.out.2
 have HCK:=zH (rG _ _ _ _ _ _ st S c w2 (hp.below hb2) hw (hTz.on hb2) (hT.on hb2) hsh ((ha.below hb2).mono hb2.size) ((hf.below hb2).mono hb2.size) hfew hs)
 have HF2:=zH ((hf.below hb2).mono hb2.size)
 have HFEW:=zH hfew
 have HALL:=zH (fun(h:gz (bg st S) (aE st c) c)=>rowsU_all (q:=aE st c) rfl h.1)
 obtain⟨R,eR⟩:∃R,R=gz (bg st S) (aE st c) c:=⟨_,rfl⟩
 rw[<-eR] at HCK HALL ⊢
 obtain⟨p0,p1,p2,p3,p4⟩:=box5 HBX.out.1.1
 obtain⟨q0,q1,q2⟩:=box3 HBX.out.1.2
 clear hp hw hTz hT hsh ha hf hfew hs hb2 ew2 eR
 have hfl:c.fs.length<=100:=HFEW.out.f
 go_enter Tryz.func6,Tryz.ntmps6
 by_cases hR:R
 ·have HR:=zH hR
  rw[show CD.tf R=true from CD.nu (b:=true) ⟨fun _=>rfl,fun _=>hR⟩] at HCK
  clear hR
  go_wp2_with (go_at_call 16;rw[<-EW.out];refine HCK.out.mono ?_;rintro e w3 ⟨rfl,hb3⟩;have HB3:=zH hb3;obtain⟨r0,r1,r2⟩:=box3 (az hb3 HBX.out.1.2);clear hb3 p0 p1 p2 p3 p4 q0 q1 q2)
  have HF3:=zH ((HF2.out.below HB3.out).mono HB3.out.size)
  go_loopw [6,16] (fun s6 s16 wr=>∃(i:Nat) (vs:List Value),i<=c.fs.length/\s16=.int .i64 (i:Int)/\RowKit.Hid (wr.ownsRow w3.heap.size 54 1 s6 i vs/\GG.Rows w3.heap.size wr vs (kr c i)/\Below w3.heap.size w3 wr)) (fun _ s16 _=>c.fs.length-(intOf s16).toNat)
  case atStart=>exact⟨0,[],Nat.zero_le _,rfl,zH ⟨World.ownsRow_nil _ _ _ _,GG.Rows.nil _ _,Below.refl _ _⟩⟩
  case round =>
   obtain⟨w5,rfl⟩:∃w5,w5=wr:=⟨_,rfl⟩
   obtain⟨i,vs,hi,rfl,HI⟩:=hrel
   obtain⟨oa,oc,rfl⟩:=GG.aI HI.out.1
   by_cases hlt:i<c.fs.length
   ·have HLT:=zH hlt
    have HF5:=zH (HF3.out.below HI.out.2.2)
    obtain⟨blk,off,ba,bc,efa,hblk,f0,f1,f2,hbs⟩:=HF5.out.at hlt
    subst efa
    have HFN:=zH (show c.fs[i]?.getD CD.b0=fnAt c i from rfl)
    rw[HFN.out] at f0 f1 f2 hbs
    have hbl:=HFEW.out.b i hlt
    have HK:=zH (HFEW.out.l i hlt)
    have HUS:=zH (tH c i)
    obtain⟨b,eb⟩:∃b,b=fnAt c i:=⟨_,rfl⟩
    rw[<-eb] at f0 f1 f2 hbs hbl HK HUS
    have HBL:=zH hbl
    have HBS:=zH hbs
    have HS5:=zH HI.out.2.2.size
    have i1:(0:Int)<=i/\(i:Int)<c.fs.length:=by omega
    clear eb hlt hbs hbl
    obtain⟨w6,ew6⟩:∃w6,w6=w5.alloc (.cells #[.int .i64 b.pa,.int .i64 b.va,.slice ba b.bs.length bc] 52):=⟨_,rfl⟩
    have HB6:=zH (show Below w5.heap.size w5 w6 by rw[ew6];exact(Below.refl _ _).alloc (Nat.le_refl _) _)
    have HEW6:=zH ew6
    have HCA:=zH (tg b HK.out HBL.out ba bc w6 (Nat.le_trans HS5.out HB6.out.size) (HBS.out.below (HB6.out.mono HS5.out)))
    have HI6:=zH (show w6.ownsRow w3.heap.size 54 1 (.slice oa i oc) i vs/\GG.Rows w3.heap.size w6 vs (kr c i)/\Below w3.heap.size w3 w6 by rw[ew6];exact⟨HI.out.1.alloc _,HI.out.2.1.alloc _,HI.out.2.2.alloc HI.out.2.2.size _⟩)
    clear ew6
    go_wp2_with (first
     | (go_at_call 17
        rw[<-HEW6.out]
        refine HCA.out.mono ?_
        rintro e w7 ⟨u,rfl,hu,hb7⟩
        obtain⟨ua,uc,rfl⟩:=GG.aI hu
        have HN:=zH (NewRow.mk hb7 hu)
        have HSZ:=zH (show w3.heap.size<=w7.heap.size from Nat.le_trans HI6.out.2.2.size hb7.size)
        clear hu hb7 f0 f1 f2)
     | (at_builtin
        refine GG.wpList_append_any rfl _ _ 32 rfl w3.heap.size 54 j0 (.slice none 0 0) 1 24 Tryz.underlying32 hj0 hy0 hy1 hy2 rfl (by decide) (.slice oa i oc) i vs rfl ((HN.out.out HI6.out.1).alloc _) (.slice (some ⟨_,0,none⟩) 1 1) 1 [.slice ua (ic b).length uc] rfl rfl (.inr ⟨_,_,rfl,GG.aW _ _ _⟩) (by intro u hu;rw[List.mem_singleton.1 hu];rfl) (by unfold maxLen;omega) (by omega) (by have:=HSZ.out;simp;omega) ?_
        intro v8 w8 ho hg
        have HD:=zH (HN.out.app HI6.out.2.2 HI6.out.2.2.size HI6.out.2.1 HI6.out.1 ho hg)
        clear ho hg))
    go_roundw
    case rel=>exact⟨i+1,_,HLT.out,by go_num,zH ⟨HD.out.1,by rw[HUS.out];exact HD.out.2.1,HD.out.2.2⟩⟩
    case measure=>have:=HLT.out;simp [intOf];omega
   ·have ei:i=c.fs.length:=by omega
    subst ei
    have HG:=zH (show aq w5.heap.size w5 (.slice oa c.fs.length oc) (toC c) by
     have h:=HI.out.2.1.graph (v:=.slice oa c.fs.length oc) (by rw[rowsU_len];exact HI.out.1)
     rw[HALL.out HR.out] at h
     exact h)
    clear hlt
    go_wp2_with fail
    go_ret2
    exact⟨ctoE_yes HR.out HG.out,HBX.out.2.trans ((HB3.out.trans (HI.out.2.2.mono HB3.out.size)).mono HBX.out.2.size)⟩
 ·have HR:=zH hR
  rw[show CD.tf R=false from CD.nu (b:=false) ⟨fun h=>absurd h hR,fun h=>nomatch h⟩] at HCK
  clear hR
  go_wp2_with (go_at_call 16;rw[<-EW.out];refine HCK.out.mono ?_;rintro e w3 ⟨rfl,hb3⟩;have HB3:=zH (HBX.out.2.trans (hb3.mono HBX.out.2.size));clear hb3 p0 p1 p2 p3 p4 q0 q1 q2)
  go_ret2
  exact⟨ctoE_no HR.out,HB3.out⟩
end
section
open Go.RowKit
open CD (OpP BodyP CodeP aj blAt fnAt)
theorem ent_ge{tt:List (List Int)}{m:Int}{i:Nat}(hi:i<(entL tt m).length):-1<=(entL tt m)[i]?.getD 0:=by
 by_cases h:GG.al tt=true/\GG.inB tt.length m=true
 ·have e0:entL tt m=(List.range tt.length).map (aR tt m.toNat):=by unfold entL;rw[if_pos h]
  have hm:m.toNat<tt.length:=by
   have h2:=h.2
   unfold GG.inB at h2
   simp at h2
   omega
  rw[e0] at hi ⊢
  rw[List.length_map,List.length_range] at hi
  rw[List.getElem?_map,List.getElem?_range hi]
  simp only[Option.map_some,Option.getD_some]
  have s:=fB h.1 hm i hi
  by_cases z0:aR tt m.toNat i=0
  ·omega
  by_cases z1:aR tt m.toNat i = -1
  ·omega
  have:=(s.v z0 z1).1
  omega
 ·rw[show entL tt m=[] by unfold entL;rw[if_neg h]] at hi
  exact absurd hi (Nat.not_lt_zero _)
def CdeepE(R:Prop)(c:CodeP)(D:Int)(e:Ending)(W:World):Prop:=(R->∃v,e=.returned (.tuple #[v,.int .i64 0])/\BRow W.heap.size W v (fw c D))/\(¬R->e=.returned (.tuple #[.slice none 0 0,.int .i64 1]))
theorem tI{R:Prop}(h:R){c:CodeP}{D:Int}{v:Value}{W:World}(hg:BRow W.heap.size W v (fw c D)):CdeepE R c D (.returned (.tuple #[v,.int .i64 0])) W:=⟨fun _=>⟨v,rfl,hg⟩,fun g=>absurd h g⟩
theorem cdeepE_no{R:Prop}(h:¬R){c:CodeP}{D:Int}{W:World}:CdeepE R c D (.returned (.tuple #[.slice none 0 0,.int .i64 1])) W:=⟨fun g=>absurd g h,fun _=>rfl⟩
set_option maxRecDepth 100000 in
set_option maxHeartbeats 6400000 in
theorem oD(v0 v1 v2 v3 av fv:Value)(st:PSt)(S:List Int)(c:CodeP)(w:World)(hp:PolIn w v0 v1 v2 v3 st S)(hw:Wide S)(hTz:Tz w)(hT:ShT w)(hsh:Short6 st)(ha:bA w.heap.size w av c.ar)(hf:bh w.heap.size w fv c.fs)(hfew:CD.Few c)(hs:fm c) :
 Calls Tryz.prog 9 #[.agg #[v0,v1,v2,v3,.int .i64 st.D],.agg #[av,fv,.int .i64 c.mn0]] w fun e w'=>CdeepE (gz (bg st S) (aE st c) c) c st.D e w'/\Below w.heap.size w w':=by
 obtain⟨aa,ac,rfl⟩:=ha.form
 obtain⟨fa,fc,rfl⟩:=hf.form
 obtain⟨a0,k0,rfl⟩:=hp.s0.form
 obtain⟨a1,k1,rfl⟩:=hp.s1.form
 obtain⟨a2,k2,rfl⟩:=hp.s2.form
 obtain⟨a3,k3,rfl⟩:=hp.s3.form
 obtain⟨b0,hb0,hy0,hy1,hy2⟩:=info_parts Tryz.infoGBool
 have HBX:=zH (boxes2 w (.cells #[.slice a0 st.L.length k0,.slice a1 S.length k1,.slice a2 st.I.length k2,.slice a3 st.O.length k3,.int .i64 st.D] 26) (.cells #[.slice aa c.ar.length ac,.slice fa c.fs.length fc,.int .i64 c.mn0] 30))
 obtain⟨w2,ew2⟩:∃w2,w2=(w.alloc (.cells #[.slice a0 st.L.length k0,.slice a1 S.length k1,.slice a2 st.I.length k2,.slice a3 st.O.length k3,.int .i64 st.D] 26)).alloc (.cells #[.slice aa c.ar.length ac,.slice fa c.fs.length fc,.int .i64 c.mn0] 30):=⟨_,rfl⟩
 rw[<-ew2] at HBX
 have EW:=zH ew2
 have hb2:=HBX.out.2
 have HCK:=zH (pQ _ _ _ _ _ _ st S c w2 (hp.below hb2) hw (hTz.on hb2) (hT.on hb2) hsh ((ha.below hb2).mono hb2.size) ((hf.below hb2).mono hb2.size) hfew hs)
 have HSM:=zH (kO hfew.f)
 have hn:(entL (toC c) c.mn0).length<=100:=by have:=pO (toC c) c.mn0;rw[lC] at this;have:=hfew.f;omega
 have HGE:=zH (fun(i:Nat) (hi:i<(entL (toC c) c.mn0).length)=>ent_ge hi)
 obtain⟨xs,exs⟩:∃xs,xs=entL (toC c) c.mn0:=⟨_,rfl⟩
 have HXS:=zH exs
 rw[<-exs] at hn HGE
 have HDL:=zH (show fw c st.D=xs.map (gS st.D) by unfold fw;rw[<-exs])
 obtain⟨R,eR⟩:∃R,R=gz (bg st S) (aE st c) c:=⟨_,rfl⟩
 rw[<-eR] at HCK ⊢
 obtain⟨p0,p1,p2,p3,p4⟩:=box5 HBX.out.1.1
 obtain⟨q0,q1,q2⟩:=box3 HBX.out.1.2
 clear hp hw hTz hT hsh ha hf hfew hs hb2 ew2 eR exs
 go_enter Tryz.func9,Tryz.ntmps9
 by_cases hR:R
 ·have HR:=zH hR
  clear hR
  go_wp2_with (first
   | (go_at_call 6
      rw[<-EW.out]
      refine HCK.out.mono ?_
      rintro e w3 ⟨h3,hb3⟩
      obtain⟨tv,rfl,hg3⟩:=h3.1 HR.out
      obtain⟨ta,tc,etv⟩:=hg3.form
      subst etv
      have HB3:=zH hb3
      have HG3:=zH hg3
      obtain⟨r0,r1,r2⟩:=box3 (az hb3 HBX.out.1.2)
      clear hb3 h3 hg3 p0 p1 p2 p3 p4 q0 q1 q2)
   | (go_at_call 18
      refine(jZ c.mn0 _ HG3.out HSM.out).mono ?_
      rintro e w4 ⟨ev,rfl,hr4,hb4⟩
      rw[<-HXS.out] at hr4
      obtain⟨xa,xc,exv⟩:=hr4.form
      subst exv
      have HR4:=zH hr4
      have HB4:=zH (HB3.out.trans (hb4.mono HB3.out.size))
      clear hr4 hb4 r0 r1 r2))
  have HP:=zH (az HB4.out HBX.out.1.1)
  go_loopw [8,25] (fun s8 s25 wr=>∃i:Nat,i<=xs.length/\s25=.int .i64 (i:Int)/\RowKit.Hid (wr.ownsRow w4.heap.size 4 1 s8 i (bt (cF st.D xs i))/\Below w4.heap.size w4 wr)) (fun _ s25 _=>xs.length-(intOf s25).toNat)
  case atStart=>exact⟨0,Nat.zero_le _,rfl,zH ⟨World.ownsRow_nil _ _ _ _,Below.refl _ _⟩⟩
  case round =>
   obtain⟨w5,rfl⟩:∃w5,w5=wr:=⟨_,rfl⟩
   obtain⟨i,hi,rfl,HI⟩:=hrel
   obtain⟨oa,oc,rfl⟩:=GG.aI HI.out.1
   by_cases hlt:i<xs.length
   ·obtain⟨rb,ro,e1,hc⟩:=(HR4.out.below HI.out.2).cellAt hlt
    cases e1
    have HLT:=zH hlt
    have p4:w5.cell? ⟨w.heap.size,4,none⟩=some (.int .i64 st.D):=cell_of_row _ _ 4 _ _ _ (az HI.out.2 HP.out)
    have hge:=HGE.out i hlt
    have HOB:=zH (fun(Z:World) (v1:Value) (o:Obj) (ho:Z.ownsRow w4.heap.size 4 1 v1 (i+1) (bt (cF st.D xs i) ++ [.bool (gS st.D (xs[i]?.getD 0))])) (hg:(w5.alloc o).grownBy Z (Value.slice oa i oc).ownBlock)=>rp hlt HI.out.1 HI.out.2 HI.out.2.size ho hg)
    obtain⟨x,ex⟩:∃x,x=xs[i]?.getD 0:=⟨_,rfl⟩
    rw[<-ex] at hc HOB hge
    have i1:(0:Int)<=i/\(i:Int)<xs.length:=by omega
    have HS5:=zH HI.out.2.size
    obtain⟨z,ez⟩:∃z,z=gS st.D x:=⟨_,rfl⟩
    rw[<-ez] at HOB
    clear ex hlt
    by_cases h1:x = -1
    ·have t1:(x == -1)=true:=beq_iff_eq.2 h1
     have e1:z=true:=by rw[ez];exact decide_eq_true (.inl (by omega))
     subst e1
     clear ez h1 hge
     go_wp2_with (at_builtin
                  refine GG.wpList_append_any rfl _ _ 38 rfl w4.heap.size 4 b0 (.bool false) 1 1 Tryz.underlying38 hb0 hy0 hy1 hy2 rfl (by decide) (.slice oa i oc) i (bt (cF st.D xs i)) rfl (HI.out.1.alloc _) (.slice (some ⟨_,0,none⟩) 1 1) 1 [.bool true] rfl rfl (.inr ⟨_,_,rfl,GG.aW _ _ _⟩) (by intro u hu;rw[List.mem_singleton.1 hu];rfl) (by unfold maxLen;omega) (by omega) (by have:=HS5.out;simp;omega) ?_
                  intro v1 w7 ho hg
                  have HN:=zH (HOB.out w7 v1 _ ho hg)
                  clear ho hg)
     go_roundw
     case rel=>exact⟨i+1,HLT.out,by go_num,HN⟩
     case measure=>have:=HLT.out;simp [intOf];omega
    ·have t1:(x == -1)=false:=beq_eq_false_iff_ne.2 h1
     have t2:decide (st.D<=x)=z:=by
      rw[ez]
      unfold gS
      rw[decide_eq_decide]
      omega
     clear ez h1 hge
     go_wp2_with (at_builtin
                  refine GG.wpList_append_any rfl _ _ 38 rfl w4.heap.size 4 b0 (.bool false) 1 1 Tryz.underlying38 hb0 hy0 hy1 hy2 rfl (by decide) (.slice oa i oc) i (bt (cF st.D xs i)) rfl (HI.out.1.alloc _) (.slice (some ⟨_,0,none⟩) 1 1) 1 [.bool z] rfl rfl (.inr ⟨_,_,rfl,GG.aW _ _ _⟩) (by intro u hu;rw[List.mem_singleton.1 hu];rfl) (by unfold maxLen;omega) (by omega) (by have:=HS5.out;simp;omega) ?_
                  intro v1 w7 ho hg
                  have HN:=zH (HOB.out w7 v1 _ ho hg)
                  clear ho hg)
     go_roundw
     case rel=>exact⟨i+1,HLT.out,by go_num,HN⟩
     case measure=>have:=HLT.out;simp [intOf];omega
   ·have ei:i=xs.length:=by omega
    subst ei
    have HF:=zH (show BRow w5.heap.size w5 (.slice oa xs.length oc) (fw c st.D) by rw[HDL.out];have h:=aS HI.out.1;rw[mP] at h;exact h)
    clear hlt
    go_wp2_with fail
    go_ret2
    exact⟨tI HR.out HF.out,HBX.out.2.trans ((HB4.out.trans (HI.out.2.mono HB4.out.size)).mono HBX.out.2.size)⟩
 ·have HR:=zH hR
  clear hR
  go_wp2_with (go_at_call 6;rw[<-EW.out];refine HCK.out.mono ?_;rintro e w3 ⟨h3,hb3⟩;have e3:=h3.2 HR.out;subst e3;have HB3:=zH (HBX.out.2.trans (hb3.mono HBX.out.2.size));clear hb3 h3 p0 p1 p2 p3 p4 q0 q1 q2)
  go_ret2
  exact⟨cdeepE_no HR.out,HB3.out⟩
end
section
open Go.RowKit
open CD (OpP BodyP CodeP aj blAt fnAt)
def bK(T:TypeId->Prop)(A B:World):Prop:=∀(b:Nat) (cs:Array Value) (t:TypeId),A.heap[b]?=some (Obj.cells cs t (0,0))->T t->B.heap[b]?=A.heap[b]?
theorem bK.own{T:TypeId->Prop}{A B:World}(h:bK T A B){b0 e size n:Nat}{v:Value}{xs:List Value}(ht:T e)(ho:A.ownsRow b0 e size v n xs):B.ownsRow b0 e size v n xs :=
 CC.own_of_block ho fun k hk=>by
  obtain⟨_,_,c,hc⟩:=GG.own_block ho hk
  exact h k c e hc ht
theorem bK.trans{T:TypeId->Prop}{A B C:World}(h:bK T A B)(g:bK T B C):bK T A C:=fun b cs t e ht=>(g b cs t ((h b cs t e ht).trans e) ht).trans (h b cs t e ht)
theorem bK.below{T:TypeId->Prop}{A B:World}(h:Below A.heap.size A B):bK T A B:=fun b cs t e _=>h.block b (Array.getElem?_eq_some_iff.1 e).1
theorem bK.grown{T:TypeId->Prop}{A B:World}{b0 e size n:Nat}{v:Value}{xs:List Value}(hg:A.grownBy B v.ownBlock)(ho:A.ownsRow b0 e size v n xs)(ht:¬T e):bK T A B:=fun b cs t eb hb=>by
 refine hg.block b (Array.getElem?_eq_some_iff.1 eb).1 (fun ek=>?_)
 obtain⟨_,_,c,hc⟩:=GG.own_block ho ek.symm
 rw[hc] at eb
 cases eb
 exact ht hb
theorem bK.set{T:TypeId->Prop}{A:World}{g c:Nat}{cs:Array Value}{e:TypeId}(hg:A.heap[g]?=some (.cells cs e (0,0)))(ht:¬T e)(v:Value):bK T A (A.setCell ⟨g,c,none⟩ v):=fun b cs' t eb hb=>by
 refine Below.heap_setCell _ _ _ _ (fun ek=>?_)
 have ek':b=g:=ek
 subst ek'
 rw[hg] at eb
 cases eb
 exact ht hb
def de(size:Nat)(xs:List Value)(i:Nat)(cs:List Value):Prop:=∀c u,cs[c]?=some u->xs[i*size+c]?=some u
theorem de.app{size:Nat}{xs ys:List Value}{i:Nat}{cs:List Value}(h:de size xs i cs):de size (xs ++ ys) i cs:=fun c u hc=>by
 have h1:=h c u hc
 rw[List.getElem?_append_left (List.getElem?_eq_some_iff.1 h1).1]
 exact h1
theorem de.last{size n:Nat}{xs cs:List Value}(hx:xs.length=n*size):de size (xs ++ cs) n cs:=fun c u hc=>by
 rw[List.getElem?_append_right (by omega),show n*size+c-xs.length=c by omega]
 exact hc
theorem de.set_ne{size:Nat}{xs:List Value}{i k c:Nat}{cs:List Value}{v:Value}(h:de size xs i cs)(hl:cs.length<=size)(hc:c<size)(hne:i≠k):de size (xs.set (k*size+c) v) i cs:=fun c' u hc'=>by
 have hc2:=(List.getElem?_eq_some_iff.1 hc').1
 rw[List.getElem?_set_ne,h c' u hc']
 intro e
 have h1:(k*size+c) / size=k:=by rw[Nat.mul_comm,Nat.mul_add_div (by omega),Nat.div_eq_of_lt hc,Nat.add_zero]
 have h2:(i*size+c') / size=i:=by rw[Nat.mul_comm,Nat.mul_add_div (by omega),Nat.div_eq_of_lt (by omega),Nat.add_zero]
 rw[e,h2] at h1
 exact hne h1
theorem de.set_eq{size:Nat}{xs:List Value}{k c:Nat}{cs:List Value}{v:Value}(h:de size xs k cs):de size (xs.set (k*size+c) v) k (cs.set c v):=fun c' u hc'=>by
 by_cases e:c=c'
 ·subst e
  have hl:=(List.getElem?_eq_some_iff.1 hc').1
  rw[List.length_set] at hl
  rw[List.getElem?_set_self hl] at hc'
  cases hc'
  have h1:=h c _ (List.getElem?_eq_getElem hl)
  rw[List.getElem?_set_self (List.getElem?_eq_some_iff.1 h1).1]
 ·rw[List.getElem?_set_ne e] at hc'
  rw[List.getElem?_set_ne (by omega)]
  exact h c' u hc'
def io(size n:Nat)(f:Nat->List Value):List Value:=(List.range (n*size)).map fun j=>((f (j / size))[j % size]?).getD undef
theorem kT(size n:Nat)(f:Nat->List Value):(io size n f).length=n*size:=by unfold io;rw[List.length_map,List.length_range]
theorem rH{size n:Nat}{f:Nat->List Value}{i:Nat}(hi:i<n)(hl:(f i).length=size):de size (io size n f) i (f i):=fun c u hc=>by
 have hcs:c<size:=by rw[<-hl];exact(List.getElem?_eq_some_iff.1 hc).1
 have hlt:i*size+c<n*size:=by have:=Nat.mul_le_mul_right size hi;rw[Nat.succ_mul] at this;omega
 have h1:(i*size+c) / size=i:=by rw[Nat.mul_comm,Nat.mul_add_div (by omega),Nat.div_eq_of_lt hcs,Nat.add_zero]
 have h2:(i*size+c) % size=c:=by rw[Nat.mul_comm,Nat.mul_add_mod,Nat.mod_eq_of_lt hcs]
 unfold io
 rw[List.getElem?_map,List.getElem?_range hlt,Option.map_some,h1,h2,hc]
 rfl
theorem oE{size n:Nat}{f:Nat->List Value}(hs:0<size)(hl:∀i,i<n->(f i).length=size){j:Nat}{u:Value}(hj:(io size n f)[j]?=some u):∃i c,i<n/\j=i*size+c/\(f i)[c]?=some u:=by
 have hlt:=(List.getElem?_eq_some_iff.1 hj).1
 rw[kT] at hlt
 have hi:j / size<n:=(Nat.div_lt_iff_lt_mul hs).2 hlt
 unfold io at hj
 rw[List.getElem?_map,List.getElem?_range hlt,Option.map_some] at hj
 refine⟨j / size,j % size,hi,(Nat.div_add_mod' j size).symm,?_⟩
 have hm:j % size<(f (j / size)).length:=by rw[hl _ hi];exact Nat.mod_lt _ hs
 rw[List.getElem?_eq_getElem hm] at hj ⊢
 exact hj
def TI(W:World)(v:Value)(xs:List Int):Prop:=W.ownsRow 0 3 1 v xs.length (ap xs)
theorem TI.row{W:World}{v:Value}{xs:List Int}(h:TI W v xs):Row W.heap.size W v xs:=aS h
def TOps(W:World)(v:Value)(l:List OpP):Prop:=∃xs,W.ownsRow 0 56 9 v l.length xs/\∀i,i<l.length->∃xa xc ya yc,de 9 xs i (aF (opC (aj l i) xa xc ya yc))/\TI W (.slice xa (aj l i).xs.length xc) (aj l i).xs/\TI W (.slice ya (aj l i).ys.length yc) (aj l i).ys
def TBl(W:World)(v:Value)(bs:List (List OpP)):Prop:=∃us,W.ownsRow 0 53 1 v bs.length us/\∀j,j<bs.length->∃u,us[j]?=some u/\TOps W u (bs[j]?.getD [])
def TFn(W:World)(v:Value)(fs:List BodyP):Prop:=∃xs,W.ownsRow 0 52 3 v fs.length xs/\∀i,i<fs.length->∃ba bc,de 3 xs i (bodyC (fs[i]?.getD CD.b0) ba bc)/\TBl W (.slice ba (fs[i]?.getD CD.b0).bs.length bc) (fs[i]?.getD CD.b0).bs
def TPa(W:World)(v:Value)(l:List (Int × Int)):Prop:=∃xs,W.ownsRow 0 119 2 v l.length xs/\∀i,i<l.length->de 2 xs i [.int .i64 (l[i]?.getD (0,0)).1,.int .i64 (l[i]?.getD (0,0)).2]
def Done(t:TypeId):Prop:=t=3∨t=56∨t=53∨t=119
def oF(t:TypeId):Prop:=t=3∨t=56
theorem bK.weak{T T':TypeId->Prop}(h:∀t,T' t->T t){A B:World}(g:bK T A B):bK T' A B:=fun b cs t e ht=>g b cs t e (h t ht)
theorem oF.done{t:TypeId}(h:oF t):Done t:=h.elim .inl (fun h=>.inr (.inl h))
theorem TOps.kept{A B:World}(h:bK oF A B){v:Value}{l:List OpP}:TOps A v l->TOps B v l
 | ⟨xs,h1,h2⟩=>⟨xs,h.own (.inr rfl) h1,fun i hi=>by obtain⟨xa,xc,ya,yc,g1,g2,g3⟩:=h2 i hi;exact⟨xa,xc,ya,yc,g1,h.own (.inl rfl) g2,h.own (.inl rfl) g3⟩⟩
theorem TBl.kept{A B:World}(h:bK Done A B){v:Value}{bs:List (List OpP)}:TBl A v bs->TBl B v bs
 | ⟨us,h1,h2⟩=>⟨us,h.own (.inr (.inr (.inl rfl))) h1,fun j hj=>by obtain⟨u,e,g⟩:=h2 j hj;exact⟨u,e,g.kept (h.weak fun _=>oF.done)⟩⟩
theorem TPa.kept{A B:World}(h:bK Done A B){v:Value}{l:List (Int × Int)}:TPa A v l->TPa B v l
 | ⟨xs,h1,h2⟩=>⟨xs,h.own (.inr (.inr (.inr rfl))) h1,h2⟩
theorem jk{W:World}{b0 e size n:Nat}{v:Value}{xs:List Value}(h:W.ownsRow b0 e size v n xs) :
 ((∃a cap,v=.slice a 0 cap/\(a=none->cap=0))/\n=0)∨∃g cap,v=.slice (some ⟨g,0,none⟩) n cap/\g<W.heap.size/\∀i cs,de size xs i cs->∀c u,cs[c]?=some u->W.cell? ⟨g,0+i*size+c,none⟩=some u:=by
 have hlt:=h.lt
 obtain⟨a,cap,rfl⟩:=GG.aI h
 rcases h.2 with⟨h0,hn⟩ | ⟨g,cap',cur,h0,hb,hg,_⟩
 ·cases h0
  exact .inl ⟨⟨none,0,rfl,fun _=>rfl⟩,hn⟩
 ·cases h0
  refine .inr ⟨g,cap,rfl,(hlt g rfl).2,fun i cs hs c u hc=>?_⟩
  have h1:=hs c u hc
  have h2:=(List.getElem?_eq_some_iff.1 h1).1
  rw[h.1] at h2
  rw[Nat.zero_add,h.cellAt _ h2,h1]
theorem pick{α:Type}{n:Nat}{P:Nat->α->Prop}(d:α)(h:∀i,i<n->∃x,P i x):∃f:Nat->α,∀i,i<n->P i (f i) :=
 ⟨fun i=>if hi:i<n then (h i hi).choose else d,fun i hi=>by simp only[dif_pos hi];exact(h i hi).choose_spec⟩
theorem TOps.ops{W:World}{v:Value}{l:List OpP}(h:TOps W v l):OpsF W.heap.size W v l:=by
 obtain⟨xs,h1,h2⟩:=h
 obtain⟨f,hf⟩:=pick (α:=OpV) (n:=l.length) (P:=fun i x=>OpOf W.heap.size W x (aj l i)/\de 9 xs i (aF x)) (opC CD.o0 none 0 none 0) (fun i hi=>by
  obtain⟨xa,xc,ya,yc,g1,g2,g3⟩:=h2 i hi
  exact⟨_,⟨⟨rfl,rfl,rfl,rfl,rfl,rfl,rfl⟩,g2.row,g3.row⟩,g1⟩)
 have hat:∀i x,((List.range l.length).map f)[i]?=some x->i<l.length/\x=f i:=fun i x hx=>by
  have hi:=(List.getElem?_eq_some_iff.1 hx).1
  rw[List.length_map,List.length_range] at hi
  rw[List.getElem?_map,List.getElem?_range hi] at hx
  exact⟨hi,(Option.some.inj hx).symm⟩
 refine⟨(List.range l.length).map f,?_,by rw[List.length_map,List.length_range],fun i x hx=>?_⟩
 ·rcases jk h1 with⟨⟨a,cap,e,_⟩,hn⟩ | ⟨g,cap,e,hg,hc⟩
  ·exact .inl ⟨⟨a,cap,e⟩,by rw[hn];rfl⟩
  ·refine .inr ⟨g,0,cap,by rw[e,List.length_map,List.length_range],hg,fun j x hx c u hu=>?_⟩
   obtain⟨hj,rfl⟩:=hat j x hx
   exact hc j _ (hf j hj).2 c u hu
 ·obtain⟨hi,rfl⟩:=hat i x hx
  exact(hf i hi).1
theorem TBl.blocks{W:World}{v:Value}{bs:List (List OpP)}(h:TBl W v bs):aU W.heap.size W v bs:=by
 obtain⟨us,h1,h2⟩:=h
 obtain⟨f,hf⟩:=pick (α:=List OpV) (n:=bs.length) (P:=fun j ls=>∃u,us[j]?=some u/\Ops W.heap.size W u ls/\dV W.heap.size W ls (bs[j]?.getD [])) [] (fun j hj=>by
  obtain⟨u,e,g⟩:=h2 j hj
  obtain⟨vs,g1,g2⟩:=g.ops
  exact⟨vs,u,e,g1,g2⟩)
 have hat:∀j,j<bs.length->((List.range bs.length).map f)[j]?.getD []=f j:=fun j hj=>by
  rw[List.getElem?_map,List.getElem?_range hj];rfl
 have hul:us.length=bs.length:=by rw[h1.1,Nat.mul_one]
 refine⟨(List.range bs.length).map f,⟨us,aS h1,by rw[hul,List.length_map,List.length_range],fun j hj=>?_⟩,by rw[List.length_map,List.length_range],fun j hj=>?_⟩
 ·rw[List.length_map,List.length_range] at hj
  obtain⟨u,e,g,_⟩:=hf j hj
  exact⟨u,e,by rw[hat j hj];exact g⟩
 ·rw[hat j hj]
  exact(hf j hj).choose_spec.2.2
theorem TFn.funcs{W:World}{v:Value}{fs:List BodyP}(h:TFn W v fs):bh W.heap.size W v fs:=by
 obtain⟨xs,h1,h2⟩:=h
 rcases jk h1 with⟨⟨a,cap,e,_⟩,hn⟩ | ⟨g,cap,e,hg,hc⟩
 ·exact .inl ⟨⟨a,cap,e⟩,List.length_eq_zero_iff.1 hn⟩
 ·refine .inr ⟨g,0,cap,e,hg,fun i hi=>?_⟩
  obtain⟨ba,bc,g1,g2⟩:=h2 i hi
  exact⟨ba,bc,fun c u hu=>hc i _ g1 c u hu,g2.blocks⟩
theorem TPa.pairs{W:World}{v:Value}{l:List (Int × Int)}(h:TPa W v l):bA W.heap.size W v l:=by
 obtain⟨xs,h1,h2⟩:=h
 rcases jk h1 with⟨⟨a,cap,e,h0⟩,hn⟩ | ⟨g,cap,e,hg,hc⟩
 ·exact .inl ⟨⟨a,cap,e,h0⟩,List.length_eq_zero_iff.1 hn⟩
 ·exact .inr ⟨g,0,cap,e,hg,fun i hi=>⟨hc i _ (h2 i hi) 0 _ rfl,hc i _ (h2 i hi) 1 _ rfl⟩⟩
theorem bA.src{n₀:Nat}{W:World}{v:Value}{l:List (Int × Int)}(h:bA n₀ W v l) :
 ∃news,news.length=l.length*2/\(∀u∈news,u.oneCell'=true)/\(∀i,i<l.length->de 2 news i [.int .i64 (l[i]?.getD (0,0)).1,.int .i64 (l[i]?.getD (0,0)).2])/\(v=.slice none 0 0/\l.length=0∨∃ad c,v=.slice (some ad) l.length c/\∀j u,news[j]?=some u->W.cell? (ad.add j)=some u):=by
 have hinv:=fun j u (hj:(io 2 l.length fun i=>[Value.int .i64 (l[i]?.getD (0,0)).1,.int .i64 (l[i]?.getD (0,0)).2])[j]?=some u)=>oE (size:=2) (by decide) (fun i _=>rfl) hj
 refine⟨io 2 l.length fun i=>[.int .i64 (l[i]?.getD (0,0)).1,.int .i64 (l[i]?.getD (0,0)).2],kT _ _ _,fun u hu=>?_,fun i hi=>rH hi rfl,?_⟩
 ·obtain⟨j,hj,e⟩:=List.getElem_of_mem hu
  obtain⟨i,c,_,_,hc⟩:=hinv j u (by rw[List.getElem?_eq_getElem hj,e])
  rcases List.mem_of_getElem? hc with _ | ⟨_,_ | ⟨_,h0⟩⟩
  ·rfl
  ·rfl
  ·cases h0
 ·rcases h with⟨⟨a,cap,e,hn⟩,h0⟩ | ⟨blk,off,cap,e,hb,hc⟩
  ·subst h0
   cases a with
   | none=>exact .inl ⟨by rw[e,hn rfl],rfl⟩
   | some ad=>exact .inr ⟨ad,cap,e,fun j u hj=>by simp [io] at hj⟩
  ·refine .inr ⟨_,cap,e,fun j u hj=>?_⟩
   obtain⟨i,c,hi,rfl,hcc⟩:=hinv j u hj
   rw[Addr.add_lit]
   match c,hcc with
   | 0,hcc=>cases hcc;rw[Nat.add_zero];exact(hc i hi).1
   | 1,hcc=>cases hcc;rw[<-Nat.add_assoc];exact(hc i hi).2
   | c+2,hcc=>cases hcc
theorem OpsF.src{n₀:Nat}{W:World}{v:Value}{l:List OpP}(h:OpsF n₀ W v l) :
 ∃news,news.length=l.length*9/\(∀u∈news,u.oneCell'=true)/\(∀i,i<l.length->∃xa xc ya yc,de 9 news i (aF (opC (aj l i) xa xc ya yc))/\Row n₀ W (.slice xa (aj l i).xs.length xc) (aj l i).xs/\Row n₀ W (.slice ya (aj l i).ys.length yc) (aj l i).ys)/\((∃c,v=.slice none 0 c/\l.length=0)∨∃ad c,v=.slice (some ad) l.length c/\∀j u,news[j]?=some u->W.cell? (ad.add j)=some u):=by
 obtain⟨vs,h1,h2,h3⟩:=h
 have hvs:∀i,i<l.length->vs[i]?=some (vs[i]?.getD (opC CD.o0 none 0 none 0)):=fun i hi=>by rw[List.getElem?_eq_getElem (by omega)];rfl
 have hinv:=fun j u (hj:(io 9 l.length fun i=>aF (vs[i]?.getD (opC CD.o0 none 0 none 0)))[j]?=some u)=>oE (size:=9) (by decide) (fun i _=>rfl) hj
 refine⟨io 9 l.length fun i=>aF (vs[i]?.getD (opC CD.o0 none 0 none 0)),kT _ _ _,fun u hu=>?_,fun i hi=>?_,?_⟩
 ·obtain⟨j,hj,e⟩:=List.getElem_of_mem hu
  obtain⟨i,c,_,_,hc⟩:=hinv j u (by rw[List.getElem?_eq_getElem hj,e])
  exact Array.all_eq_true_iff_forall_mem.1 (fj _) u (List.mem_toArray.2 (List.mem_of_getElem? hc))
 ·obtain⟨xa,xc,ya,yc,e,g1,g2⟩:=(h3 i _ (hvs i hi)).form
  refine⟨xa,xc,ya,yc,?_,g1,g2⟩
  rw[<-e]
  exact rH (f:=fun i=>aF (vs[i]?.getD (opC CD.o0 none 0 none 0))) hi rfl
 ·rcases h1 with⟨⟨a,cap,e⟩,h0⟩ | ⟨blk,off,cap,e,hb,hc⟩
  ·have hl0:l.length=0:=by rw[<-h2,h0];rfl
   cases a with
   | none=>exact .inl ⟨cap,e,hl0⟩
   | some ad=>exact .inr ⟨ad,cap,by rw[hl0];exact e,fun j u hj=>by rw[hl0] at hj;simp [io] at hj⟩
  ·refine .inr ⟨_,cap,by rw[<-h2];exact e,fun j u hj=>?_⟩
   obtain⟨i,c,hi,rfl,hcc⟩:=hinv j u hj
   rw[Addr.add_lit,<-Nat.add_assoc]
   exact hc i _ (hvs i hi) c u hcc
end
section
open Go.RowKit
open CD (OpP BodyP CodeP aj blAt fnAt)
section
variable {P:Program} {w:World}
theorem iq(base:Nat)(t ty e:TypeId)(i:TypeInfo)(size c0:Nat)(ht:P.underlying t=some (.slice e))(hi:P.info? e=some i)
 (v:Value) (n:Nat) (xs:List Value) (hown:w.ownsRow base e size v n xs) :
 (Builtin.append_ #[t,t] ty #[v,.slice none 0 c0]).run P w=.ok v w:=by
 rcases hown.2 with⟨rfl,rfl⟩ | ⟨g,cap,cur,rfl,_,_,hnc,_⟩
 ·simp [Builtin.append_,run_underlying ht,sizeOf,typeInfo,hi,Builtin.lenOf,Builtin.firstCells]
 ·simp [Builtin.append_,run_underlying ht,sizeOf,typeInfo,hi,Builtin.lenOf,Builtin.firstCells,hnc,storeCells]
theorem jF{ops:Array Oper}{rest:List Oper}{o:Oper}{a:Act}{Q:Exit->Act->World->Prop}(hgd:o.guard=none)(s x:Operand)(t:TypeId)
 (ho:o.op=.call { callee:=.builtin .append,args:=#[s,x],argTypes:=#[t,t] })
 (base:Nat) (e:TypeId) (i:TypeInfo) (z:Value) (size bytes:Nat) (ht:P.underlying t=some (.slice e)) (hi:P.info? e=some i) (hz:i.zero=some z)
 (hsize:i.size=size) (hby:i.bytes=bytes) (hzs:z.cells.size=size) (hsz:0<size)
 (v:Value) (n:Nat) (xs:List Value) (hs:a.eval s=v) (hown:w.ownsRow base e size v n xs)
 (xv:Value) (m:Nat) (news:List Value) (hx:a.eval x=xv) (hl:news.length=m*size)
 (hsrc:(∃c,xv=.slice none 0 c/\m=0)∨∃ad c,xv=.slice (some ad) m c/\∀j u,news[j]?=some u->w.cell? (ad.add j)=some u) (h1:∀u∈news,u.oneCell'=true)
 (h63:n+m<=maxLen) (hbytes:(n+m)*bytes<=140737488355328) (hbase:base<=w.heap.size)
 (h:∀v' w',w'.ownsRow base e size v' (n+m) (xs ++ news)->w.grownBy w' v.ownBlock->wpList P ops Q rest (a.put o.dst v') w') :
 wpList P ops Q (o :: rest) a w:=by
 rcases hsrc with⟨c0,rfl,rfl⟩ | ⟨ad,c,rfl,hn⟩
 ·have hn:news=[]:=List.eq_nil_of_length_eq_zero (by simpa using hl)
  subst hn
  have hr:=iq (P:=P) (w:=w) base t o.type e i size c0 ht hi v n xs hown
  refine wpList_plain hgd fun K hK=>?_
  unfold Oper.wp execOp
  simp only[ho,resolve,invoke,builtin,Sem.run_bind,Sem.run_pure,Result.andThen_ok,List.map_toArray,List.map_cons,List.map_nil,hs,hx,hr]
  exact hK _ _ (h v w (by simpa using hown) ⟨rfl,rfl,rfl,Nat.le_refl _,fun _ _ _=>rfl⟩)
 ·exact wpList_append_own w hgd s x t ho base e i z size bytes ht hi hz hsize hby hzs hsz v n xs hs hown ad m c news hx hl hn h1 h63 hbytes hbase (fun v' w' p1 p2 _=>h v' w' p1 p2)
end
structure OpsK (B n₀:Nat) (w5:World) (l:List OpP) (v:Value) (k5 k6:Nat) (W:World):Prop where
 own:∃xs,W.ownsRow B 56 9 v l.length xs/\∀i,i<l.length->∃xa xc ya yc,de 9 xs i (aF (opC (aj l i) xa xc ya yc))/\(i<k5->TI W (.slice xa (aj l i).xs.length xc) (aj l i).xs)/\(k5<=i->Row n₀ W (.slice xa (aj l i).xs.length xc) (aj l i).xs)/\(i<k6->TI W (.slice ya (aj l i).ys.length yc) (aj l i).ys)/\(k6<=i->Row n₀ W (.slice ya (aj l i).ys.length yc) (aj l i).ys)
 below:Below B w5 W
 le:n₀<=B
 sz:B<=w5.heap.size
theorem OpsK.ops{B n₀ k5 k6:Nat}{w5 W:World}{l:List OpP}{v:Value}(h:OpsK B n₀ w5 l v k5 k6 W)(h5:l.length<=k5)(h6:l.length<=k6):TOps W v l:=by
 obtain⟨xs,h1,h2⟩:=h.own
 refine⟨xs,dQ (Nat.zero_le _) h1,fun i hi=>?_⟩
 obtain⟨xa,xc,ya,yc,g0,g1,_,g3,_⟩:=h2 i hi
 exact⟨xa,xc,ya,yc,g0,g1 (by omega),g3 (by omega)⟩
theorem OpsK.cell{B n₀ k5 k6:Nat}{w5 W:World}{l:List OpP}{a:Option Addr}{n cap:Nat}(h:OpsK B n₀ w5 l (.slice a n cap) k5 k6 W){i:Nat}(hi:i<l.length) :
 ∃g xa xc ya yc,a=some ⟨g,0,none⟩/\g<W.heap.size/\W.cell? ⟨g,i*9+5,none⟩=some (.slice xa (aj l i).xs.length xc)/\W.cell? ⟨g,i*9+6,none⟩=some (.slice ya (aj l i).ys.length yc)/\(k5<=i->Row n₀ W (.slice xa (aj l i).xs.length xc) (aj l i).xs)/\(k6<=i->Row n₀ W (.slice ya (aj l i).ys.length yc) (aj l i).ys)/\(∀j,W.frozen? ⟨g,j,none⟩=false):=by
 obtain⟨xs,h1,h2⟩:=h.own
 obtain⟨xa,xc,ya,yc,g0,_,g2,_,g4⟩:=h2 i hi
 rcases jk h1 with⟨_,hn⟩ | ⟨g,cap',e,hg,hc⟩
 ·omega
 ·cases e
  have c5:=hc i _ g0 5 _ rfl
  have c6:=hc i _ g0 6 _ rfl
  rw[Nat.zero_add] at c5 c6
  exact⟨g,xa,xc,ya,yc,rfl,hg,c5,c6,g2,g4,fun j=>h1.frozenAt j⟩
theorem ops_put{B:Nat}{W w':World}{g n cap k c:Nat}{xs:List Value}{ys:List Int}{v':Value}(hO:W.ownsRow B 56 9 (.slice (some ⟨g,0,none⟩) n cap) n xs)(hs:B<=W.heap.size)
 (ho:w'.ownsRow W.heap.size 3 1 v' ys.length (ap ys)) (hg:(W.alloc (.cells #[] 3)).grownBy w' (Value.slice (some ⟨W.heap.size,0,none⟩) 0 0).ownBlock) :
 Below B W (w'.setCell ⟨g,k*9+c,none⟩ v')/\(w'.setCell ⟨g,k*9+c,none⟩ v').ownsRow B 56 9 (.slice (some ⟨g,0,none⟩) n cap) n (xs.set (k*9+c) v')/\(∀u zs,TI W u zs->TI (w'.setCell ⟨g,k*9+c,none⟩ v') u zs)/\TI (w'.setCell ⟨g,k*9+c,none⟩ v') v' ys:=by
 have hgB:=(hO.lt g rfl).1
 have hb1:Below W.heap.size W w':=((Below.refl _ _).alloc (Nat.le_refl _) _).grown hg (by simp) (fun k e=>by cases e;exact Nat.le_refl _)
 have hO1:w'.ownsRow B 56 9 (.slice (some ⟨g,0,none⟩) n cap) n xs:=CC.own_of_block hO (fun k e=>hb1.block k (hO.lt k e).2)
 obtain⟨_,_,cs,hcs⟩:=GG.own_block hO1 rfl
 have hk:bK (fun t=>t=3) w' (w'.setCell ⟨g,k*9+c,none⟩ v'):=bK.set hcs (by decide) _
 have ho0:TI w' v' ys:=by
  exact dQ (Nat.zero_le _) ho
 exact⟨(hb1.mono hs).setCell (p:=⟨g,k*9+c,none⟩) hgB _,(hO1.stored _ _).1,fun u zs h=>hk.own rfl (CC.own_of_block h (fun k e=>hb1.block k (h.lt k e).2)),hk.own rfl ho0⟩
theorem OpsK.put5{B n₀ k k6:Nat}{w5 W w':World}{l:List OpP}{g cap:Nat}{v':Value}(h:OpsK B n₀ w5 l (.slice (some ⟨g,0,none⟩) l.length cap) k k6 W)
 (ho:w'.ownsRow W.heap.size 3 1 v' (aj l k).xs.length (ap (aj l k).xs)) (hg:(W.alloc (.cells #[] 3)).grownBy w' (Value.slice (some ⟨W.heap.size,0,none⟩) 0 0).ownBlock) :
 OpsK B n₀ w5 l (.slice (some ⟨g,0,none⟩) l.length cap) (k+1) k6 (w'.setCell ⟨g,k*9+5,none⟩ v'):=by
 obtain⟨xs,h1,h2⟩:=h.own
 obtain⟨hb,hO,hT,hV⟩:=ops_put (k:=k) (c:=5) h1 (Nat.le_trans h.sz h.below.size) ho hg
 obtain⟨pa,pc,ev⟩:=GG.aI hV
 refine⟨⟨_,hO,fun i hi=>?_⟩,h.below.trans hb,h.le,h.sz⟩
 obtain⟨xa,xc,ya,yc,g0,g1,g2,g3,g4⟩:=h2 i hi
 by_cases e:i=k
 ·subst e
  subst ev
  exact⟨pa,pc,ya,yc,g0.set_eq,fun _=>hV,fun h=>absurd h (by omega),fun h=>hT _ _ (g3 h),fun h=>(g4 h).below (hb.mono ‹OpsK B n₀ w5 l _ _ _ W›.le)⟩
 ·exact⟨xa,xc,ya,yc,g0.set_ne (Nat.le_refl _) (by decide) e,fun h=>hT _ _ (g1 (by omega)),fun h=>(g2 (by omega)).below (hb.mono ‹OpsK B n₀ w5 l _ _ _ W›.le),fun h=>hT _ _ (g3 h),fun h=>(g4 h).below (hb.mono ‹OpsK B n₀ w5 l _ _ _ W›.le)⟩
theorem OpsK.put6{B n₀ k k5:Nat}{w5 W w':World}{l:List OpP}{g cap:Nat}{v':Value}(h:OpsK B n₀ w5 l (.slice (some ⟨g,0,none⟩) l.length cap) k5 k W)
 (ho:w'.ownsRow W.heap.size 3 1 v' (aj l k).ys.length (ap (aj l k).ys)) (hg:(W.alloc (.cells #[] 3)).grownBy w' (Value.slice (some ⟨W.heap.size,0,none⟩) 0 0).ownBlock) :
 OpsK B n₀ w5 l (.slice (some ⟨g,0,none⟩) l.length cap) k5 (k+1) (w'.setCell ⟨g,k*9+6,none⟩ v'):=by
 obtain⟨xs,h1,h2⟩:=h.own
 obtain⟨hb,hO,hT,hV⟩:=ops_put (k:=k) (c:=6) h1 (Nat.le_trans h.sz h.below.size) ho hg
 obtain⟨pa,pc,ev⟩:=GG.aI hV
 refine⟨⟨_,hO,fun i hi=>?_⟩,h.below.trans hb,h.le,h.sz⟩
 obtain⟨xa,xc,ya,yc,g0,g1,g2,g3,g4⟩:=h2 i hi
 by_cases e:i=k
 ·subst e
  subst ev
  exact⟨xa,xc,pa,pc,g0.set_eq,fun h=>hT _ _ (g1 h),fun h=>(g2 h).below (hb.mono ‹OpsK B n₀ w5 l _ _ _ W›.le),fun _=>hV,fun h=>absurd h (by omega)⟩
 ·exact⟨xa,xc,ya,yc,g0.set_ne (Nat.le_refl _) (by decide) e,fun h=>hT _ _ (g1 h),fun h=>(g2 h).below (hb.mono ‹OpsK B n₀ w5 l _ _ _ W›.le),fun h=>hT _ _ (g3 (by omega)),fun h=>(g4 (by omega)).below (hb.mono ‹OpsK B n₀ w5 l _ _ _ W›.le)⟩
theorem OpsK.start{n₀:Nat}{w5 w6:World}{l:List OpP}{v':Value}{news:List Value}(hn:n₀<=w5.heap.size)
 (h:∀i,i<l.length->∃xa xc ya yc,de 9 news i (aF (opC (aj l i) xa xc ya yc))/\Row n₀ (w5.alloc (.cells #[] 56)) (.slice xa (aj l i).xs.length xc) (aj l i).xs/\Row n₀ (w5.alloc (.cells #[] 56)) (.slice ya (aj l i).ys.length yc) (aj l i).ys)
 (ho:w6.ownsRow w5.heap.size 56 9 v' l.length news) (hg:(w5.alloc (.cells #[] 56)).grownBy w6 (Value.slice (some ⟨w5.heap.size,0,none⟩) 0 0).ownBlock) :
 OpsK w5.heap.size n₀ w5 l v' 0 0 w6:=by
 have hb1:Below w5.heap.size w5 w6:=((Below.refl _ _).alloc (Nat.le_refl _) _).grown hg (by simp) (fun k e=>by cases e;exact Nat.le_refl _)
 refine⟨⟨news,ho,fun i hi=>?_⟩,hb1,hn,Nat.le_refl _⟩
 have hb2:Below n₀ (w5.alloc (.cells #[] 56)) w6:=(Below.refl _ _).grown hg (by simp;omega) (fun k e=>by cases e;exact hn)
 obtain⟨xa,xc,ya,yc,g0,g1,g2⟩:=h i hi
 exact⟨xa,xc,ya,yc,g0,fun h=>absurd h (Nat.not_lt_zero _),fun _=>g1.below hb2,fun h=>absurd h (Nat.not_lt_zero _),fun _=>g2.below hb2⟩
structure BlJ (B:Nat) (w3:World) (bs:List (List OpP)) (v:Value) (j:Nat) (us:List Value) (W:World):Prop where
 own:W.ownsRow B 53 1 v j us
 each:∀i,i<j->∃u,us[i]?=some u/\TOps W u (bs[i]?.getD [])
 below:Below B w3 W
 sz:B<=w3.heap.size
theorem BlJ.next{B j:Nat}{w3 w5 w6 w7:World}{bs:List (List OpP)}{v lv v7:Value}{us:List Value}(h:BlJ B w3 bs v j us w5)(hb:Below w5.heap.size w5 w6)(hl:TOps w6 lv (bs[j]?.getD []))
 (ho:w7.ownsRow B 53 1 v7 (j+1) (us ++ [lv])) (hg:(w6.alloc (.cells #[lv] 53)).grownBy w7 v.ownBlock):BlJ B w3 bs v7 (j+1) (us ++ [lv]) w7:=by
 have hO6:(w6.alloc (.cells #[lv] 53)).ownsRow B 53 1 v j us:=(CC.own_of_block h.own (fun k e=>hb.block k (h.own.lt k e).2)).alloc _
 have k1:bK oF w6 w7:=(bK.below ((Below.refl _ _).alloc (Nat.le_refl _) _)).trans (bK.grown hg hO6 (by unfold oF;decide))
 have hul:us.length=j:=by rw[h.own.1,Nat.mul_one]
 refine⟨ho,fun i hi=>?_,?_,h.sz⟩
 ·by_cases e:i<j
  ·obtain⟨u,e1,g⟩:=h.each i e
   exact⟨u,by rw[List.getElem?_append_left (by omega)];exact e1,(g.kept (bK.below hb)).kept k1⟩
  ·have e2:i=j:=by omega
   subst e2
   exact⟨lv,by rw[List.getElem?_append_right (by omega),hul,Nat.sub_self];rfl,hl.kept k1⟩
 ·have hs6:=Nat.le_trans (Nat.le_trans h.sz h.below.size) hb.size
  exact((h.below.trans (hb.mono (Nat.le_trans h.sz h.below.size))).alloc hs6 _).grown hg (by simp;omega) (fun k e=>(h.own.lt k e).1)
theorem BlJ.bl{B:Nat}{w3 W:World}{bs:List (List OpP)}{v:Value}{us:List Value}(h:BlJ B w3 bs v bs.length us W):TBl W v bs:=⟨us,dQ (Nat.zero_le _) h.own,h.each⟩
end
end Go.Proofs.YtjngffgkllakaaaGreatDoor
