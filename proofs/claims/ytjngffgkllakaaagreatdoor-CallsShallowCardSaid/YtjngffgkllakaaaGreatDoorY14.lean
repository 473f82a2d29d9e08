/- A part of a proof: laws that the last text uses. -/
import Derived.Test.YtjngffgkllakaaaGreatDoorY02
import Derived.Test.YtjngffgkllakaaaGreatDoorY03
import Derived.Test.YtjngffgkllakaaaGreatDoorY07
import Derived.Test.YtjngffgkllakaaaGreatDoorY08
import Derived.Test.YtjngffgkllakaaaGreatDoorY13
import Derived.Deep.DeepCutAuto
import Derived.StillTailTactics
import Derived.Test.YtjngffgkllakaaaGreatDoorRows
import Derived.LaidSub
import Derived.LaidMore
import Derived.Lib.LaidTab
import Derived.Lib.ItoaNum
import Derived.WalkKit
import Derived.WalkSmall
import Derived.Lib.LaidU8
import Derived.Deep.Slices
import Derived.Lib.SmallJoins
import Derived.OpenShut
import Derived.ChangeArms
import Derived.ChangeSlices
import Derived.ChangeSame
import Derived.SizedLaws
import Derived.Deep.Matrix
set_option linter.unusedSimpArgs false
set_option linter.unusedVariables false
namespace Go.Proofs.YtjngffgkllakaaaGreatDoor.IP
open List renaming getElem_toArray → zA, getElem_cons_succ → zB, getElem_cons_zero → zC, setIfInBounds_toArray → zD, set_cons_zero → zE, set_cons_succ → zF
open Lib renaming hid → zH
section
open Go.RowKit
open CD (OpP BodyP CodeP ae blAt fnAt)
def RunE(w:World)(e:Ending)(w':World):Prop:=∃(s n f:Int) (ea:Option Addr) (en ec:Nat),e=.returned (.tuple #[.agg #[.int .i64 s,.int .i64 n,.slice ea en ec],.int .i64 f])/\(f=0->s≠22)/\Below w.heap.size w w'
theorem lN{w w':World}{f:Int}(hf:f≠0)(hb:Below w.heap.size w w'):RunE w (.returned (.tuple #[.agg #[.int .i64 0,.int .i64 0,.slice none 0 0],.int .i64 f])) w':=⟨0,0,f,_,_,_,rfl,fun h=>absurd h hf,hb⟩
theorem runE_ok{w w':World}{s n:Int}{ea:Option Addr}{en ec:Nat}(hs:s≠22)(hb:Below w.heap.size w w'):RunE w (.returned (.tuple #[.agg #[.int .i64 s,.int .i64 n,.slice ea en ec],.int .i64 0])) w':=⟨s,n,0,ea,en,ec,rfl,fun _=>hs,hb⟩
theorem RunE.of{w w':World}{e:Ending}(h:RunE w e w'):∃(s n f:Int) (ea:Option Addr) (en ec:Nat),e=.returned (.tuple #[.agg #[.int .i64 s,.int .i64 n,.slice ea en ec],.int .i64 f])/\(f=0->s≠22)/\Below w.heap.size w w':=h
structure RunK (K:Kst) (kb B0:Nat) (D:Int) (c:CodeP) (z:Int) (mf:Nat) (W:World):Prop where
 m:Mach K mf W W [] 0 0
 ok:KOk K
 kb:K.kb=kb
 fuel:K.fuel=z
 B0:K.B0=B0
 nf:K.nf=c.fs.length
 D:(K.D:Int)=D
 refs:∀f,f<K.nf->K.refs f=cl (fnAt c f)
theorem tabq_mono{B B':Nat}{W:World}{rb n:Nat}{vs:Nat->Value}{rows:Nat->List Int}(h:TabQ B W rb n vs rows)(hB:B'<=B):TabQ B' W rb n vs rows:=⟨Nat.le_trans hB h.base,h.tab,fun j hj=>(h.rows j hj).lower hB⟩
theorem ip(D:Int)(n:Nat)(h0:0<=D)(hD:D<=1000)(hn:n<=100000)(W:World) :
 Calls Tryz.prog 28 #[.int .i64 D,.int .i64 n] W fun e w'=>∃v rs,e=.returned v/\ix W.heap.size w' v (List.replicate D.toNat n) rs/\Below W.heap.size W w':=by
 obtain⟨d,rfl⟩:∃d:Nat,D=(d:Int):=⟨D.toNat,by omega⟩
 rw[Int.toNat_natCast]
 exact rooms_any d n (by omega) hn W
theorem boxes3(w:World)(o1 o2 o3:Obj):((((w.alloc o1).alloc o2).alloc o3).heap[w.heap.size]?=some o1/\(((w.alloc o1).alloc o2).alloc o3).heap[w.heap.size+1]?=some o2/\(((w.alloc o1).alloc o2).alloc o3).heap[w.heap.size+1+1]?=some o3)/\Below w.heap.size w (((w.alloc o1).alloc o2).alloc o3):=by
 have h:=boxes2 w o1 o2
 have h3:=heap_alloc_new ((w.alloc o1).alloc o2) o3
 rw[World.size_alloc,World.size_alloc] at h3
 exact⟨⟨du h.1.1 o3,du h.1.2 o3,h3⟩,h.2.alloc (by simp;omega) _⟩
theorem EnterE.first{K:Kst}{mf:Nat}{W:World}{st:Int}{m n:Nat}{e:Ending}{w':World}(h:EnterE K mf W [] st m n e w')(hD:0<K.D):e=.returned (.tuple #[])/\∃fb,Mach K mf W w' ([] ++ [⟨n,0,0,fb⟩]) st m:=by
 rcases h with⟨h1,_⟩ | ⟨_,h2,h3⟩
 ·simp at h1;omega
 ·exact⟨h2,h3⟩
set_option maxRecDepth 100000 in
set_option maxHeartbeats 12800000 in
theorem run_any(v0 v1 v2 v3 av fv iv:Value)(st:PSt)(S:List Int)(c:CodeP)(A:List (List Int))(z:Int)(w:World)(hp:PolIn w v0 v1 v2 v3 st S)(hw:Wide S)(hTz:Tz w)(hT:ShT w)(hsh:Short6 st)(ha:bK w.heap.size w av c.ar)(hf:bh w.heap.size w fv c.fs)(hfew:CD.Few c)(hs:fd c)(hA:az w.heap.size w iv A)(hx:cd A)(hz:z<=1048576)(hR:gj (aS st S) (bI st c) c)
 (hl:∀i k j,i<c.fs.length->k<(fnAt c i).bs.length->j<(blAt (fnAt c i) k).length->¬((gP c st.D)[i]?.getD false=true/\(ae (blAt (fnAt c i) k) j).k=7)) :
 Calls Tryz.prog 15 #[.agg #[v0,v1,v2,v3,.int .i64 st.D],.agg #[av,fv,.int .i64 c.mn0],iv,.int .i64 z] w fun e w'=>RunE w e w':=by
 obtain⟨aa,ac,rfl⟩:=ha.form
 obtain⟨fa,fc,rfl⟩:=hf.form
 obtain⟨a0,k0,rfl⟩:=hp.s0.form
 obtain⟨a1,k1,rfl⟩:=hp.s1.form
 obtain⟨a2,k2,rfl⟩:=hp.s2.form
 obtain⟨a3,k3,rfl⟩:=hp.s3.form
 obtain⟨ia,ic,rfl⟩:=hA.form
 have HBX:=zH (boxes3 w (.cells #[.slice a0 st.L.length k0,.slice a1 S.length k1,.slice a2 st.I.length k2,.slice a3 st.O.length k3,.int .i64 st.D] 26) (.cells #[.slice aa c.ar.length ac,.slice fa c.fs.length fc,.int .i64 c.mn0] 30) (.cells #[.int .i64 0,.int .i64 0,.slice none 0 0] 59))
 obtain⟨w2,ew2⟩:∃w2,w2=((w.alloc (.cells #[.slice a0 st.L.length k0,.slice a1 S.length k1,.slice a2 st.I.length k2,.slice a3 st.O.length k3,.int .i64 st.D] 26)).alloc (.cells #[.slice aa c.ar.length ac,.slice fa c.fs.length fc,.int .i64 c.mn0] 30)).alloc (.cells #[.int .i64 0,.int .i64 0,.slice none 0 0] 59):=⟨_,rfl⟩
 rw[<-ew2] at HBX
 have EW:=zH ew2
 have HUP:=zH (fun(V:World) (hV:Below w2.heap.size w2 V)=>HBX.out.2.trans (hV.mono HBX.out.2.size))
 have HPO:=zH (fun(V:World) (hV:Below w2.heap.size w2 V)=>hp.below (HUP.out V hV))
 have HAR:=zH (fun(V:World) (hV:Below w2.heap.size w2 V)=>(ha.below (HUP.out V hV)).mono (HUP.out V hV).size)
 have HFU:=zH (fun(V:World) (hV:Below w2.heap.size w2 V)=>(hf.below (HUP.out V hV)).mono (HUP.out V hV).size)
 have HCF:=zH (fun(V:World) (hV:Below w2.heap.size w2 V)=>(show CodeF w2.heap.size V (.slice aa c.ar.length ac) (.slice fa c.fs.length fc) c from⟨(ha.below (HUP.out V hV)).mono HBX.out.2.size,(hf.below (HUP.out V hV)).mono HBX.out.2.size⟩))
 have HGA:=zH (fun(V:World) (hV:Below w2.heap.size w2 V)=>(hA.below (HUP.out V hV)).mono (HUP.out V hV).size)
 have HTZ:=zH (fun(V:World) (hV:Below w2.heap.size w2 V)=>hTz.on (HUP.out V hV))
 have HSH:=zH (fun(V:World) (hV:Below w2.heap.size w2 V)=>hT.on (HUP.out V hV))
 have HBP:=zH (fun(V:World) (hV:Below w2.heap.size w2 V)=>box5 (eS hV HBX.out.1.1))
 have HBC:=zH (fun(V:World) (hV:Below w2.heap.size w2 V)=>box3 (eS hV HBX.out.1.2.1))
 have HRES:=zH (fun(V:World) (hV:Below w2.heap.size w2 V)=>eS hV HBX.out.1.2.2)
 have H0:=zH (Below.refl w2.heap.size w2)
 have HW:=zH hw
 have HS6:=zH hsh
 have HSM:=zH hs
 have HFEW:=zH hfew
 have HX:=zH hx
 have HR:=zH hR
 have HL:=zH hl
 have HZ:=zH hz
 have hcok:=hR.1
 have hrp:aS st S=true:=hcok.1.1
 have hDD:1<=st.D/\st.D<=64:=by
  have h:=hrp
  unfold aS at h
  simp only[Bool.and_eq_true,decide_eq_true_eq] at h
  exact h.1.1.1.1.1
 have hI32:=(kh hrp).2.2.1
 have HDD:=zH hDD
 have HI32:=zH hI32
 have HCOK:=zH hcok
 obtain⟨mf,hmf⟩:∃mf:Nat,c.mn0=(mf:Int):=⟨c.mn0.toNat,by have:=hcok.2.2.1.1;omega⟩
 have HMF:=zH hmf
 have HMN:=zH (show mf<c.fs.length by have:=hcok.2.2.1.1;omega)
 have hvas:=zH (fun(i:Nat) (hi:i<c.fs.length)=>qp hfew hi (hcok.2.2.2 i hi))
 clear hp hw hTz hT hsh ha hf hfew hs hA hx hR hl hrp hDD hI32 hcok hmf ew2
 obtain⟨p0,p1,p2,p3,p4⟩:=HBP.out _ H0.out
 obtain⟨q0,q1,q2⟩:=HBC.out _ H0.out
 have HRIGHT:=zH (km _ _ _ _ _ _ st S c w2 (HPO.out _ H0.out) HW.out (HTZ.out _ H0.out) (HSH.out _ H0.out) HS6.out (HAR.out _ H0.out) (HFU.out _ H0.out) HFEW.out HSM.out)
 rw[CD.cA HR.out] at HRIGHT
 by_cases hz0:z<0
 ·have t1:decide (z<0)=true:=decide_eq_true hz0
  clear hz0 hz
  go_enter Tryz.func15,Tryz.ntmps15
  go_upto_region 1 with fail
  rw[<-EW.out]
  obtain⟨s0,s1,s2⟩:=obj3 (set_obj (c:=2) (.slice none 0 0) (set_obj (c:=1) (.int .i64 0) (set_obj (c:=0) (.int .i64 0) (HRES.out _ H0.out))))
  obtain⟨r0,r1,r2⟩:=obj3 (HRES.out _ H0.out)
  have f0:=aj (k:=0) (HRES.out _ H0.out)
  have f1:=aj (k:=1) (HRES.out _ H0.out)
  have f2:=aj (k:=2) (HRES.out _ H0.out)
  have HS:=zH (And.intro s0 (And.intro s1 s2))
  clear s0 s1 s2
  go_wp2_with fail
  obtain⟨s0,s1,s2⟩:=HS.out
  refine bodyPost_ret (v:=.tuple #[.agg #[.int .i64 0,.int .i64 0,.slice none 0 0],.int .i64 1]) (by simp [results,Tryz.results15,go_sem,s0,s1,s2]) rfl ?_
  exact lN (by decide) (((((HUP.out _ H0.out)).setCell (p:=⟨w.heap.size+1+1,0,none⟩) (by simp;omega) _).setCell (p:=⟨w.heap.size+1+1,1,none⟩) (by simp;omega) _).setCell (p:=⟨w.heap.size+1+1,2,none⟩) (by simp;omega) _)
 ·have t1:decide (z<0)=false:=decide_eq_false hz0
  have t2:decide (1048576<z)=false:=decide_eq_false (by omega)
  have HZ0:=zH (show 0<=z by omega)
  clear hz0 hz
  go_enter Tryz.func15,Tryz.ntmps15
  go_upto_region 1 with fail
  rw[<-EW.out]
  go_wp2_with fail
  refine HRIGHT.out.mono ?_
  rintro e w3 ⟨rfl,hb3⟩
  have HB3:=zH hb3
  clear hb3 p0 p1 p2 p3 p4 q0 q1 q2
  obtain⟨p0,p1,p2,p3,p4⟩:=HBP.out _ HB3.out
  obtain⟨q0,q1,q2⟩:=HBC.out _ HB3.out
  have HPL:=zH (ry c _ _ w3 ⟨HAR.out _ HB3.out,HFU.out _ HB3.out⟩ (codeS_of HFEW.out))
  go_wp2_with fail
  refine HPL.out.mono ?_
  rintro e w4 ⟨zb,rfl,hb4⟩
  have HB4:=zH (bstep HB3.out hb4)
  clear hb4 p0 p1 p2 p3 p4 q0 q1 q2 HPL
  obtain⟨p0,p1,p2,p3,p4⟩:=HBP.out _ HB4.out
  cases zb
  ·skip
   obtain⟨s0,s1,s2⟩:=obj3 (set_obj (c:=2) (.slice none 0 0) (set_obj (c:=1) (.int .i64 0) (set_obj (c:=0) (.int .i64 0) (HRES.out _ HB4.out))))
   obtain⟨r0,r1,r2⟩:=obj3 (HRES.out _ HB4.out)
   have f0:=aj (k:=0) (HRES.out _ HB4.out)
   have f1:=aj (k:=1) (HRES.out _ HB4.out)
   have f2:=aj (k:=2) (HRES.out _ HB4.out)
   have HS:=zH (And.intro s0 (And.intro s1 s2))
   clear s0 s1 s2
   go_wp2_with fail
   obtain⟨s0,s1,s2⟩:=HS.out
   refine bodyPost_ret (v:=.tuple #[.agg #[.int .i64 0,.int .i64 0,.slice none 0 0],.int .i64 1]) (by simp [results,Tryz.results15,go_sem,s0,s1,s2]) rfl ?_
   exact lN (by decide) (((((HUP.out _ HB4.out)).setCell (p:=⟨w.heap.size+1+1,0,none⟩) (by simp;omega) _).setCell (p:=⟨w.heap.size+1+1,1,none⟩) (by simp;omega) _).setCell (p:=⟨w.heap.size+1+1,2,none⟩) (by simp;omega) _)
  ·have HQN:=zH (qnew_any _ _ _ _ st S _ A w4 (HPO.out _ HB4.out) HW.out (HTZ.out _ HB4.out) HS6.out (HGA.out _ HB4.out) HX.out)
   go_wp2_with fail
   refine HQN.out.mono ?_
   intro e w5 hE5
   obtain⟨hb5,⟨_,kb,rb,vs,rfl,hkb,hbx,htq⟩ | ⟨_,rfl⟩⟩:=hE5
   case inr =>
    have HB5:=zH (bstep HB4.out hb5)
    clear hb5 p0 p1 p2 p3 p4
    obtain⟨s0,s1,s2⟩:=obj3 (set_obj (c:=2) (.slice none 0 0) (set_obj (c:=1) (.int .i64 0) (set_obj (c:=0) (.int .i64 0) (HRES.out _ HB5.out))))
    obtain⟨r0,r1,r2⟩:=obj3 (HRES.out _ HB5.out)
    have f0:=aj (k:=0) (HRES.out _ HB5.out)
    have f1:=aj (k:=1) (HRES.out _ HB5.out)
    have f2:=aj (k:=2) (HRES.out _ HB5.out)
    have HS:=zH (And.intro s0 (And.intro s1 s2))
    clear s0 s1 s2
    go_wp2_with fail
    obtain⟨s0,s1,s2⟩:=HS.out
    refine bodyPost_ret (v:=.tuple #[.agg #[.int .i64 0,.int .i64 0,.slice none 0 0],.int .i64 1]) (by simp [results,Tryz.results15,go_sem,s0,s1,s2]) rfl ?_
    exact lN (by decide) (((((HUP.out _ HB5.out)).setCell (p:=⟨w.heap.size+1+1,0,none⟩) (by simp;omega) _).setCell (p:=⟨w.heap.size+1+1,1,none⟩) (by simp;omega) _).setCell (p:=⟨w.heap.size+1+1,2,none⟩) (by simp;omega) _)
   case inl =>
    have HB5:=zH (bstep HB4.out hb5)
    have HBOX:=zH hbx
    have HTQ:=zH htq
    have HKB:=zH (Nat.le_trans HB4.out.size hkb)
    have HRBK:=zH (Nat.le_trans HB4.out.size htq.base)
    clear hb5 hbx htq hkb p0 p1 p2 p3 p4 HQN
    obtain⟨q0,q1,q2⟩:=HBC.out _ HB5.out
    have HWI:=zH (rx c _ _ w5 ⟨HAR.out _ HB5.out,HFU.out _ HB5.out⟩ (by have:=HFEW.out.f;omega) 400 (fun i hi=>hvas.out i hi))
    go_wp2_with fail
    refine HWI.out.mono ?_
    rintro e w6 ⟨M,rfl,hM,hva,hb6⟩
    have HB6:=zH (bstep HB5.out hb6)
    have HB56:=zH hb6
    have HM:=zH hM
    have HVA:=zH hva
    clear hb6 hva q0 q1 q2 HWI
    have HBX6:=zH (show BoxB w6 kb rb st.I.length st.O.length st.L.length (.slice none 0 0) from(HB56.out.block _ HBOX.out.lt).trans HBOX.out)
    have HTQ6:=zH ((HTQ.out.on HB56.out))
    have HRB5:=zH (show rb<w6.heap.size from Nat.lt_of_lt_of_le HTQ.out.lt HB56.out.size)
    have hmk:=run_make_row' (P:=Tryz.prog) 49 2 (.int .i64 0) 8 (by kernel_rfl) Tryz.infoQInt rfl .i64 .i64 M (by omega) (by omega)
    obtain⟨p0,p1,p2,p3,p4⟩:=HBP.out _ HB6.out
    obtain⟨q0,q1,q2⟩:=HBC.out _ HB6.out
    have HKS:=zH (show ∀V,Below w6.heap.size w6 V->(fun V:World=>Below w6.heap.size w6 V/\V.cell? ⟨w.heap.size+1,0,none⟩=some (.slice aa c.ar.length ac)/\V.cell? ⟨w.heap.size+1,1,none⟩=some (.slice fa c.fs.length fc)/\V.cell? ⟨w.heap.size+1,2,none⟩=some (.int .i64 c.mn0)/\V.cell? ⟨w.heap.size,4,none⟩=some (.int .i64 st.D)) V from fun V hV=>⟨hV,aK hV q0,aK hV q1,aK hV q2,aK hV p4⟩)
    clear p0 p1 p2 p3
    go_upto_region 7 with fail
    go_cut [13] (fun s13 w9=>(∃K:Kst,s13=.pointer (some ⟨K.Rb,0,none⟩)/\RunK K kb w2.heap.size st.D c z mf w9)/\Below w6.heap.size w6 w9)
    case first =>
     refine wp_region_held_drew (S:=(fun V:World=>Below w6.heap.size w6 V/\V.cell? ⟨w.heap.size+1,0,none⟩=some (.slice aa c.ar.length ac)/\V.cell? ⟨w.heap.size+1,1,none⟩=some (.slice fa c.fs.length fc)/\V.cell? ⟨w.heap.size+1,2,none⟩=some (.int .i64 c.mn0)/\V.cell? ⟨w.heap.size,4,none⟩=some (.int .i64 st.D))) (by kernel_rfl) ?_ (fun hHeld=>?_)
     ·exact HKS.out _ (show Below w6.heap.size w6 w6.drew from⟨rfl,rfl,rfl,Nat.le_refl _,fun _ _=>rfl⟩)
     refine tkV 0 (.agg #[.slice aa c.ar.length ac,.slice fa c.fs.length fc,.int .i64 c.mn0]) rfl (fun W hSW=>?_) hHeld ?_
     ·((try dsimp only at hSW);go_split_ands;go_simp <;> with_reducible rfl)
     try simp only[zA,zB,zC,Act.put,zD,zE,zF]
     refine tkV 2 (.pointer (some ⟨w.heap.size+1,0,none⟩)) rfl (fun W hSW=>?_) hHeld ?_
     ·((try dsimp only at hSW);go_split_ands;go_simp <;> with_reducible rfl)
     try simp only[zA,zB,zC,Act.put,zD,zE,zF]
     refine tkV 3 (.slice aa c.ar.length ac) rfl (fun W hSW=>?_) hHeld ?_
     ·((try dsimp only at hSW);go_split_ands;go_simp <;> with_reducible rfl)
     try simp only[zA,zB,zC,Act.put,zD,zE,zF]
     refine tkV 5 (.pointer (some ⟨kb,0,none⟩)) rfl (fun W hSW=>?_) hHeld ?_
     ·((try dsimp only at hSW);go_split_ands;go_simp <;> with_reducible rfl)
     try simp only[zA,zB,zC,Act.put,zD,zE,zF]
     refine tkV 6 (.int .i64 z) rfl (fun W hSW=>?_) hHeld ?_
     ·((try dsimp only at hSW);go_split_ands;go_simp <;> with_reducible rfl)
     try simp only[zA,zB,zC,Act.put,zD,zE,zF]
     refine tkV 7 (.pointer (some ⟨w.heap.size,4,none⟩)) rfl (fun W hSW=>?_) hHeld ?_
     ·((try dsimp only at hSW);go_split_ands;go_simp <;> with_reducible rfl)
     try simp only[zA,zB,zC,Act.put,zD,zE,zF]
     refine tkV 8 (.int .i64 st.D) rfl (fun W hSW=>?_) hHeld ?_
     ·((try dsimp only at hSW);go_split_ands;go_simp <;> with_reducible rfl)
     try simp only[zA,zB,zC,Act.put,zD,zE,zF]
     refine tkV 9 (.int .i64 M) rfl (fun W hSW=>?_) hHeld ?_
     ·((try dsimp only at hSW);go_split_ands;go_simp <;> with_reducible rfl)
     try simp only[zA,zB,zC,Act.put,zD,zE,zF]
     refine tkV 11 (.int .i64 M) rfl (fun W hSW=>?_) hHeld ?_
     ·((try dsimp only at hSW);go_split_ands;go_simp <;> with_reducible rfl)
     try simp only[zA,zB,zC,Act.put,zD,zE,zF]
     refine wpAnyH_ready (rs:=[1,12]) (by kernel_rfl) (by simp) ?_
     refine AllReadyH.cons rfl (fun KK hKK=>?_) (AllReadyH.cons rfl (fun KK hKK=>?_) (AllReadyH.nil))
     ·try simp only[zA,zB,zC]
      go_simp
      (go_at_call 26;refine(iy (qq HR.out HFEW.out) _ _ _ (Nat.le_trans HB6.out.size hHeld.1.size) (HCF.out _ (bstep HB6.out hHeld.1))).mono ?_;rintro e y1 ⟨gv,us,bs,len,xs,rfl,hof,hvf,hb1⟩;obtain⟨ga,gc,rfl⟩:=GG.ap hof;have HOF:=zH hof;have HVF:=zH hvf;have HNF:=zH (Nat.le_trans HB6.out.size (Nat.le_trans hHeld.1.size hb1.size));clear hof hvf)
      try go_wp2_with fail
      refine hKK.out _ _ ?_ (fun hHeld=>?_)
      ·exact HKS.out _ (hHeld.1.trans (hb1.mono hHeld.1.size))
      clear hKK KK
      try simp only[zA,zB,zC,Act.put,zD,zE,zF]
      have HY1:=zH hb1
      clear hb1
      refine wpAnyH_ready (rs:=[4,12]) (by kernel_rfl) (by simp) ?_
      refine AllReadyH.cons rfl (fun KK hKK=>?_) (AllReadyH.cons rfl (fun KK hKK=>?_) (AllReadyH.nil))
      ·try simp only[zA,zB,zC]
       go_simp
       (go_at_call 27;refine(jK c.ar (by have:=HFEW.out.a;omega) (fun i hi=>by have h1:=(HCOK.out.2.1 i hi).1;omega) _ _ _ _ (HAR.out _ (bstep HB6.out hHeld.1))).mono ?_;rintro e y2 ⟨zv,ars,rfl,hnz,hb2⟩;obtain⟨za,zc,ez⟩:=GG.ap hnz.1;rw[List.length_map] at ez;subst ez;have HNZ:=zH hnz;have HGZ:=zH hHeld.1.size;clear hnz)
       try go_wp2_with fail
       refine hKK.out _ _ ?_ (fun hHeld=>?_)
       ·exact HKS.out _ (hHeld.1.trans (hb2.mono hHeld.1.size))
       clear hKK KK
       try simp only[zA,zB,zC,Act.put,zD,zE,zF]
       have HY2:=zH hb2
       clear hb2
       refine wpAnyH_ready (rs:=[10,12]) (by kernel_rfl) (by simp) ?_
       refine AllReadyH.cons rfl (fun KK hKK=>?_) (AllReadyH.cons rfl (fun KK hKK=>?_) (AllReadyH.nil))
       ·try simp only[zA,zB,zC]
        go_simp
        (go_at_call 28;refine(ip st.D M (by have:=HDD.out.1;omega) (by have:=HDD.out.2;omega) (by have:=HM.out;omega) _).mono ?_;rintro e y3 ⟨rv,rrs,rfl,hnr,hb3⟩;obtain⟨ra,rc,ez⟩:=GG.ap hnr.1;rw[List.length_replicate] at ez;subst ez;have HNR:=zH hnr;have HGR:=zH hHeld.1.size;clear hnr)
        try go_wp2_with fail
        refine hKK.out _ _ ?_ (fun hHeld=>?_)
        ·exact HKS.out _ (hHeld.1.trans (hb3.mono hHeld.1.size))
        clear hKK KK
        try simp only[zA,zB,zC,Act.put,zD,zE,zF]
        have HY3:=zH hb3
        clear hb3
        refine wpAnyH_ready (rs:=[12]) (by kernel_rfl) (by simp) ?_
        refine AllReadyH.cons rfl (fun KK hKK=>?_) (AllReadyH.nil)
        try simp only[zA,zB,zC]
        go_simp
        obtain⟨y4,ey⟩:∃y,y=World.alloc y3 (.cells (madeCells #[.int .i64 0] M) 2):=⟨_,rfl⟩
        rw[<-ey]
        have hb4:Below y3.heap.size y3 y4:=by rw[ey];exact(Below.refl _ _).alloc (Nat.le_refl _) _
        have HTK:=zH (show NumV w2.heap.size y4 (.slice (some ⟨y3.heap.size,0,none⟩) M M) M by rw[ey];exact fx _ _ M (Nat.le_trans HB6.out.size hHeld.1.size))
        clear ey
        refine hKK.out _ _ ?_ (fun hHeld=>?_)
        ·exact HKS.out _ (hHeld.1.trans (hb4.mono hHeld.1.size))
        clear hKK KK
        try simp only[zA,zB,zC,Act.put,zD,zE,zF]
        have HY4:=zH hb4
        clear hb4
        refine tkV 13 (.agg #[.slice ga c.fs.length gc,.slice za c.ar.length zc,.pointer (some ⟨kb,0,none⟩),.slice none 0 0,.slice ra st.D.toNat rc,.slice (some ⟨y3.heap.size,0,none⟩) M M,.int .i64 z,.int .i64 0]) rfl (fun W hSW=>?_) hHeld ?_
        ·((try dsimp only at hSW);go_split_ands;go_simp <;> with_reducible rfl)
        try simp only[zA,zB,zC,Act.put,zD,zE,zF]
        refine wpAnyH_ready (rs:=[14]) (by kernel_rfl) (by simp) ?_
        refine AllReadyH.cons rfl (fun KK hKK=>?_) (AllReadyH.nil)
        try simp only[zA,zB,zC]
        go_simp
        obtain⟨y5,ey⟩:∃y,y=y4.alloc (.cells #[.slice ga c.fs.length gc,.slice za c.ar.length zc,.pointer (some ⟨kb,0,none⟩),.slice none 0 0,.slice ra st.D.toNat rc,.slice (some ⟨y3.heap.size,0,none⟩) M M,.int .i64 z,.int .i64 0] 81):=⟨_,rfl⟩
        rw[<-ey]
        have HY5:=zH (show Below y4.heap.size y4 y5 by rw[ey];exact(Below.refl _ _).alloc (Nat.le_refl _) _)
        have HRN:=zH (show y5.heap[y4.heap.size]?=some (.cells #[.slice ga c.fs.length gc,.slice za c.ar.length zc,.pointer (some ⟨kb,0,none⟩),.slice none 0 0,.slice ra st.D.toNat rc,.slice (some ⟨y3.heap.size,0,none⟩) M M,.int .i64 z,.int .i64 0] 81) by rw[ey];exact heap_alloc_new _ _)
        have HG4:=zH hHeld.1.size
        clear ey
        refine hKK.out _ _ ?_ (fun hHeld=>?_)
        ·exact HKS.out _ (hHeld.1.trans (HY5.out.mono hHeld.1.size))
        clear hKK KK
        try simp only[zA,zB,zC,Act.put,zD,zE,zF]
        refine tkV 15 (.pointer (some ⟨y4.heap.size,0,none⟩)) rfl (fun W hSW=>?_) hHeld ?_
        ·((try dsimp only at hSW);go_split_ands;go_simp <;> with_reducible rfl)
        try simp only[zA,zB,zC,Act.put,zD,zE,zF]
        refine wpAnyH_done (by kernel_rfl) ?_ _
        have HFF:=zH (And.intro (own_of_block HOF.out (fun k e=>(bstep (bstep (bstep HY2.out HY3.out) HY4.out) HY5.out).block k (HOF.out.lt k e).2)) (HVF.out.on (bstep (bstep (bstep HY2.out HY3.out) HY4.out) HY5.out) HNF.out))
        have HZZ:=zH (HNZ.out.on (bstep (bstep HY3.out HY4.out) HY5.out))
        have HRR:=zH (HNR.out.on (bstep HY4.out HY5.out))
        have HTT:=zH (NumV.chg (X:=fun _=>False) (Chg.of_below HY5.out) HTK.out)
        have HB65:=zH (show Below w6.heap.size w6 y5 from hHeld.1)
        have HBXE:=zH (show BoxB y5 kb rb st.I.length st.O.length st.L.length (.slice none 0 0) from(HB65.out.block _ HBX6.out.lt).trans HBX6.out)
        have HTQE:=zH (show TabQ w2.heap.size y5 rb st.I.length vs (cO A) from tabq_mono (HTQ6.out.on HB65.out) HB4.out.size)
        have HMA:=zH (show RunK (mkK w2.heap.size w6.heap.size y4.heap.size kb rb st c M z (.slice ga c.fs.length gc) (.slice za c.ar.length zc) (.slice ra st.D.toNat rc) (.slice (some ⟨y3.heap.size,0,none⟩) M M) us bs len xs ars rrs) kb w2.heap.size st.D c z mf y5 from⟨jA HFF.out.1 HFF.out.2 (fun i hi=>(HCOK.out.2.2.2 i hi).1.2.1) HVA.out HZZ.out (fun i hi=>(HCOK.out.2.1 i hi).1.1) HRR.out HTT.out HBXE.out HTQE.out HRN.out ⟨Nat.le_trans HB6.out.size HG4.out,HKB.out,HRB5.out,HGZ.out,HGR.out,HB6.out.size⟩,oB HCOK.out HDD.out.2 HI32.out (by have:=HM.out;omega),rfl,rfl,rfl,rfl,(by show ((st.D.toNat:Nat):Int)=st.D;have:=HDD.out.1;omega),fun _ _=>rfl⟩)
        clear hHeld
        go_wp2_with fail
        go_meet
        case rel=>exact⟨⟨(mkK w2.heap.size w6.heap.size y4.heap.size kb rb st c M z (.slice ga c.fs.length gc) (.slice za c.ar.length zc) (.slice ra st.D.toNat rc) (.slice (some ⟨y3.heap.size,0,none⟩) M M) us bs len xs ars rrs),rfl,HMA.out⟩,HB65.out⟩
       ·try simp only[zA,zB,zC]
        go_simp
        obtain⟨y3,ey⟩:∃y,y=World.alloc y2 (.cells (madeCells #[.int .i64 0] M) 2):=⟨_,rfl⟩
        rw[<-ey]
        have hb3:Below y2.heap.size y2 y3:=by rw[ey];exact(Below.refl _ _).alloc (Nat.le_refl _) _
        have HTK:=zH (show NumV w2.heap.size y3 (.slice (some ⟨y2.heap.size,0,none⟩) M M) M by rw[ey];exact fx _ _ M (Nat.le_trans HB6.out.size hHeld.1.size))
        clear ey
        refine hKK.out _ _ ?_ (fun hHeld=>?_)
        ·exact HKS.out _ (hHeld.1.trans (hb3.mono hHeld.1.size))
        clear hKK KK
        try simp only[zA,zB,zC,Act.put,zD,zE,zF]
        have HY3:=zH hb3
        clear hb3
        refine wpAnyH_ready (rs:=[10]) (by kernel_rfl) (by simp) ?_
        refine AllReadyH.cons rfl (fun KK hKK=>?_) (AllReadyH.nil)
        try simp only[zA,zB,zC]
        go_simp
        (go_at_call 28;refine(ip st.D M (by have:=HDD.out.1;omega) (by have:=HDD.out.2;omega) (by have:=HM.out;omega) _).mono ?_;rintro e y4 ⟨rv,rrs,rfl,hnr,hb4⟩;obtain⟨ra,rc,ez⟩:=GG.ap hnr.1;rw[List.length_replicate] at ez;subst ez;have HNR:=zH hnr;have HGR:=zH hHeld.1.size;clear hnr)
        try go_wp2_with fail
        refine hKK.out _ _ ?_ (fun hHeld=>?_)
        ·exact HKS.out _ (hHeld.1.trans (hb4.mono hHeld.1.size))
        clear hKK KK
        try simp only[zA,zB,zC,Act.put,zD,zE,zF]
        have HY4:=zH hb4
        clear hb4
        refine tkV 13 (.agg #[.slice ga c.fs.length gc,.slice za c.ar.length zc,.pointer (some ⟨kb,0,none⟩),.slice none 0 0,.slice ra st.D.toNat rc,.slice (some ⟨y2.heap.size,0,none⟩) M M,.int .i64 z,.int .i64 0]) rfl (fun W hSW=>?_) hHeld ?_
        ·((try dsimp only at hSW);go_split_ands;go_simp <;> with_reducible rfl)
        try simp only[zA,zB,zC,Act.put,zD,zE,zF]
        refine wpAnyH_ready (rs:=[14]) (by kernel_rfl) (by simp) ?_
        refine AllReadyH.cons rfl (fun KK hKK=>?_) (AllReadyH.nil)
        try simp only[zA,zB,zC]
        go_simp
        obtain⟨y5,ey⟩:∃y,y=y4.alloc (.cells #[.slice ga c.fs.length gc,.slice za c.ar.length zc,.pointer (some ⟨kb,0,none⟩),.slice none 0 0,.slice ra st.D.toNat rc,.slice (some ⟨y2.heap.size,0,none⟩) M M,.int .i64 z,.int .i64 0] 81):=⟨_,rfl⟩
        rw[<-ey]
        have HY5:=zH (show Below y4.heap.size y4 y5 by rw[ey];exact(Below.refl _ _).alloc (Nat.le_refl _) _)
        have HRN:=zH (show y5.heap[y4.heap.size]?=some (.cells #[.slice ga c.fs.length gc,.slice za c.ar.length zc,.pointer (some ⟨kb,0,none⟩),.slice none 0 0,.slice ra st.D.toNat rc,.slice (some ⟨y2.heap.size,0,none⟩) M M,.int .i64 z,.int .i64 0] 81) by rw[ey];exact heap_alloc_new _ _)
        have HG4:=zH hHeld.1.size
        clear ey
        refine hKK.out _ _ ?_ (fun hHeld=>?_)
        ·exact HKS.out _ (hHeld.1.trans (HY5.out.mono hHeld.1.size))
        clear hKK KK
        try simp only[zA,zB,zC,Act.put,zD,zE,zF]
        refine tkV 15 (.pointer (some ⟨y4.heap.size,0,none⟩)) rfl (fun W hSW=>?_) hHeld ?_
        ·((try dsimp only at hSW);go_split_ands;go_simp <;> with_reducible rfl)
        try simp only[zA,zB,zC,Act.put,zD,zE,zF]
        refine wpAnyH_done (by kernel_rfl) ?_ _
        have HFF:=zH (And.intro (own_of_block HOF.out (fun k e=>(bstep (bstep (bstep HY2.out HY3.out) HY4.out) HY5.out).block k (HOF.out.lt k e).2)) (HVF.out.on (bstep (bstep (bstep HY2.out HY3.out) HY4.out) HY5.out) HNF.out))
        have HZZ:=zH (HNZ.out.on (bstep (bstep HY3.out HY4.out) HY5.out))
        have HRR:=zH (HNR.out.on HY5.out)
        have HTT:=zH (NumV.chg (X:=fun _=>False) (Chg.of_below (bstep HY4.out HY5.out)) HTK.out)
        have HB65:=zH (show Below w6.heap.size w6 y5 from hHeld.1)
        have HBXE:=zH (show BoxB y5 kb rb st.I.length st.O.length st.L.length (.slice none 0 0) from(HB65.out.block _ HBX6.out.lt).trans HBX6.out)
        have HTQE:=zH (show TabQ w2.heap.size y5 rb st.I.length vs (cO A) from tabq_mono (HTQ6.out.on HB65.out) HB4.out.size)
        have HMA:=zH (show RunK (mkK w2.heap.size w6.heap.size y4.heap.size kb rb st c M z (.slice ga c.fs.length gc) (.slice za c.ar.length zc) (.slice ra st.D.toNat rc) (.slice (some ⟨y2.heap.size,0,none⟩) M M) us bs len xs ars rrs) kb w2.heap.size st.D c z mf y5 from⟨jA HFF.out.1 HFF.out.2 (fun i hi=>(HCOK.out.2.2.2 i hi).1.2.1) HVA.out HZZ.out (fun i hi=>(HCOK.out.2.1 i hi).1.1) HRR.out HTT.out HBXE.out HTQE.out HRN.out ⟨Nat.le_trans HB6.out.size HG4.out,HKB.out,HRB5.out,HGZ.out,HGR.out,HB6.out.size⟩,oB HCOK.out HDD.out.2 HI32.out (by have:=HM.out;omega),rfl,rfl,rfl,rfl,(by show ((st.D.toNat:Nat):Int)=st.D;have:=HDD.out.1;omega),fun _ _=>rfl⟩)
        clear hHeld
        go_wp2_with fail
        go_meet
        case rel=>exact⟨⟨(mkK w2.heap.size w6.heap.size y4.heap.size kb rb st c M z (.slice ga c.fs.length gc) (.slice za c.ar.length zc) (.slice ra st.D.toNat rc) (.slice (some ⟨y2.heap.size,0,none⟩) M M) us bs len xs ars rrs),rfl,HMA.out⟩,HB65.out⟩
      ·try simp only[zA,zB,zC]
       go_simp
       obtain⟨y2,ey⟩:∃y,y=World.alloc y1 (.cells (madeCells #[.int .i64 0] M) 2):=⟨_,rfl⟩
       rw[<-ey]
       have hb2:Below y1.heap.size y1 y2:=by rw[ey];exact(Below.refl _ _).alloc (Nat.le_refl _) _
       have HTK:=zH (show NumV w2.heap.size y2 (.slice (some ⟨y1.heap.size,0,none⟩) M M) M by rw[ey];exact fx _ _ M (Nat.le_trans HB6.out.size hHeld.1.size))
       clear ey
       refine hKK.out _ _ ?_ (fun hHeld=>?_)
       ·exact HKS.out _ (hHeld.1.trans (hb2.mono hHeld.1.size))
       clear hKK KK
       try simp only[zA,zB,zC,Act.put,zD,zE,zF]
       have HY2:=zH hb2
       clear hb2
       refine wpAnyH_ready (rs:=[4]) (by kernel_rfl) (by simp) ?_
       refine AllReadyH.cons rfl (fun KK hKK=>?_) (AllReadyH.nil)
       try simp only[zA,zB,zC]
       go_simp
       (go_at_call 27;refine(jK c.ar (by have:=HFEW.out.a;omega) (fun i hi=>by have h1:=(HCOK.out.2.1 i hi).1;omega) _ _ _ _ (HAR.out _ (bstep HB6.out hHeld.1))).mono ?_;rintro e y3 ⟨zv,ars,rfl,hnz,hb3⟩;obtain⟨za,zc,ez⟩:=GG.ap hnz.1;rw[List.length_map] at ez;subst ez;have HNZ:=zH hnz;have HGZ:=zH hHeld.1.size;clear hnz)
       try go_wp2_with fail
       refine hKK.out _ _ ?_ (fun hHeld=>?_)
       ·exact HKS.out _ (hHeld.1.trans (hb3.mono hHeld.1.size))
       clear hKK KK
       try simp only[zA,zB,zC,Act.put,zD,zE,zF]
       have HY3:=zH hb3
       clear hb3
       refine wpAnyH_ready (rs:=[10]) (by kernel_rfl) (by simp) ?_
       refine AllReadyH.cons rfl (fun KK hKK=>?_) (AllReadyH.nil)
       try simp only[zA,zB,zC]
       go_simp
       (go_at_call 28;refine(ip st.D M (by have:=HDD.out.1;omega) (by have:=HDD.out.2;omega) (by have:=HM.out;omega) _).mono ?_;rintro e y4 ⟨rv,rrs,rfl,hnr,hb4⟩;obtain⟨ra,rc,ez⟩:=GG.ap hnr.1;rw[List.length_replicate] at ez;subst ez;have HNR:=zH hnr;have HGR:=zH hHeld.1.size;clear hnr)
       try go_wp2_with fail
       refine hKK.out _ _ ?_ (fun hHeld=>?_)
       ·exact HKS.out _ (hHeld.1.trans (hb4.mono hHeld.1.size))
       clear hKK KK
       try simp only[zA,zB,zC,Act.put,zD,zE,zF]
       have HY4:=zH hb4
       clear hb4
       refine tkV 13 (.agg #[.slice ga c.fs.length gc,.slice za c.ar.length zc,.pointer (some ⟨kb,0,none⟩),.slice none 0 0,.slice ra st.D.toNat rc,.slice (some ⟨y1.heap.size,0,none⟩) M M,.int .i64 z,.int .i64 0]) rfl (fun W hSW=>?_) hHeld ?_
       ·((try dsimp only at hSW);go_split_ands;go_simp <;> with_reducible rfl)
       try simp only[zA,zB,zC,Act.put,zD,zE,zF]
       refine wpAnyH_ready (rs:=[14]) (by kernel_rfl) (by simp) ?_
       refine AllReadyH.cons rfl (fun KK hKK=>?_) (AllReadyH.nil)
       try simp only[zA,zB,zC]
       go_simp
       obtain⟨y5,ey⟩:∃y,y=y4.alloc (.cells #[.slice ga c.fs.length gc,.slice za c.ar.length zc,.pointer (some ⟨kb,0,none⟩),.slice none 0 0,.slice ra st.D.toNat rc,.slice (some ⟨y1.heap.size,0,none⟩) M M,.int .i64 z,.int .i64 0] 81):=⟨_,rfl⟩
       rw[<-ey]
       have HY5:=zH (show Below y4.heap.size y4 y5 by rw[ey];exact(Below.refl _ _).alloc (Nat.le_refl _) _)
       have HRN:=zH (show y5.heap[y4.heap.size]?=some (.cells #[.slice ga c.fs.length gc,.slice za c.ar.length zc,.pointer (some ⟨kb,0,none⟩),.slice none 0 0,.slice ra st.D.toNat rc,.slice (some ⟨y1.heap.size,0,none⟩) M M,.int .i64 z,.int .i64 0] 81) by rw[ey];exact heap_alloc_new _ _)
       have HG4:=zH hHeld.1.size
       clear ey
       refine hKK.out _ _ ?_ (fun hHeld=>?_)
       ·exact HKS.out _ (hHeld.1.trans (HY5.out.mono hHeld.1.size))
       clear hKK KK
       try simp only[zA,zB,zC,Act.put,zD,zE,zF]
       refine tkV 15 (.pointer (some ⟨y4.heap.size,0,none⟩)) rfl (fun W hSW=>?_) hHeld ?_
       ·((try dsimp only at hSW);go_split_ands;go_simp <;> with_reducible rfl)
       try simp only[zA,zB,zC,Act.put,zD,zE,zF]
       refine wpAnyH_done (by kernel_rfl) ?_ _
       have HFF:=zH (And.intro (own_of_block HOF.out (fun k e=>(bstep (bstep (bstep HY2.out HY3.out) HY4.out) HY5.out).block k (HOF.out.lt k e).2)) (HVF.out.on (bstep (bstep (bstep HY2.out HY3.out) HY4.out) HY5.out) HNF.out))
       have HZZ:=zH (HNZ.out.on (bstep HY4.out HY5.out))
       have HRR:=zH (HNR.out.on HY5.out)
       have HTT:=zH (NumV.chg (X:=fun _=>False) (Chg.of_below (bstep (bstep HY3.out HY4.out) HY5.out)) HTK.out)
       have HB65:=zH (show Below w6.heap.size w6 y5 from hHeld.1)
       have HBXE:=zH (show BoxB y5 kb rb st.I.length st.O.length st.L.length (.slice none 0 0) from(HB65.out.block _ HBX6.out.lt).trans HBX6.out)
       have HTQE:=zH (show TabQ w2.heap.size y5 rb st.I.length vs (cO A) from tabq_mono (HTQ6.out.on HB65.out) HB4.out.size)
       have HMA:=zH (show RunK (mkK w2.heap.size w6.heap.size y4.heap.size kb rb st c M z (.slice ga c.fs.length gc) (.slice za c.ar.length zc) (.slice ra st.D.toNat rc) (.slice (some ⟨y1.heap.size,0,none⟩) M M) us bs len xs ars rrs) kb w2.heap.size st.D c z mf y5 from⟨jA HFF.out.1 HFF.out.2 (fun i hi=>(HCOK.out.2.2.2 i hi).1.2.1) HVA.out HZZ.out (fun i hi=>(HCOK.out.2.1 i hi).1.1) HRR.out HTT.out HBXE.out HTQE.out HRN.out ⟨Nat.le_trans HB6.out.size HG4.out,HKB.out,HRB5.out,HGZ.out,HGR.out,HB6.out.size⟩,oB HCOK.out HDD.out.2 HI32.out (by have:=HM.out;omega),rfl,rfl,rfl,rfl,(by show ((st.D.toNat:Nat):Int)=st.D;have:=HDD.out.1;omega),fun _ _=>rfl⟩)
       clear hHeld
       go_wp2_with fail
       go_meet
       case rel=>exact⟨⟨(mkK w2.heap.size w6.heap.size y4.heap.size kb rb st c M z (.slice ga c.fs.length gc) (.slice za c.ar.length zc) (.slice ra st.D.toNat rc) (.slice (some ⟨y1.heap.size,0,none⟩) M M) us bs len xs ars rrs),rfl,HMA.out⟩,HB65.out⟩
     ·try simp only[zA,zB,zC]
      go_simp
      obtain⟨y1,ey⟩:∃y,y=(World.alloc w6 (.cells (madeCells #[.int .i64 0] M) 2)).drew:=⟨_,rfl⟩
      rw[<-ey]
      have hb1:Below w6.heap.size w6 y1:=by rw[ey];exact((Below.refl w6.heap.size w6).alloc (Nat.le_refl _) _).trans ⟨rfl,rfl,rfl,Nat.le_refl _,fun _ _=>rfl⟩
      have HTK:=zH (show NumV w2.heap.size y1 (.slice (some ⟨w6.heap.size,0,none⟩) M M) M by rw[ey];exact fx _ w6 M HB6.out.size)
      clear ey
      refine hKK.out _ _ ?_ (fun hHeld=>?_)
      ·exact HKS.out _ hb1
      clear hKK KK
      try simp only[zA,zB,zC,Act.put,zD,zE,zF]
      have HY1:=zH hb1
      clear hb1
      refine wpAnyH_ready (rs:=[1]) (by kernel_rfl) (by simp) ?_
      refine AllReadyH.cons rfl (fun KK hKK=>?_) (AllReadyH.nil)
      try simp only[zA,zB,zC]
      go_simp
      (go_at_call 26;refine(iy (qq HR.out HFEW.out) _ _ _ (Nat.le_trans HB6.out.size hHeld.1.size) (HCF.out _ (bstep HB6.out hHeld.1))).mono ?_;rintro e y2 ⟨gv,us,bs,len,xs,rfl,hof,hvf,hb2⟩;obtain⟨ga,gc,rfl⟩:=GG.ap hof;have HOF:=zH hof;have HVF:=zH hvf;have HNF:=zH (Nat.le_trans HB6.out.size (Nat.le_trans hHeld.1.size hb2.size));clear hof hvf)
      try go_wp2_with fail
      refine hKK.out _ _ ?_ (fun hHeld=>?_)
      ·exact HKS.out _ (hHeld.1.trans (hb2.mono hHeld.1.size))
      clear hKK KK
      try simp only[zA,zB,zC,Act.put,zD,zE,zF]
      have HY2:=zH hb2
      clear hb2
      refine wpAnyH_ready (rs:=[4]) (by kernel_rfl) (by simp) ?_
      refine AllReadyH.cons rfl (fun KK hKK=>?_) (AllReadyH.nil)
      try simp only[zA,zB,zC]
      go_simp
      (go_at_call 27;refine(jK c.ar (by have:=HFEW.out.a;omega) (fun i hi=>by have h1:=(HCOK.out.2.1 i hi).1;omega) _ _ _ _ (HAR.out _ (bstep HB6.out hHeld.1))).mono ?_;rintro e y3 ⟨zv,ars,rfl,hnz,hb3⟩;obtain⟨za,zc,ez⟩:=GG.ap hnz.1;rw[List.length_map] at ez;subst ez;have HNZ:=zH hnz;have HGZ:=zH hHeld.1.size;clear hnz)
      try go_wp2_with fail
      refine hKK.out _ _ ?_ (fun hHeld=>?_)
      ·exact HKS.out _ (hHeld.1.trans (hb3.mono hHeld.1.size))
      clear hKK KK
      try simp only[zA,zB,zC,Act.put,zD,zE,zF]
      have HY3:=zH hb3
      clear hb3
      refine wpAnyH_ready (rs:=[10]) (by kernel_rfl) (by simp) ?_
      refine AllReadyH.cons rfl (fun KK hKK=>?_) (AllReadyH.nil)
      try simp only[zA,zB,zC]
      go_simp
      (go_at_call 28;refine(ip st.D M (by have:=HDD.out.1;omega) (by have:=HDD.out.2;omega) (by have:=HM.out;omega) _).mono ?_;rintro e y4 ⟨rv,rrs,rfl,hnr,hb4⟩;obtain⟨ra,rc,ez⟩:=GG.ap hnr.1;rw[List.length_replicate] at ez;subst ez;have HNR:=zH hnr;have HGR:=zH hHeld.1.size;clear hnr)
      try go_wp2_with fail
      refine hKK.out _ _ ?_ (fun hHeld=>?_)
      ·exact HKS.out _ (hHeld.1.trans (hb4.mono hHeld.1.size))
      clear hKK KK
      try simp only[zA,zB,zC,Act.put,zD,zE,zF]
      have HY4:=zH hb4
      clear hb4
      refine tkV 13 (.agg #[.slice ga c.fs.length gc,.slice za c.ar.length zc,.pointer (some ⟨kb,0,none⟩),.slice none 0 0,.slice ra st.D.toNat rc,.slice (some ⟨w6.heap.size,0,none⟩) M M,.int .i64 z,.int .i64 0]) rfl (fun W hSW=>?_) hHeld ?_
      ·((try dsimp only at hSW);go_split_ands;go_simp <;> with_reducible rfl)
      try simp only[zA,zB,zC,Act.put,zD,zE,zF]
      refine wpAnyH_ready (rs:=[14]) (by kernel_rfl) (by simp) ?_
      refine AllReadyH.cons rfl (fun KK hKK=>?_) (AllReadyH.nil)
      try simp only[zA,zB,zC]
      go_simp
      obtain⟨y5,ey⟩:∃y,y=y4.alloc (.cells #[.slice ga c.fs.length gc,.slice za c.ar.length zc,.pointer (some ⟨kb,0,none⟩),.slice none 0 0,.slice ra st.D.toNat rc,.slice (some ⟨w6.heap.size,0,none⟩) M M,.int .i64 z,.int .i64 0] 81):=⟨_,rfl⟩
      rw[<-ey]
      have HY5:=zH (show Below y4.heap.size y4 y5 by rw[ey];exact(Below.refl _ _).alloc (Nat.le_refl _) _)
      have HRN:=zH (show y5.heap[y4.heap.size]?=some (.cells #[.slice ga c.fs.length gc,.slice za c.ar.length zc,.pointer (some ⟨kb,0,none⟩),.slice none 0 0,.slice ra st.D.toNat rc,.slice (some ⟨w6.heap.size,0,none⟩) M M,.int .i64 z,.int .i64 0] 81) by rw[ey];exact heap_alloc_new _ _)
      have HG4:=zH hHeld.1.size
      clear ey
      refine hKK.out _ _ ?_ (fun hHeld=>?_)
      ·exact HKS.out _ (hHeld.1.trans (HY5.out.mono hHeld.1.size))
      clear hKK KK
      try simp only[zA,zB,zC,Act.put,zD,zE,zF]
      refine tkV 15 (.pointer (some ⟨y4.heap.size,0,none⟩)) rfl (fun W hSW=>?_) hHeld ?_
      ·((try dsimp only at hSW);go_split_ands;go_simp <;> with_reducible rfl)
      try simp only[zA,zB,zC,Act.put,zD,zE,zF]
      refine wpAnyH_done (by kernel_rfl) ?_ _
      have HFF:=zH (And.intro (own_of_block HOF.out (fun k e=>(bstep (bstep HY3.out HY4.out) HY5.out).block k (HOF.out.lt k e).2)) (HVF.out.on (bstep (bstep HY3.out HY4.out) HY5.out) HNF.out))
      have HZZ:=zH (HNZ.out.on (bstep HY4.out HY5.out))
      have HRR:=zH (HNR.out.on HY5.out)
      have HTT:=zH (NumV.chg (X:=fun _=>False) (Chg.of_below (bstep (bstep (bstep HY2.out HY3.out) HY4.out) HY5.out)) HTK.out)
      have HB65:=zH (show Below w6.heap.size w6 y5 from hHeld.1)
      have HBXE:=zH (show BoxB y5 kb rb st.I.length st.O.length st.L.length (.slice none 0 0) from(HB65.out.block _ HBX6.out.lt).trans HBX6.out)
      have HTQE:=zH (show TabQ w2.heap.size y5 rb st.I.length vs (cO A) from tabq_mono (HTQ6.out.on HB65.out) HB4.out.size)
      have HMA:=zH (show RunK (mkK w2.heap.size w6.heap.size y4.heap.size kb rb st c M z (.slice ga c.fs.length gc) (.slice za c.ar.length zc) (.slice ra st.D.toNat rc) (.slice (some ⟨w6.heap.size,0,none⟩) M M) us bs len xs ars rrs) kb w2.heap.size st.D c z mf y5 from⟨jA HFF.out.1 HFF.out.2 (fun i hi=>(HCOK.out.2.2.2 i hi).1.2.1) HVA.out HZZ.out (fun i hi=>(HCOK.out.2.1 i hi).1.1) HRR.out HTT.out HBXE.out HTQE.out HRN.out ⟨Nat.le_trans HB6.out.size HG4.out,HKB.out,HRB5.out,HGZ.out,HGR.out,HB6.out.size⟩,oB HCOK.out HDD.out.2 HI32.out (by have:=HM.out;omega),rfl,rfl,rfl,rfl,(by show ((st.D.toNat:Nat):Int)=st.D;have:=HDD.out.1;omega),fun _ _=>rfl⟩)
      clear hHeld
      go_wp2_with fail
      go_meet
      case rel=>exact⟨⟨(mkK w2.heap.size w6.heap.size y4.heap.size kb rb st c M z (.slice ga c.fs.length gc) (.slice za c.ar.length zc) (.slice ra st.D.toNat rc) (.slice (some ⟨w6.heap.size,0,none⟩) M M) us bs len xs ars rrs),rfl,HMA.out⟩,HB65.out⟩
    case rest =>
     obtain⟨⟨K,rfl,hK⟩,hb9⟩:=hcut
     obtain⟨w9,rfl⟩:∃w9,w9=wc:=⟨_,rfl⟩
     have HK:=zH hK
     have HB9:=zH (bstep HB6.out hb9)
     clear hK hb9 q0 q1 q2 p4 hmk
     obtain⟨q0,q1,q2⟩:=HBC.out _ HB9.out
     rw[HMF.out] at q2
     have HEN:=zH (jN HK.out.m mf (by rw[HK.out.nf];exact HMN.out) HK.out.ok.D HK.out.ok.most (fun _=>rfl) (fun x hx=>by simp at hx) none 0 0 (fun h=>absurd h (Nat.lt_irrefl _)))
     go_wp2_with fail
     refine HEN.out.mono ?_
     intro e w10 hE10
     obtain⟨rfl,fb,hm10⟩:=hE10.first (by have h1:=HK.out.D;have h2:=HDD.out.1;omega)
     have HM10:=zH hm10
     clear hE10 hm10 q0 q1 q2
     have HAL:=zH (all_any HK.out.ok HM10.out (by rw[HK.out.fuel];exact HZ0.out) (by rw[HK.out.fuel];exact HZ.out))
     go_wp2_with fail
     refine HAL.out.mono ?_
     rintro e w11 ⟨s,rfl,hs22,gs,st',m',hm',hM11⟩
     have hs:=fun e22=>not_deep HK.out.m.core.fn HK.out.nf HK.out.refs (mZ (q:=bI st c) rfl HCOK.out) HMN.out HMF.out HK.out.D HL.out (hs22 e22)
     have HSN:=zH (show s≠22 from hs)
     have hbl9:=HM10.out.core.below
     have hbl10:=hM11.core.below
     have hk0:=HK.out.B0
     rw[hk0] at hbl9 hbl10
     have HBL:=zH (hbl9.trans hbl10)
     have hres:=(HBL.out.block (w.heap.size+1+1) (Array.getElem?_eq_some_iff.1 HBX.out.1.2.2).1).trans (HRES.out _ HB9.out)
     obtain⟨frv,hrun,_⟩:=hM11.run
     obtain⟨ve,es,vs',rows',hbx',htq',hoe,hme⟩:=hM11.box
     rw[HK.out.kb] at hbx'
     obtain⟨_,_,_,_,_,_,_,c7⟩:=hrun.cells
     have HTR:=zH (fun d=>rI (w11.drewN d) hbx' hoe (by omega))
     have HRS:=zH hres
     have HFIN:=zH (show Below w.heap.size w w11 from(HUP.out _ HB9.out).trans (HBL.out.mono HBX.out.2.size))
     have HKS2:=zH (show ∀V,Below w11.heap.size w11 V->(fun V:World=>V.cell? ⟨K.Rb,7,none⟩=some (.int .i64 st')) V from fun V hV=>aK hV c7)
     have HNE:=zH (show K.Rb≠w.heap.size+1+1 from by have h1:=HK.out.m.base.1;rw[hk0] at h1;have h2:=(Array.getElem?_eq_some_iff.1 HBX.out.1.2.2).1;omega)
     clear hs hs22 hbl9 hbl10 hk0 hres hrun hbx' htq' hoe hM11 HAL HEN
     go_upto_region 10 with fail
     refine wp_region_held_drew (S:=(fun V:World=>V.cell? ⟨K.Rb,7,none⟩=some (.int .i64 st'))) (by kernel_rfl) ?_ (fun hHeld=>?_)
     ·exact HKS2.out _ (show Below w11.heap.size w11 w11.drew from⟨rfl,rfl,rfl,Nat.le_refl _,fun _ _=>rfl⟩)
     refine tkV 0 (.int .i64 s) rfl (fun W hSW=>?_) hHeld ?_
     ·((try dsimp only at hSW);go_split_ands;go_simp <;> with_reducible rfl)
     try simp only[zA,zB,zC,Act.put,zD,zE,zF]
     refine tkV 1 (.pointer (some ⟨K.Rb,0,none⟩)) rfl (fun W hSW=>?_) hHeld ?_
     ·((try dsimp only at hSW);go_split_ands;go_simp <;> with_reducible rfl)
     try simp only[zA,zB,zC,Act.put,zD,zE,zF]
     refine tkV 2 (.pointer (some ⟨K.Rb,0,none⟩)) rfl (fun W hSW=>?_) hHeld ?_
     ·((try dsimp only at hSW);go_split_ands;go_simp <;> with_reducible rfl)
     try simp only[zA,zB,zC,Act.put,zD,zE,zF]
     refine tkV 3 (.pointer (some ⟨K.Rb,7,none⟩)) rfl (fun W hSW=>?_) hHeld ?_
     ·((try dsimp only at hSW);go_split_ands;go_simp <;> with_reducible rfl)
     try simp only[zA,zB,zC,Act.put,zD,zE,zF]
     refine tkV 4 (.int .i64 st') rfl (fun W hSW=>?_) hHeld ?_
     ·((try dsimp only at hSW);go_split_ands;go_simp <;> with_reducible rfl)
     try simp only[zA,zB,zC,Act.put,zD,zE,zF]
     refine tkV 5 (.pointer (some ⟨kb,0,none⟩)) rfl (fun W hSW=>?_) hHeld ?_
     ·((try dsimp only at hSW);go_split_ands;go_simp <;> with_reducible rfl)
     try simp only[zA,zB,zC,Act.put,zD,zE,zF]
     refine wpAnyH_ready (rs:=[6]) (by kernel_rfl) (by simp) ?_
     refine AllReadyH.cons rfl (fun KK hKK=>?_) (AllReadyH.nil)
     try simp only[zA,zB,zC]
     go_simp
     (go_at_call 31;refine(HTR.out 1).mono ?_;rintro e y1 ⟨⟨ev,rfl,hev⟩,hb1⟩;obtain⟨ea,ec,rfl⟩:=hev.form;have HY1:=zH ((show Below w11.heap.size w11 (World.drewN w11 1) from⟨rfl,rfl,rfl,Nat.le_refl _,fun _ _=>rfl⟩).trans hb1);clear hev)
     try go_wp2_with fail
     refine hKK.out _ _ ?_ (fun hHeld=>?_)
     ·exact HKS2.out _ HY1.out
     clear hKK KK
     try simp only[zA,zB,zC,Act.put,zD,zE,zF]
     have hres:=(HY1.out.block _ (Array.getElem?_eq_some_iff.1 HRS.out).1).trans HRS.out
     obtain⟨r0,r1,r2⟩:=obj3 hres
     have f0:=aj (k:=0) hres
     have f1:=aj (k:=1) hres
     have f2:=aj (k:=2) hres
     have HS3:=zH (obj3 (set_obj (c:=2) (.slice ea es.length ec) (set_obj (c:=1) (.int .i64 st') (set_obj (c:=0) (.int .i64 s) hres))))
     clear hres
     refine tkV 7 (.agg #[.int .i64 s,.int .i64 st',.slice ea es.length ec]) rfl (fun W hSW=>?_) hHeld ?_
     ·((try dsimp only at hSW);go_split_ands;go_simp <;> with_reducible rfl)
     try simp only[zA,zB,zC,Act.put,zD,zE,zF]
     refine wpAnyH_ready (rs:=[8]) (by kernel_rfl) (by simp) ?_
     refine AllReadyH.cons rfl (fun KK hKK=>?_) (AllReadyH.nil)
     try simp only[zA,zB,zC]
     go_simp
     refine hKK.out _ _ ?_ (fun hHeld=>?_)
     ·exact jt ((Below.heap_setCell _ _ _ _ HNE.out).trans ((Below.heap_setCell _ _ _ _ HNE.out).trans (Below.heap_setCell _ _ _ _ HNE.out))) (HKS2.out _ HY1.out)
     clear hKK KK
     try simp only[zA,zB,zC,Act.put,zD,zE,zF]
     refine tkV 9 (.int .i64 0) rfl (fun W hSW=>?_) hHeld ?_
     ·((try dsimp only at hSW);go_split_ands;go_simp <;> with_reducible rfl)
     try simp only[zA,zB,zC,Act.put,zD,zE,zF]
     refine wpAnyH_done (by kernel_rfl) ?_ _
     clear hHeld r0 r1 r2 f0 f1 f2
     go_wp2_with fail
     obtain⟨s0,s1,s2⟩:=HS3.out
     refine bodyPost_ret (v:=.tuple #[.agg #[.int .i64 s,.int .i64 st',.slice ea es.length ec],.int .i64 0]) (by simp [results,Tryz.results15,go_sem,s0,s1,s2]) rfl ?_
     exact runE_ok HSN.out ((((HFIN.out.trans (HY1.out.mono HFIN.out.size)).setCell (p:=⟨w.heap.size+1+1,0,none⟩) (by simp;omega) _).setCell (p:=⟨w.heap.size+1+1,1,none⟩) (by simp;omega) _).setCell (p:=⟨w.heap.size+1+1,2,none⟩) (by simp;omega) _)
end
end Go.Proofs.YtjngffgkllakaaaGreatDoor.IP
namespace Go.Proofs.YtjngffgkllakaaaGreatDoor
open List renaming getElem_toArray → zA, getElem_cons_succ → zB, getElem_cons_zero → zC, setIfInBounds_toArray → zD, set_cons_zero → zE, set_cons_succ → zF
open Lib renaming hid → zH
section
open Go.RowKit
open CD (OpP BodyP CodeP ae blAt fnAt)
def FewTo(c:CodeP)(i:Nat):Prop:=CD.lenC c i<=300/\∀j,j<i->(fnAt c j).bs.length<=100/\∀k,k<(fnAt c j).bs.length->(blAt (fnAt c j) k).length<=300
theorem FewTo.few{c:CodeP}(h:FewTo c c.fs.length)(hf:c.fs.length<=100)(ha:c.ar.length<=100):CD.Few c:=by
 refine⟨hf,ha,fun i hi=>(h.2 i hi).1,fun i hi=>(h.2 i hi).2,?_⟩
 have e:CD.lenC c c.fs.length=(c.fs.map fun b=>(b.bs.map List.length).sum).sum:=by
  unfold CD.lenC CD.lenB
  rw[List.take_length]
  congr 1
  apply List.map_congr_left
  intro b _
  rw[List.take_length]
 rw[<-e]
 exact h.1
def SomeE(c:CodeP)(e:Ending):Prop:=∃z,e=.returned (.bool z)/\(z=true->CD.Few c)
theorem gQ(c:CodeP):SomeE c (.returned (.bool false)):=⟨_,rfl,fun h=>by cases h⟩
theorem someE_yes{c:CodeP}(h:CD.Few c):SomeE c (.returned (.bool true)):=⟨_,rfl,fun _=>h⟩
theorem lO(b:BodyP):∀k,k<=b.bs.length->(∀j,j<k->(blAt b j).length<=300)->CD.lenB b k<=k*300
 | 0,_,_=>by simp [CD.lenB]
 | k+1,h,g=>by
   rw[CD.fm (by omega)]
   have:=lO b k (by omega) (fun j hj=>g j (by omega))
   have:=g k (by omega)
   omega
set_option maxRecDepth 100000 in
set_option maxHeartbeats 3200000 in
theorem rsome_any(av fv:Value)(c:CodeP)(w:World)(ha:bK w.heap.size w av c.ar)(hf:bh w.heap.size w fv c.fs) :
 Calls Tryz.prog 5 #[.agg #[av,fv,.int .i64 c.mn0],.int .i64 300] w fun e w'=>SomeE c e/\Below w.heap.size w w':=by
 obtain⟨aa,ac,rfl⟩:=ha.form
 obtain⟨fa,fc,rfl⟩:=hf.form
 obtain⟨w1,ew1⟩:∃w1,w1=w.alloc (.cells #[.slice aa c.ar.length ac,.slice fa c.fs.length fc,.int .i64 c.mn0] 30):=⟨_,rfl⟩
 have hb1:Below w.heap.size w w1:=by rw[ew1];exact(Below.refl _ _).alloc (Nat.le_refl _) _
 have hk:w1.heap[w.heap.size]?=some (.cells #[.slice aa c.ar.length ac,.slice fa c.fs.length fc,.int .i64 c.mn0] 30):=by rw[ew1];exact heap_alloc_new _ _
 obtain⟨d0,d1,d2⟩:=box3 hk
 have HF:=zH (hf.below hb1)
 have HB:=zH hb1
 have EW:=zH ew1
 clear ha hf hb1 hk ew1
 by_cases c1:100<c.fs.length
 ·have t1:decide ((100:Int)<(c.fs.length:Int))=true:=decide_eq_true (by omega)
  have t2:decide (100<c.fs.length)=true:=decide_eq_true c1
  go_enter Tryz.func5,Tryz.ntmps5
  go_wp2_with fail
  rw[<-EW.out]
  go_wp2_with fail
  go_ret
  exact⟨gQ c,HB.out⟩
 ·have t1:decide ((100:Int)<(c.fs.length:Int))=false:=decide_eq_false (by omega)
  have t2:decide (100<c.fs.length)=false:=decide_eq_false c1
  by_cases c2:100<c.ar.length
  ·have t3:decide ((100:Int)<(c.ar.length:Int))=true:=decide_eq_true (by omega)
   have t4:decide (100<c.ar.length)=true:=decide_eq_true c2
   go_enter Tryz.func5,Tryz.ntmps5
   go_wp2_with fail
   rw[<-EW.out]
   go_wp2_with fail
   go_ret
   exact⟨gQ c,HB.out⟩
  ·have t3:decide ((100:Int)<(c.ar.length:Int))=false:=decide_eq_false (by omega)
   have t4:decide (100<c.ar.length)=false:=decide_eq_false c2
   have HC:=zH (show c.fs.length<=100/\c.ar.length<=100 by omega)
   clear c1 c2
   go_enter Tryz.func5,Tryz.ntmps5
   go_wp2_with fail
   rw[<-EW.out]
   go_wp2_with fail
   go_loop [5,6] (fun t k=>∃i:Nat,i<=c.fs.length/\k=.int .i64 (i:Int)/\t=.int .i64 (CD.lenC c i:Nat)/\RowKit.Hid (FewTo c i)) (fun _ k=>c.fs.length-(intOf k).toNat)
   case atStart=>exact⟨0,Nat.zero_le _,rfl,by rw[CD.jF];rfl,zH ⟨by rw[CD.jF];omega,fun j hj=>absurd hj (Nat.not_lt_zero _)⟩⟩
   case round =>
    obtain⟨i,hi,rfl,rfl,HI⟩:=hrel
    have b1:=HC.out.1
    by_cases hlt:i<c.fs.length
    ·obtain⟨blk,off,ba,bc,efa,hblk,f0,f1,f2,hbs⟩:=HF.out.at hlt
     subst efa
     have HBS:=zH hbs
     have HLT:=zH hlt
     have HLC:=zH (CD.gT hlt)
     have i1:(0:Int)<=i/\(i:Int)<c.fs.length:=by omega
     obtain⟨b,eb⟩:∃b,b=fnAt c i:=⟨_,rfl⟩
     have eb':c.fs[i]?.getD CD.b0=b:=eb.symm
     rw[eb'] at f0 f1 f2 HBS
     rw[<-eb] at HLC
     have HEB:=zH eb
     obtain⟨L,eL⟩:∃L,L=CD.lenC c i:=⟨_,rfl⟩
     rw[<-eL] at HLC ⊢
     have HEL:=zH (show L<=300 by rw[eL];exact HI.out.1)
     clear eL eb eb' hbs hlt
     by_cases c3:100<b.bs.length
     ·have t5:decide ((100:Int)<(b.bs.length:Int))=true:=decide_eq_true (by omega)
      have t6:decide (100<b.bs.length)=true:=decide_eq_true c3
      go_wp2_with fail
      go_ret
      exact⟨gQ c,HB.out⟩
     ·have t5:decide ((100:Int)<(b.bs.length:Int))=false:=decide_eq_false (by omega)
      have t6:decide (100<b.bs.length)=false:=decide_eq_false c3
      have H3:=zH c3
      clear c3
      go_wp2_with fail
      go_loop [5,7] (fun t k=>∃j:Nat,j<=b.bs.length/\k=.int .i64 (j:Int)/\t=.int .i64 ((L+CD.lenB b j:Nat):Int)/\RowKit.Hid (∀k,k<j->(blAt b k).length<=300)) (fun _ k=>b.bs.length-(intOf k).toNat)
      case atStart=>exact⟨0,Nat.zero_le _,rfl,by simp [CD.lenB],zH (fun k hk=>absurd hk (Nat.not_lt_zero _))⟩
      case round =>
       obtain⟨j,hj,rfl,rfl,HJ⟩:=hrel
       have b2:=H3.out
       have b3:=HEL.out
       have b4:=lO b j hj HJ.out
       have b5:L+CD.lenB b j<=40000:=by omega
       by_cases hjt:j<b.bs.length
       ·obtain⟨bb,bo,ba',bc',e2,hbb,hcell,hops⟩:=HBS.out.at hjt
        subst e2
        have HLB:=zH (CD.fm hjt)
        have HJT:=zH hjt
        have HQ:=zH (show (b.bs[j]?.getD []).length=(blAt b j).length from rfl)
        obtain⟨n,en⟩:∃n,n=(b.bs[j]?.getD []).length:=⟨_,rfl⟩
        rw[<-en] at hcell HQ
        rw[<-HQ.out] at HLB
        have i2:(0:Int)<=j/\(j:Int)<b.bs.length:=by omega
        obtain⟨m,em⟩:∃m,m=L+CD.lenB b j:=⟨_,rfl⟩
        have HM:=zH em
        rw[<-em] at b5 ⊢
        clear em en hops hjt b4
        by_cases c4:300<n
        ·have t7:decide ((300:Int)<(n:Int))=true:=decide_eq_true (by omega)
         have t8:decide (300<n)=true:=decide_eq_true c4
         go_wp2_with fail
         go_ret
         exact⟨gQ c,HB.out⟩
        ·have t7:decide ((300:Int)<(n:Int))=false:=decide_eq_false (by omega)
         have t8:decide (300<n)=false:=decide_eq_false c4
         have H4:=zH (show ∀k,k<j+1->(blAt b k).length<=300 from fun k hk=>by
          by_cases e:k=j
          ·rw[e,<-HQ.out];omega
          ·exact HJ.out k (by omega))
         go_wp2_with fail
         go_round
         case rel=>exact⟨j+1,HJT.out,by go_num,by rw[HLB.out,<-Nat.add_assoc,<-HM.out];go_num,H4⟩
         case measure=>have:=HJT.out;simp [intOf];omega
       ·have ej:j=b.bs.length:=by omega
        subst ej
        rw[<-HLC.out]
        have HJ2:=zH HJ.out
        have b6:CD.lenC c (i+1)<=40000:=by rw[HLC.out];exact b5
        clear b5 b4
        by_cases c4:300<CD.lenC c (i+1)
        ·have t7:decide ((300:Int)<(CD.lenC c (i+1):Int))=true:=decide_eq_true (by omega)
         have t8:decide (300<CD.lenC c (i+1))=true:=decide_eq_true c4
         go_wp2_with fail
         go_ret
         exact⟨gQ c,HB.out⟩
        ·have t7:decide ((300:Int)<(CD.lenC c (i+1):Int))=false:=decide_eq_false (by omega)
         have t8:decide (300<CD.lenC c (i+1))=false:=decide_eq_false c4
         have HN:=zH (show FewTo c (i+1) from⟨by omega,fun j hj=>by
          by_cases e:j=i
          ·rw[e,<-HEB.out];exact⟨by have:=H3.out;omega,HJ2.out⟩
          ·exact HI.out.2 j (by omega)⟩)
         go_wp2_with fail
         go_round
         case rel=>exact⟨i+1,HLT.out,by go_num,rfl,HN⟩
         case measure=>have:=HLT.out;simp [intOf];omega
    ·have HN:=zH (show CD.Few c by
      have h:=HI.out
      rw[show i=c.fs.length by omega] at h
      exact h.few HC.out.1 HC.out.2)
     go_wp2_with fail
     go_ret
     exact⟨someE_yes HN.out,HB.out⟩
end
end Go.Proofs.YtjngffgkllakaaaGreatDoor
namespace Go.Proofs.YtjngffgkllakaaaGreatDoor.IP
open List renaming getElem_toArray → zA, getElem_cons_succ → zB, getElem_cons_zero → zC, setIfInBounds_toArray → zD, set_cons_zero → zE, set_cons_succ → zF
open Lib renaming hid → zH
section
open Go.RowKit
open CD (OpP BodyP CodeP ae blAt fnAt)
theorem box10J{w:World}{b:Nat}{t:TypeId}{v0 v1 v2 v3 v4 v5 v6 v7 v8 v9:Value}(h:w.heap[b]?=some (.cells #[v0,v1,v2,v3,v4,v5,v6,v7,v8,v9] t)) :
 w.cell? ⟨b,0,none⟩=some v0/\w.cell? ⟨b,1,none⟩=some v1/\w.cell? ⟨b,2,none⟩=some v2/\w.cell? ⟨b,3,none⟩=some v3/\w.cell? ⟨b,4,none⟩=some v4/\w.cell? ⟨b,5,none⟩=some v5/\w.cell? ⟨b,6,none⟩=some v6/\w.cell? ⟨b,7,none⟩=some v7/\w.cell? ⟨b,8,none⟩=some v8/\w.cell? ⟨b,9,none⟩=some v9 :=
 ⟨cell_of_row _ _ 0 _ _ _ h,cell_of_row _ _ 1 _ _ _ h,cell_of_row _ _ 2 _ _ _ h,cell_of_row _ _ 3 _ _ _ h,cell_of_row _ _ 4 _ _ _ h,cell_of_row _ _ 5 _ _ _ h,cell_of_row _ _ 6 _ _ _ h,cell_of_row _ _ 7 _ _ _ h,cell_of_row _ _ 8 _ _ _ h,cell_of_row _ _ 9 _ _ _ h⟩
theorem graph_at2{n₀:Nat}{W:World}{a:Option Addr}{n cap:Nat}{g:List (List Int)}(h:az n₀ W (.slice a n cap) g){j:Nat}(hj:j<g.length):∃b off a' cap',a=some ⟨b,off,none⟩/\W.cell? ⟨b,off+j,none⟩=some (.slice a' (g[j]?.getD []).length cap'):=by
 obtain⟨b,off,cap',r,e,hc,hr⟩:=h.row hj
 obtain⟨a',c',er⟩:=hr.form
 cases e
 exact⟨b,off,a',c',rfl,by rw[hc,er]⟩
theorem sx{pol:Bool}{st:PSt}{c:CodeP}(hc:CD.fK pol (bI st c) c)(D:Int):(gP c D).length=c.fs.length:=by
 have hR:=mZ (q:=bI st c) rfl hc
 have hm:=hc.2.2.1.1
 unfold gP entL
 rw[if_pos ⟨hR,by unfold GG.inB;rw[io];exact decide_eq_true hm⟩,List.length_map,List.length_map,List.length_range,io]
def jB(c:CodeP)(xs:List Bool)(i k j:Nat):Prop:=xs[i]?.getD false=true/\(ae (blAt (fnAt c i) k) j).k=7
set_option maxRecDepth 100000 in
set_option maxHeartbeats 12800000 in
theorem callsShallow_walk(v0 v1 v2 v3 av fv iv:Value)(st:PSt)(S:List Int)(c:CodeP)(A:List (List Int))(z:Int)(w:World)(hp:PolIn w v0 v1 v2 v3 st S)(hw:Wide S)(hTz:Tz w)(hT:ShT w)(hsh:Short6 st)(ha:bK w.heap.size w av c.ar)(hf:bh w.heap.size w fv c.fs)(hs:fd c)(hA:az w.heap.size w iv A)(hx:cd A) :
 Calls Tryz.prog 4 #[.agg #[v0,v1,v2,v3,.int .i64 st.D,av,fv,.int .i64 c.mn0,iv,.int .i64 z]] w fun e w'=>e=.returned (.bool true)/\Below w.heap.size w w':=by
 obtain⟨aa,ac,rfl⟩:=ha.form
 obtain⟨fa,fc,rfl⟩:=hf.form
 obtain⟨a0,k0,rfl⟩:=hp.s0.form
 obtain⟨a1,k1,rfl⟩:=hp.s1.form
 obtain⟨a2,k2,rfl⟩:=hp.s2.form
 obtain⟨a3,k3,rfl⟩:=hp.s3.form
 obtain⟨ia,ic,rfl⟩:=hA.form
 obtain⟨w2,ew2⟩:∃w2,w2=w.alloc (.cells #[.slice a0 st.L.length k0,.slice a1 S.length k1,.slice a2 st.I.length k2,.slice a3 st.O.length k3,.int .i64 st.D,.slice aa c.ar.length ac,.slice fa c.fs.length fc,.int .i64 c.mn0,.slice ia A.length ic,.int .i64 z] 48):=⟨_,rfl⟩
 have hk2:w2.heap[w.heap.size]?=some (.cells #[.slice a0 st.L.length k0,.slice a1 S.length k1,.slice a2 st.I.length k2,.slice a3 st.O.length k3,.int .i64 st.D,.slice aa c.ar.length ac,.slice fa c.fs.length fc,.int .i64 c.mn0,.slice ia A.length ic,.int .i64 z] 48):=by rw[ew2];exact heap_alloc_new _ _
 have hb2:Below w.heap.size w w2:=by rw[ew2];exact(Below.refl _ _).alloc (Nat.le_refl _) _
 have EW:=zH ew2
 have HUP:=zH (fun(V:World) (hV:Below w2.heap.size w2 V)=>hb2.trans (hV.mono hb2.size))
 have HPO:=zH (fun(V:World) (hV:Below w2.heap.size w2 V)=>hp.below (HUP.out V hV))
 have HAR:=zH (fun(V:World) (hV:Below w2.heap.size w2 V)=>(ha.below (HUP.out V hV)).mono (HUP.out V hV).size)
 have HFU:=zH (fun(V:World) (hV:Below w2.heap.size w2 V)=>(hf.below (HUP.out V hV)).mono (HUP.out V hV).size)
 have HGA:=zH (fun(V:World) (hV:Below w2.heap.size w2 V)=>(hA.below (HUP.out V hV)).mono (HUP.out V hV).size)
 have HTZ:=zH (fun(V:World) (hV:Below w2.heap.size w2 V)=>hTz.on (HUP.out V hV))
 have HSH:=zH (fun(V:World) (hV:Below w2.heap.size w2 V)=>hT.on (HUP.out V hV))
 have HBJ:=zH (fun(V:World) (hV:Below w2.heap.size w2 V)=>box10J (eS hV hk2))
 have H0:=zH (Below.refl w2.heap.size w2)
 have HSOME:=zH (rsome_any _ _ c w2 (HAR.out _ H0.out) (HFU.out _ H0.out))
 have HW:=zH hw
 have HS6:=zH hsh
 have HSM:=zH hs
 have HX:=zH hx
 have hAl:=hx.1
 obtain⟨q0,q1,q2,q3,q4,q5,q6,q7,q8,q9⟩:=HBJ.out w2 H0.out
 clear hp hw hTz hT hsh ha hf hs hA hx ew2 hk2 hb2
 go_enter Tryz.func4,Tryz.ntmps4
 go_upto_region 1 with fail
 rw[<-EW.out]
 go_wp2_with fail
 refine HSOME.out.mono ?_
 rintro e w3 ⟨⟨sz,rfl,hsz⟩,hb3⟩
 have HB3:=zH hb3
 clear hb3 q0 q1 q2 q3 q4 q5 q6 q7 q8 q9 HSOME
 obtain⟨q0,q1,q2,q3,q4,q5,q6,q7,q8,q9⟩:=HBJ.out _ HB3.out
 cases sz
 ·clear hsz
  go_wp2_with fail
  go_ret
  exact⟨rfl,HUP.out _ HB3.out⟩
 ·have HFEW:=zH (hsz rfl)
  clear hsz
  by_cases hz:5000<z
  ·have t1:decide (5000<z)=true:=decide_eq_true hz
   clear hz
   go_wp2_with fail
   go_ret
   exact⟨rfl,HUP.out _ HB3.out⟩
  ·have t1:decide (5000<z)=false:=decide_eq_false hz
   have HZ:=zH (show z<=1048576 by omega)
   clear hz
   by_cases hA40:40<A.length
   ·have t2:decide (40<A.length)=true:=decide_eq_true hA40
    have t3:decide ((40:Int)<(A.length:Int))=true:=decide_eq_true (by omega)
    clear hA40
    go_wp2_with fail
    go_ret
    exact⟨rfl,HUP.out _ HB3.out⟩
   ·have t2:decide (40<A.length)=false:=decide_eq_false hA40
    have t3:decide ((40:Int)<(A.length:Int))=false:=decide_eq_false (by omega)
    have HA40:=zH hA40
    go_wp2_with fail
    go_loopw [3] (fun s3 wr=>∃i:Nat,i<=A.length/\s3=.int .i64 (i:Int)/\RowKit.Hid (wr=w3)) (fun s3 _=>A.length-(intOf s3).toNat)
    case atStart=>exact⟨0,Nat.zero_le _,rfl,zH rfl⟩
    case round =>
     obtain⟨i,hi,rfl,HWR⟩:=hrel
     rw[HWR.out]
     clear HWR
     by_cases hlt:i<A.length
     ·have HLT:=zH hlt
      have hA0:0<A.length:=by omega
      obtain⟨gb,go,ga',gc',eia,hgc⟩:=graph_at2 (HGA.out _ HB3.out) hlt
      subst eia
      have i1:(0:Int)<=i/\(i:Int)<A.length:=by omega
      obtain⟨n,en⟩:∃n,n=(A[i]?.getD []).length:=⟨_,rfl⟩
      rw[<-en] at hgc
      clear en hlt
      by_cases hn:5000<n
      ·have t4:decide (5000<n)=true:=decide_eq_true hn
       have t5:decide ((5000:Int)<(n:Int))=true:=decide_eq_true (by omega)
       clear hn
       go_wp2_with fail
       go_ret
       exact⟨rfl,HUP.out _ HB3.out⟩
      ·have t4:decide (5000<n)=false:=decide_eq_false hn
       have t5:decide ((5000:Int)<(n:Int))=false:=decide_eq_false (by omega)
       clear hn
       go_wp2_with fail
       go_roundw
       case rel=>exact⟨i+1,HLT.out,by go_num,(by first | exact zH rfl | exact zH trivial)⟩
       case measure=>have:=HLT.out;simp [intOf];omega
     ·have HDEEP :=zH (cdeep_any _ _ _ _ _ _ st S c w3 (HPO.out _ HB3.out) HW.out (HTZ.out _ HB3.out) (HSH.out _ HB3.out) HS6.out (HAR.out _ HB3.out) (HFU.out _ HB3.out) HFEW.out HSM.out)
      go_wp2_with fail
      refine HDEEP.out.mono ?_
      rintro e w5 ⟨hE,hb5⟩
      have HB5:=zH (bstep HB3.out hb5)
      clear hb5 q0 q1 q2 q3 q4 q5 q6 q7 q8 q9 HDEEP hlt hi t1 t2 t3
      by_cases hR:gj (aS st S) (bI st c) c
      ·have HR:=zH hR
       obtain⟨lv,rfl,hg⟩:=hE.1 hR
       have hgu:=hg
       obtain⟨la,lc,rfl⟩:=hg.form
       have hdl:=sx hR.1 st.D
       have HL5:=zH hgu
       have hfl:c.fs.length<=100:=HFEW.out.f
       obtain⟨xs,exs⟩:∃xs,xs=gP c st.D:=⟨_,rfl⟩
       rw[<-exs] at HL5 hdl ⊢
       have HEX:=zH exs
       have HDL:=zH hdl
       have t1:((xs.length:Int) != (c.fs.length:Int))=false:=by rw[hdl];simp
       obtain⟨q0,q1,q2,q3,q4,q5,q6,q7,q8,q9⟩:=HBJ.out _ HB5.out
       have HF5:=zH (HFU.out _ HB5.out)
       clear hE hR hg hgu exs hdl
       go_wp2_with fail
       go_loopw [6] (fun s6 wr=>∃i:Nat,i<=c.fs.length/\s6=.int .i64 (i:Int)/\RowKit.Hid (wr=w5)/\RowKit.Hid (∀i',i'<i->∀k j,k<(fnAt c i').bs.length->j<(blAt (fnAt c i') k).length->¬jB c xs i' k j)) (fun s6 _=>c.fs.length-(intOf s6).toNat)
       case atStart=>exact⟨0,Nat.zero_le _,rfl,zH rfl,zH fun i' h=>absurd h (Nat.not_lt_zero _)⟩
       case round =>
        obtain⟨i,hi,rfl,HWR,HI⟩:=hrel
        rw[HWR.out]
        clear HWR
        by_cases hlt:i<c.fs.length
        ·have HLT :=zH hlt
         obtain⟨fb,fo,ba,bc,ef,hfb,h0,h1,h2,h3⟩:=HF5.out.at hlt
         cases ef
         have HBL:=zH (show aX w5.heap.size w5 (.slice ba (fnAt c i).bs.length bc) (fnAt c i).bs from h3)
         change w5.cell? _=some (.slice ba (fnAt c i).bs.length bc) at h2
         have i1:(0:Int)<=i/\(i:Int)<c.fs.length:=by omega
         have hbn:=HFEW.out.b i hlt
         have HLL:=zH (HFEW.out.l i hlt)
         clear hlt h0 h1 h3
         go_wp2_with fail
         go_loopw [7] (fun s7 wr'=>∃k:Nat,k<=(fnAt c i).bs.length/\s7=.int .i64 (k:Int)/\RowKit.Hid (wr'=w5)/\RowKit.Hid (∀k',k'<k->∀j,j<(blAt (fnAt c i) k').length->¬jB c xs i k' j)) (fun s7 _=>(fnAt c i).bs.length-(intOf s7).toNat)
         case atStart=>exact⟨0,Nat.zero_le _,rfl,zH rfl,zH fun k' h=>absurd h (Nat.not_lt_zero _)⟩
         case round =>
          obtain⟨k,hk,rfl,HWR,HK⟩:=hrel
          rw[HWR.out]
          clear HWR
          by_cases hkl:k<(fnAt c i).bs.length
          ·have HKL:=zH hkl
           obtain⟨kb,ko,ka,kc,ek,hkb,hk2,hk3⟩:=HBL.out.at hkl
           cases ek
           change World.cell? _ _=some (.slice ka (blAt (fnAt c i) k).length kc) at hk2
           have HOP:=zH hk3
           have i2:(0:Int)<=k/\(k:Int)<(fnAt c i).bs.length:=by omega
           have hll:=HLL.out k hkl
           clear hkl hk3
           go_wp2_with fail
           go_loopw [8] (fun s8 wr''=>∃j:Nat,j<=(blAt (fnAt c i) k).length/\s8=.int .i64 (j:Int)/\RowKit.Hid (wr''=w5)/\RowKit.Hid (∀j',j'<j->¬jB c xs i k j')) (fun s8 _=>(blAt (fnAt c i) k).length-(intOf s8).toNat)
           case atStart=>exact⟨0,Nat.zero_le _,rfl,zH rfl,zH fun j' h=>absurd h (Nat.not_lt_zero _)⟩
           case round =>
            obtain⟨j,hj,rfl,HWR,HJ⟩:=hrel
            rw[HWR.out]
            clear HWR
            by_cases hjl:j<(blAt (fnAt c i) k).length
            ·have HJL:=zH hjl
             obtain⟨jb,jo,xa,xc,ya,yc,ej,hjb,ho3,_,_⟩:=HOP.out.at hjl
             cases ej
             have hkind:=ho3 0 _ rfl
             change World.cell? _ _=some (.int .u8 (ae (blAt (fnAt c i) k) j).k) at hkind
             rw[Nat.add_zero] at hkind
             have i3:(0:Int)<=j/\(j:Int)<(blAt (fnAt c i) k).length:=by omega
             obtain⟨rb,ro,e1,hbool⟩:=HL5.out.cellAt (k:=i) (by have:=HLT.out;have:=HDL.out;omega)
             cases e1
             have i4:(0:Int)<=i/\(i:Int)<xs.length:=by have:=HLT.out;have:=HDL.out;omega
             obtain⟨x,ex⟩:∃x,x=xs[i]?.getD false:=⟨_,rfl⟩
             obtain⟨kd,ekd⟩:∃kd,kd=(ae (blAt (fnAt c i) k) j).k:=⟨_,rfl⟩
             rw[<-ex] at hbool
             rw[<-ekd] at hkind
             have HEX2:=zH ex
             have HKD:=zH ekd
             clear ex ekd hjl ho3
             cases x
             ·go_wp2_with fail
              go_roundw
              case rel=>exact⟨j+1,HJL.out,by go_num,(by first | exact zH rfl | exact zH trivial),zH fun j' hj'=>by
               by_cases e:j'=j
               ·rw[e];rintro ⟨h1,_⟩;rw[<-HEX2.out] at h1;cases h1
               ·exact HJ.out j' (by omega)⟩
              case measure=>have:=HJL.out;simp [intOf];omega
             ·by_cases h7:kd=7
              ·have t7:(kd == 7)=true:=by rw[beq_iff_eq];exact h7
               clear h7
               go_wp2_with fail
               refine(fZ _).mono ?_
               rintro e w10 ⟨rfl,hb⟩
               have HB10:=zH (bstep HB5.out hb)
               clear hb
               go_wp2_with fail
               go_ret
               exact⟨rfl,HUP.out _ HB10.out⟩
              ·have t7:(kd == 7)=false:=by rw[beq_eq_false_iff_ne];exact h7
               have H7:=zH h7
               clear h7
               go_wp2_with fail
               go_roundw
               case rel=>exact⟨j+1,HJL.out,by go_num,(by first | exact zH rfl | exact zH trivial),zH fun j' hj'=>by
                by_cases e:j'=j
                ·rw[e];rintro ⟨_,h1⟩;rw[<-HKD.out] at h1;exact H7.out h1
                ·exact HJ.out j' (by omega)⟩
               case measure=>have:=HJL.out;simp [intOf];omega
            ·have HJE:=zH (show j=(blAt (fnAt c i) k).length by omega)
             go_wp2_with fail
             go_roundw
             case rel=>exact⟨k+1,HKL.out,by go_num,(by first | exact zH rfl | exact zH trivial),zH fun k' hk'=>by
              by_cases e:k'=k
              ·rw[e];exact fun j' hj'=>HJ.out j' (by rw[HJE.out];exact hj')
              ·exact HK.out k' (by omega)⟩
             case measure=>have:=HKL.out;simp [intOf];omega
          ·have HKE:=zH (show k=(fnAt c i).bs.length by omega)
           go_wp2_with fail
           go_roundw
           case rel=>exact⟨i+1,HLT.out,by go_num,(by first | exact zH rfl | exact zH trivial),zH fun i' hi'=>by
            by_cases e:i'=i
            ·rw[e];exact fun k' j' hk' hj'=>HK.out k' (by rw[HKE.out];exact hk') j' hj'
            ·exact HI.out i' (by omega)⟩
           case measure=>have:=HLT.out;simp [intOf];omega
        ·have HRUN:=zH (run_any _ _ _ _ _ _ _ st S c A z w5 (HPO.out _ HB5.out) HW.out (HTZ.out _ HB5.out) (HSH.out _ HB5.out) HS6.out (HAR.out _ HB5.out) (HFU.out _ HB5.out) HFEW.out HSM.out (HGA.out _ HB5.out) HX.out HZ.out HR.out (fun i' k j hi' hk hj hd=>HI.out i' (by omega) k j hk hj (by unfold jB;rw[HEX.out];exact hd)))
         go_wp2_with fail
         refine HRUN.out.mono ?_
         intro e w6 hE6
         obtain⟨s,n,f,ea,en,ec,rfl,hsf,hb6⟩:=hE6.of
         have HB6:=zH (bstep HB5.out hb6)
         clear hE6 hb6 q0 q1 q2 q3 q4 q5 q6 q7 q8 q9 HRUN hlt hi
         by_cases hf0:f=0
         ·have hs22:=hsf hf0
          have t4:(f != 0)=false:=by rw[hf0];rfl
          have t5:(s != 22)=true:=by simp [hs22]
          clear hf0 hsf hs22
          go_wp2_with fail
          refine(fZ _).mono ?_
          rintro e w10 ⟨rfl,hb⟩
          have HB10:=zH (bstep (HB6.out.alloc HB6.out.size _) hb)
          clear hb
          go_wp2_with fail
          go_ret
          exact⟨rfl,HUP.out _ HB10.out⟩
         ·have t4:(f != 0)=true:=by simp [hf0]
          clear hf0 hsf
          go_wp2_with fail
          refine(fZ _).mono ?_
          rintro e w10 ⟨rfl,hb⟩
          have HB10:=zH (bstep (HB6.out.alloc HB6.out.size _) hb)
          clear hb
          go_wp2_with fail
          go_ret
          exact⟨rfl,HUP.out _ HB10.out⟩
      ·have hE2:=hE.2 hR
       subst hE2
       clear hE hR
       go_wp2_with fail
       refine(fZ _).mono ?_
       rintro e w10 ⟨rfl,hb⟩
       have HB10:=zH (bstep HB5.out hb)
       clear hb
       go_wp2_with fail
       go_ret
       exact⟨rfl,HUP.out _ HB10.out⟩
end
end Go.Proofs.YtjngffgkllakaaaGreatDoor.IP
namespace Go.Proofs.YtjngffgkllakaaaGreatDoor
open List renaming getElem_toArray → zA, getElem_cons_succ → zB, getElem_cons_zero → zC, setIfInBounds_toArray → zD, set_cons_zero → zE, set_cons_succ → zF
open Lib renaming hid → zH
section
open Go.RowKit
theorem own:ownKnob Tryz.prog.godebug=none:=by kernel_rfl
theorem laidOut:laidOutB Tryz.prog=true:=by kernel_rfl
noncomputable def doorW (os:Os):World:=World.doorLaid Tryz.prog 32 os
theorem qr{l:List (String × DataW Unit)}{W:World}(h:laidMetH Tryz.prog l W)(keep:String × DataW Unit->Bool){m:List (String × DataW Unit)}
 (e:((l.filter fun x=>x.2.handleName?.isNone).filter keep)=m):laidMet Tryz.prog m W:=e ▸ (laidMetH_iff.1 h).1.filter keep
end
section
open Go.RowKit
theorem gTz:Tryz.prog.globalNamed "math/bits.deBruijn64tab" = some 0:=by kernel_rfl
theorem gTzType:(Tryz.prog.globals[0]?).map (·.type)=some 300:=by kernel_rfl
def tzL:List Int:=Lib.deBruijn64tab.map fun(n:Nat)=>(n:Int)
theorem tz_of{l:List (String × DataW Unit)}{W:World}(h:laidMetH Tryz.prog l W)
 (e:((l.filter fun x=>x.2.handleName?.isNone).filter fun x=>x.1 == "math/bits.deBruijn64tab")=[("math/bits.deBruijn64tab",Rows.laid_math_bits_deBruijn64tab)]):Tz W:=by
 have h':=qr h _ e
 have ht:Lib.TabIs Tryz.prog W "math/bits.deBruijn64tab" .u8 tzL :=
  Lib.tabIs_of_head (rest:=[]) gTz gTzType Tryz.underlying300 Tryz.underlying5 (by kernel_rfl) (by kernel_rfl) h'
 intro j hj
 have hc:=ht.cell gTz j (by unfold tzL;rw[List.length_map];exact hj)
 rw[hc]
 unfold tzL
 rw[List.getD_eq_getElem?_getD,List.getD_eq_getElem?_getD,List.getElem?_map,List.getElem?_eq_getElem hj]
 rfl
end
section
open Go.RowKit
theorem gSh:Tryz.prog.globalNamed "interdict/names.shapes" = some shG:=by kernel_rfl
theorem gShType:(Tryz.prog.globals[shG]?).map (·.type)=some 305:=by kernel_rfl
def shRow(k:Nat):List (DataW Unit):=[.lit (.int .u8 (refW k)),.lit (.int .u8 (altW k)),.lit (.bool (decide (CD.Defs k))),.lit (.int .i64 (CD.argN k:Nat))]
theorem shapes_is:(Rows.laid_interdict_names_shapes:DataW Unit)=.agg ((List.range 14).map fun k=>.agg (shRow k)):=by kernel_rfl
set_option maxRecDepth 100000 in
theorem sht_of{l:List (String × DataW Unit)}{W:World}(h:laidMetH Tryz.prog l W)
 (e:((l.filter fun x=>x.2.handleName?.isNone).filter fun x=>x.1 == "interdict/names.shapes")=[("interdict/names.shapes",Rows.laid_interdict_names_shapes)]):ShT W:=by
 have h':=qr h _ e
 rw[shapes_is] at h'
 obtain⟨g,t,cs,fuel,p,hg,hty,hvar,hd⟩:=Lib.laidMet.reads h' (.head _)
 obtain rfl:=Option.some.inj (gSh.symm.trans hg)
 obtain rfl:=Option.some.inj (gShType.symm.trans hty)
 have c4:Tryz.prog.cellsOf 304=4:=by kernel_rfl
 have c8:Tryz.prog.cellsOf 237=1:=by kernel_rfl
 have cb:Tryz.prog.cellsOf 4=1:=by kernel_rfl
 have ci:Tryz.prog.cellsOf 3=1:=by kernel_rfl
 intro k hk
 obtain⟨fuel',d,q,hdi,he⟩:=Lib.array_elem Tryz.underlying305 hd k hk
 simp only[List.getElem?_map,List.getElem?_range hk,Option.map_some,Option.some.injEq] at hdi
 subst hdi
 rw[c4] at he
 obtain⟨xs,n,_,hx,hl,hxl,hall⟩:=DataW.trod_struct Tryz.underlying304 he
 match xs,hxl with
 | [y0,y1,y2,y3],_ =>
   have g0:=hall 0 _ rfl
   have g1:=hall 1 _ rfl
   have g2:=hall 2 _ rfl
   have g3:=hall 3 _ rfl
   simp only[List.getElem?_cons_zero,List.getElem?_cons_succ] at g0 g1 g2 g3
   obtain⟨n0,e0,z0,_⟩:=DataW.trod_int Tryz.underlying237 g0
   obtain⟨n1,e1,z1,_⟩:=DataW.trod_int Tryz.underlying237 g1
   obtain⟨b2,e2,z2⟩:=DataW.trod_bool Tryz.underlying4 g2
   obtain⟨n3,e3,z3,_⟩:=DataW.trod_int Tryz.underlying3 g3
   have hr:shRow k=[y0.1,y1.1,y2.1,y3.1]:=by simpa using (Prod.mk.inj hx).1
   rw[z0,z1,z2,z3] at hr
   unfold shRow at hr
   simp only[List.cons.injEq,DataW.lit.injEq,Lit.int.injEq,Lit.bool.injEq,true_and,and_true] at hr
   obtain⟨r0,r1,r2,r3⟩:=hr
   subst r0 r1 r2 r3
   have f0:=congrArg (·[0]?) e0
   have f1:=congrArg (·[0]?) e1
   have f2:=congrArg (·[0]?) e2
   have f3:=congrArg (·[0]?) e3
   simp [c8,cb,ci,List.getElem?_take,List.getElem?_drop] at f0 f1 f2 f3
   refine⟨?_,?_,?_,?_⟩
   ·rw[World.var?_cell hg hvar (k*4)];exact f0
   ·rw[World.var?_cell hg hvar (k*4+1)];exact f1
   ·rw[World.var?_cell hg hvar (k*4+2)];exact f2
   ·rw[World.var?_cell hg hvar (k*4+3)];exact f3
end
section
open Go.ChangeShapes Go.WideShapes Go.ChangeAt Go.RowKit Go.Deep Go.Joins
section
variable {H:Type} {enc:TypeId × Value->H} {W:World} {fuel:Nat} {v:Value} {x:DataW H × List MemPlace}
theorem gd{P:Program}{t e:TypeId}{A B:List (DataW H)}(ht:P.underlying t=some (.slice e))(hsz:∀n∈(DataW.slice A B:DataW H).weights P t,n<=reachBytes):(A.length+B.length)*P.bytesOf e<=140737488351232:=by
 have e1:reachBytes=140737488351232:=by decide
 rw[<-e1]
 refine hsz _ ?_
 simp only[DataW.weights,ht]
 exact List.mem_cons_self ..
theorem cQ{P:Program}{e:TypeId}{d:DataW H}{n:Nat}:∀ {l:List (DataW H)},d∈l->n∈d.weights P e->n∈DataW.weightsAll P e l
 | x :: l,hd,hn=>by
   simp only[DataW.weightsAll,List.mem_append]
   rcases List.mem_cons.1 hd with rfl | hd
   ·exact .inl hn
   ·exact .inr (cQ hd hn)
theorem open_strs(hf:DataW.trod enc Tryz.prog W 0 (fun _=>true) true fuel 22 [v]=some x)(hsz:∀n∈x.1.weights Tryz.prog 22,n<=reachBytes) :
 ∃ss,Strs W.heap.size W v ss/\ss.length*16<=140737488351232/\∀j,j<ss.length->(wd6 ss j).size<=140737488351232:=by
 rcases open_slice Tryz.underlying22 hf with⟨hcs,_⟩ | ⟨y,l,c,m,n,D,Pl,hcs,_,hl,hm,hmm,hx,hel⟩
 ·simp at hcs
  subst hcs
  exact⟨[],.inl ⟨⟨_,_,rfl,fun _=>rfl⟩,rfl⟩,by decide,fun j hj=>absurd hj (Nat.not_lt_zero _)⟩
 ·simp at hcs
  subst hcs
  have hm':m=c:=by simpa using hmm
  have ce:Tryz.prog.cellsOf 9=1:=by kernel_rfl
  have eR:reachBytes=140737488351232:=by decide
  have each:∀i,i<l->∃q:ByteArray,W.cell? (y.add i)=some (.string q)/\q.size<=140737488351232:=by
   intro i hi
   obtain⟨cs',h1,h2⟩:=hel i (by omega)
   rw[ce,Nat.mul_one] at h1
   obtain⟨_,hlen,hcell⟩:=World.cells?_some h1
   obtain⟨s,rfl,hD,_⟩:=DataW.trod_string Tryz.underlying9 h2
   have c0:=hcell 0 (by omega)
   rw[add_add] at c0
   have hDi:D i=.lit (.string s.data.toList):=(Prod.mk.inj hD).1
   have hw:=hsz s.data.toList.length (by
    rw[hx]
    simp only[DataW.weights,Tryz.underlying22]
    exact List.mem_cons_of_mem _ (List.mem_append_left _ (cQ (d:=D i) (List.mem_map.2 ⟨i,List.mem_range.2 hi,rfl⟩) (by rw[hDi];simp [DataW.weights]))))
   rw[eR] at hw
   exact⟨s,by simpa using c0,by simpa using hw⟩
  obtain⟨q,hq⟩:=choose_lt each
  have hb:l*16<=140737488351232:=by
   have hw:=hsz
   rw[hx] at hw
   have:=gd Tryz.underlying22 hw
   have e2:Tryz.prog.bytesOf 9=16:=by kernel_rfl
   rw[e2,List.length_map,List.length_range,List.length_map,List.length_range] at this
   omega
  refine⟨(List.range l).map q,?_,by simpa using hb,fun j hj=>by
   have hj':j<l:=by simpa using hj
   unfold wd6
   rw[List.getElem?_map,List.getElem?_range hj']
   exact(hq j hj').2⟩
  by_cases h0:l=0
  ·subst h0;exact .inl ⟨⟨_,_,rfl,fun e=>by cases e⟩,rfl⟩
  ·obtain⟨b,off,spot⟩:=y
   have hc:=(hq 0 (by omega)).1
   have hspot:spot=none:=by simpa [Addr.add] using World.cell?_spot hc
   subst hspot
   have hlt:b<W.heap.size:=by
    apply Classical.byContradiction;intro hn
    simp [World.cell?,Addr.add,Array.getElem?_eq_none (Nat.le_of_not_lt hn)] at hc
   refine .inr ⟨b,off,c,by simp,hlt,by simpa using hl,fun j hj=>?_⟩
   have hj':j<l:=by simpa using hj
   have:=(hq j hj').1
   rw[Addr.add_lit] at this
   rw[List.getElem?_map,List.getElem?_range hj']
   exact this
theorem sy(hf:DataW.trod enc Tryz.prog W 0 (fun _=>true) true fuel 23 [v]=some x)(hsz:∀n∈x.1.weights Tryz.prog 23,n<=reachBytes) :
 ∃xs,Nums .u64 W.heap.size W v xs/\(∀c,v=.slice none 0 c->c=0)/\Wide xs/\xs.length*8<=140737488351232:=by
 rcases open_slice Tryz.underlying23 hf with⟨hcs,_⟩ | ⟨y,l,c,m,n,D,Pl,hcs,_,hl,hm,hmm,hx,hel⟩
 ·simp at hcs
  subst hcs
  exact⟨[],.inl ⟨⟨_,_,rfl⟩,rfl⟩,fun c e=>by cases e;rfl,(fun x hx=>by simp at hx),by decide⟩
 ·simp at hcs
  subst hcs
  have hm':m=c:=by simpa using hmm
  have ce:Tryz.prog.cellsOf 178=1:=by kernel_rfl
  have each:∀i,i<l->∃q:Int,W.cell? (y.add i)=some (.int .u64 q)/\0<=q/\q<=18446744073709551615:=by
   intro i hi
   obtain⟨cs',h1,h2⟩:=hel i (by omega)
   rw[ce,Nat.mul_one] at h1
   obtain⟨_,hlen,hcell⟩:=World.cells?_some h1
   obtain⟨s,rfl,_,hw⟩:=DataW.trod_int Tryz.underlying178 h2
   have c0:=hcell 0 (by omega)
   rw[add_add] at c0
   exact⟨s,by simpa using c0,wf_u64_bd hw⟩
  obtain⟨q,hq⟩:=choose_lt each
  have hb:l*8<=140737488351232:=by
   have hw:=hsz
   rw[hx] at hw
   have:=gd Tryz.underlying23 hw
   have e2:Tryz.prog.bytesOf 178=8:=by kernel_rfl
   rw[e2,List.length_map,List.length_range,List.length_map,List.length_range] at this
   omega
  refine⟨(List.range l).map q,?_,(fun c e=>by cases e),(fun z hz=>?_),by simpa using hb⟩
  ·by_cases h0:l=0
   ·subst h0;exact .inl ⟨⟨_,_,rfl⟩,rfl⟩
   ·obtain⟨b,off,spot⟩:=y
    have hc:=(hq 0 (by omega)).1
    have hspot:spot=none:=by simpa [Addr.add] using World.cell?_spot hc
    subst hspot
    have hlt:b<W.heap.size:=by
     apply Classical.byContradiction;intro hn
     simp [World.cell?,Addr.add,Array.getElem?_eq_none (Nat.le_of_not_lt hn)] at hc
    refine .inr ⟨b,off,c,by simp,hlt,by simpa using hl,fun j hj=>?_⟩
    have hj':j<l:=by simpa using hj
    have:=(hq j hj').1
    rw[Addr.add_lit] at this
    rw[List.getElem?_map,List.getElem?_range hj']
    exact this
  ·obtain⟨j,hj,rfl⟩:=List.mem_map.1 hz
   exact(hq j (List.mem_range.1 hj)).2
set_option maxRecDepth 100000 in
theorem lP(hf:DataW.trod enc Tryz.prog W 0 (fun _=>true) true fuel 24 [v]=some x)(hsz:∀n∈x.1.weights Tryz.prog 24,n<=reachBytes) :
 ∃cs,dM W.heap.size W v cs/\(∀p∈cs,(Lit.int .i64 p.2).wf=true)/\cs.length*24<=140737488351232/\∀j,j<cs.length->(chAt cs j).1.size<=140737488351232:=by
 rcases open_slice Tryz.underlying24 hf with⟨hcs,_⟩ | ⟨y,l,c,m,n,D,Pl,hcs,_,hl,hm,hmm,hx,hel⟩
 ·simp at hcs
  subst hcs
  exact⟨[],.inl ⟨⟨_,_,rfl,fun _=>rfl⟩,rfl⟩,(fun x hx=>by simp at hx),by decide,fun j hj=>absurd hj (Nat.not_lt_zero _)⟩
 ·simp at hcs
  subst hcs
  have hm':m=c:=by simpa using hmm
  have eR:reachBytes=140737488351232:=by decide
  have ce:Tryz.prog.cellsOf 196=2:=by kernel_rfl
  have cs1:Tryz.prog.cellsOf 9=1:=by kernel_rfl
  have ci1:Tryz.prog.cellsOf 3=1:=by kernel_rfl
  have each:∀i,i<l->∃q:ByteArray × Int,W.cell? (y.add (i*2))=some (.string q.1)/\W.cell? (y.add (i*2+1))=some (.int .i64 q.2)/\(Lit.int .i64 q.2).wf=true/\q.1.size<=140737488351232:=by
   intro i hi
   obtain⟨cs',h1,h2⟩:=hel i (by omega)
   rw[ce] at h1
   obtain⟨_,hlen,hcell⟩:=World.cells?_some h1
   obtain⟨xs,k,_,hxD,_,hxl,hg⟩:=DataW.trod_struct Tryz.underlying196 h2
   match xs,hxl,cs',hlen with
   | [y0,y1],_,[u0,u1],_ =>
     have g0:=hg 0 _ rfl
     have g1:=hg 1 _ rfl
     simp [cs1] at g0
     simp [ci1] at g1
     obtain⟨s,e0,hy0,_⟩:=DataW.trod_string Tryz.underlying9 g0
     obtain⟨n1,e1,_,hw⟩:=DataW.trod_int Tryz.underlying3 g1
     have c0:=hcell 0 (by omega)
     have c1:=hcell 1 (by omega)
     rw[add_add] at c0 c1
     simp at e0 e1
     subst e0 e1
     have hDi:D i=.agg [y0.1,y1.1]:=by simpa using (Prod.mk.inj hxD).1
     have hws:=hsz s.data.toList.length (by
      rw[hx]
      simp only[DataW.weights,Tryz.underlying24]
      refine List.mem_cons_of_mem _ (List.mem_append_left _ (cQ (d:=D i) (List.mem_map.2 ⟨i,List.mem_range.2 hi,rfl⟩) ?_))
      rw[hDi]
      simp only[DataW.weights,Tryz.underlying196]
      simp only[DataW.weightsEach,List.map_cons,List.map_nil,List.mem_append]
      refine .inl ?_
      rw[hy0]
      simp [DataW.weights])
     rw[eR] at hws
     exact⟨(s,n1),by simpa using c0,by simpa using c1,hw,by simpa using hws⟩
  obtain⟨q,hq⟩:=choose_lt each
  have hb:l*24<=140737488351232:=by
   have hw:=hsz
   rw[hx] at hw
   have:=gd Tryz.underlying24 hw
   have e2:Tryz.prog.bytesOf 196=24:=by kernel_rfl
   rw[e2,List.length_map,List.length_range,List.length_map,List.length_range] at this
   omega
  refine⟨(List.range l).map q,?_,(fun p hp=>?_),by simpa using hb,fun j hj=>by
   have hj':j<l:=by simpa using hj
   unfold chAt
   rw[List.getElem?_map,List.getElem?_range hj']
   exact(hq j hj').2.2.2⟩
  ·by_cases h0:l=0
   ·subst h0;exact .inl ⟨⟨_,_,rfl,fun e=>by cases e⟩,rfl⟩
   ·obtain⟨b,off,spot⟩:=y
    have hc:=(hq 0 (by omega)).1
    have hspot:spot=none:=by simpa [Addr.add] using World.cell?_spot hc
    subst hspot
    have hlt:b<W.heap.size:=by
     apply Classical.byContradiction;intro hn
     simp [World.cell?,Addr.add,Array.getElem?_eq_none (Nat.le_of_not_lt hn)] at hc
    refine .inr ⟨b,off,c,by simp,hlt,by simpa using hl,fun j hj=>?_⟩
    have hj':j<l:=by simpa using hj
    have:=hq j hj'
    rw[Addr.add_lit,Addr.add_lit] at this
    rw[List.getElem?_map,List.getElem?_range hj']
    exact⟨by simpa using this.1,by simpa [Nat.add_assoc] using this.2.1⟩
  ·obtain⟨j,hj,rfl⟩:=List.mem_map.1 hp
   exact(hq j (List.mem_range.1 hj)).2.2.1
end
end
section
open Go.ChangeShapes Go.WideShapes Go.RowKit Go.Deep Go.Joins
instance:Inhabited OpV:=⟨⟨0,0,0,0,0,none,0,0,none,0,0,0,0⟩⟩
theorem gweight{H:Type}{P:Program}{t e:TypeId}{A B:List (DataW H)}(ht:P.underlying t=some (.slice e))(hsz:∀n∈(DataW.slice A B:DataW H).weights P t,n<=reachBytes):(A.length+B.length)*P.bytesOf e<=140737488351232:=by
 have e1:reachBytes=140737488351232:=by decide
 rw[<-e1]
 refine hsz _ ?_
 simp only[DataW.weights,ht]
 exact List.mem_cons_self ..
section
variable {H:Type} {enc:TypeId × Value->H} {W:World} {fuel:Nat} {v:Value} {x:DataW H × List MemPlace}
end
end
section
open Go.ChangeShapes Go.WideShapes Go.RowKit Go.Deep Go.Joins
open CD (OpP BodyP CodeP ae blAt fnAt)
instance:Inhabited OpP:=⟨CD.o0⟩
instance:Inhabited BodyP:=⟨CD.b0⟩
section
variable {H:Type} {enc:TypeId × Value->H} {W:World} {fuel:Nat} {v:Value} {x:DataW H × List MemPlace}
theorem nc(hf:DataW.trod enc Tryz.prog W 0 (fun _=>true) true fuel 54 [v]=some x)(hsz:∀n∈x.1.weights Tryz.prog 54,n<=reachBytes) :
 ∃(a:Option Addr) (c:Nat) (zs:List Int),v=.slice a zs.length c/\Row W.heap.size W (.slice a zs.length c) zs/\zs.length<=17592186044416:=by
 rcases open_ints Tryz.underlying54 Tryz.underlying3 (by kernel_rfl) hf with⟨hcs,_⟩ | ⟨y,l,c,zs,hcs,_,hl,hm,hz,hx,hcell,hwz⟩
 ·simp at hcs
  subst hcs
  exact⟨none,0,[],rfl,aT _ _ _ _ (fun _=>rfl),Nat.zero_le _⟩
 ·simp at hcs
  subst hcs
  have hzl:zs.length=c:=by simpa using hz
  have htl:(zs.take l).length=l:=by rw[List.length_take];omega
  refine⟨some y,c,zs.take l,by rw[htl],?_,?_⟩
  ·by_cases h0:l=0
   ·subst h0
    rw[List.take_zero]
    exact aT _ _ _ _ (fun e=>by cases e)
   ·have hc:=hcell 0 (by omega)
    rw[show y.add 0=y from by cases y;rename_i s;cases s <;> simp [Addr.add]] at hc
    obtain⟨b,off,rfl,hlt⟩:=kE hc
    refine .inr ⟨b,off,c,by rw[aC],hlt,by rw[aC,htl];exact hl,fun k u hk=>?_⟩
    have hkn:k<l:=by
     have:=(List.getElem?_eq_some_iff.1 hk).1
     rwa [aC,htl] at this
    have h7:=hcell k (by omega)
    rw[Addr.add_lit] at h7
    rw[h7]
    rw[fk (by omega),List.getElem?_take_of_lt hkn] at hk
    rw[List.getD_eq_getElem?_getD]
    exact hk
  ·rw[hx] at hsz
   have h:=gweight Tryz.underlying54 hsz
   have e2:Tryz.prog.bytesOf 3=8:=by kernel_rfl
   rw[e2] at h
   simp only[lits,List.length_map,List.length_take,List.length_drop] at h
   omega
set_option maxRecDepth 100000 in
theorem open_opsF(hf:DataW.trod enc Tryz.prog W 0 (fun _=>true) true fuel 53 [v]=some x)(hsz:∀n∈x.1.weights Tryz.prog 53,n<=reachBytes) :
 ∃b,OpsF W.heap.size W v b/\∀j,j<b.length->eA (ae b j):=by
 rcases open_slice Tryz.underlying53 hf with⟨hcs,_⟩ | ⟨y,l,c,m,n,D,Pl,hcs,_,hl,hm,hmm,hx,hel⟩
 ·simp at hcs
  subst hcs
  exact⟨[],⟨[],.inl ⟨⟨_,_,rfl⟩,rfl⟩,rfl,fun i x h=>by simp at h⟩,fun j hj=>absurd hj (Nat.not_lt_zero _)⟩
 ·simp at hcs
  subst hcs
  have hm':m=c:=by simpa using hmm
  have ce:Tryz.prog.cellsOf 56=9:=by kernel_rfl
  have c8:Tryz.prog.cellsOf 5=1:=by kernel_rfl
  have ci:Tryz.prog.cellsOf 3=1:=by kernel_rfl
  have c64:Tryz.prog.cellsOf 2=1:=by kernel_rfl
  have cr:Tryz.prog.cellsOf 54=1:=by kernel_rfl
  have each:∀i,i<l->∃q:OpV × OpP,(∀k u,(aF q.1)[k]?=some u->W.cell? (y.add (i*9+k))=some u)/\OpOf W.heap.size W q.1 q.2/\eA q.2:=by
   intro i hi
   obtain⟨cs',h1,h2⟩:=hel i (by omega)
   rw[ce] at h1
   obtain⟨_,hlen,hcell⟩:=World.cells?_some h1
   obtain⟨xs,k,_,hxD,_,hxl,hg⟩:=DataW.trod_struct Tryz.underlying56 h2
   match xs,hxl,cs',hlen with
   | [y0,y1,y2,y3,y4,y5,y6,y7,y8],_,[u0,u1,u2,u3,u4,u5,u6,u7,u8],_ =>
     have g0:=hg 0 _ rfl
     have g1:=hg 1 _ rfl
     have g2:=hg 2 _ rfl
     have g3:=hg 3 _ rfl
     have g4:=hg 4 _ rfl
     have g5:=hg 5 _ rfl
     have g6:=hg 6 _ rfl
     have g7:=hg 7 _ rfl
     have g8:=hg 8 _ rfl
     simp [c8] at g0 g1
     simp [ci] at g2 g3 g4 g8
     simp [cr] at g5 g6
     simp [c64] at g7
     have hDi:D i=.agg [y0.1,y1.1,y2.1,y3.1,y4.1,y5.1,y6.1,y7.1,y8.1]:=by simpa using (Prod.mk.inj hxD).1
     have hw:∀n,n∈y5.1.weights Tryz.prog 54∨n∈y6.1.weights Tryz.prog 54->n<=reachBytes:=by
      intro n hn
      refine hsz n ?_
      rw[hx]
      simp only[DataW.weights,Tryz.underlying53]
      refine List.mem_cons_of_mem _ (List.mem_append_left _ (da (d:=D i) (List.mem_map.2 ⟨i,List.mem_range.2 hi,rfl⟩) ?_))
      rw[hDi]
      simp only[DataW.weights,Tryz.underlying56]
      simp only[DataW.weightsEach,List.map_cons,List.map_nil,List.mem_append]
      rcases hn with hn | hn
      ·exact .inr (.inr (.inr (.inr (.inr (.inl hn)))))
      ·exact .inr (.inr (.inr (.inr (.inr (.inr (.inl hn))))))
     obtain⟨n0,e0,_,_⟩:=DataW.trod_int Tryz.underlying5 g0
     obtain⟨n1,e1,_,_⟩:=DataW.trod_int Tryz.underlying5 g1
     obtain⟨n2,e2,_,_⟩:=DataW.trod_int Tryz.underlying3 g2
     obtain⟨n3,e3,_,_⟩:=DataW.trod_int Tryz.underlying3 g3
     obtain⟨n4,e4,_,_⟩:=DataW.trod_int Tryz.underlying3 g4
     obtain⟨a5,k5,z5,e5,r5,s5⟩:=nc g5 (fun n hn=>hw n (.inl hn))
     obtain⟨a6,k6,z6,e6,r6,s6⟩:=nc g6 (fun n hn=>hw n (.inr hn))
     obtain⟨n7,e7,_,_⟩:=DataW.trod_int Tryz.underlying2 g7
     obtain⟨n8,e8,_,_⟩:=DataW.trod_int Tryz.underlying3 g8
     simp at e0 e1 e2 e3 e4 e7 e8
     subst e0 e1 e2 e3 e4 e5 e6 e7 e8
     refine⟨(⟨n0,n1,n2,n3,n4,a5,z5.length,k5,a6,z6.length,k6,n7,n8⟩,⟨n0,n1,n2,n3,n4,z5,z6,n7,n8⟩),fun k u hk=>?_,⟨⟨rfl,rfl,rfl,rfl,rfl,rfl,rfl⟩,r5,r6⟩,s5,s6⟩
     have hk9:k<9:=by
      have:=(List.getElem?_eq_some_iff.1 hk).1
      simpa [aF] using this
     have c0:=hcell k hk9
     rw[add_add] at c0
     rw[c0]
     exact hk
  obtain⟨q,hq⟩:=choose_lt each
  have hat:∀i z,((List.range l).map fun i=>(q i).1)[i]?=some z->i<l/\z=(q i).1:=fun i z hz=>by
   have hi:=(List.getElem?_eq_some_iff.1 hz).1
   rw[List.length_map,List.length_range] at hi
   rw[List.getElem?_map,List.getElem?_range hi] at hz
   exact⟨hi,(Option.some.inj hz).symm⟩
  have hin:∀i,i<l->ae ((List.range l).map fun i=>(q i).2) i=(q i).2:=fun i hi=>by
   unfold ae
   rw[List.getElem?_map,List.getElem?_range hi]
   rfl
  refine⟨(List.range l).map fun i=>(q i).2,⟨(List.range l).map fun i=>(q i).1,?_,by simp,fun i z hz=>?_⟩,fun j hj=>?_⟩
  ·by_cases h0:l=0
   ·subst h0;exact .inl ⟨⟨_,_,rfl⟩,rfl⟩
   ·obtain⟨b,off,spot⟩:=y
    have hc:=(hq 0 (by omega)).1 0 _ rfl
    have hspot:spot=none:=by simpa [Addr.add] using World.cell?_spot hc
    subst hspot
    have hlt:b<W.heap.size:=by
     apply Classical.byContradiction;intro hn
     simp [World.cell?,Addr.add,Array.getElem?_eq_none (Nat.le_of_not_lt hn)] at hc
    refine .inr ⟨b,off,c,by simp,hlt,fun j z hj k u hk=>?_⟩
    obtain⟨hj',rfl⟩:=hat j z hj
    have:=(hq j hj').1 k u hk
    rw[Addr.add_lit] at this
    rw[Nat.add_assoc]
    exact this
  ·obtain⟨hi,rfl⟩:=hat i z hz
   rw[hin i hi]
   exact(hq i hi).2.1
  ·have hj':j<l:=by simpa using hj
   rw[hin j hj']
   exact(hq j hj').2.2
def SmallB(bs:List (List OpP)):Prop:=∀k,k<bs.length->∀j,j<(bs[k]?.getD []).length->eA (ae (bs[k]?.getD []) j)
set_option maxRecDepth 100000 in
theorem oC(hf:DataW.trod enc Tryz.prog W 0 (fun _=>true) true fuel 50 [v]=some x)(hsz:∀n∈x.1.weights Tryz.prog 50,n<=reachBytes) :
 ∃bs,aX W.heap.size W v bs/\SmallB bs:=by
 rcases open_slice Tryz.underlying50 hf with⟨hcs,_⟩ | ⟨y,l,c,m,n,D,Pl,hcs,_,hl,hm,hmm,hx,hel⟩
 ·simp at hcs
  subst hcs
  exact⟨[],⟨[],⟨[],aT _ _ _ _ (fun _=>rfl),rfl,fun j hj=>absurd hj (Nat.not_lt_zero _)⟩,rfl,fun j hj=>absurd hj (Nat.not_lt_zero _)⟩,fun j hj=>absurd hj (Nat.not_lt_zero _)⟩
 ·simp at hcs
  subst hcs
  have hm':m=c:=by simpa using hmm
  have ce:Tryz.prog.cellsOf 53=1:=by kernel_rfl
  have each:∀i,i<l->∃q:(Value × List OpV) × List OpP,W.cell? (y.add i)=some q.1.1/\Ops W.heap.size W q.1.1 q.1.2/\dl W.heap.size W q.1.2 q.2/\∀j,j<q.2.length->eA (ae q.2 j):=by
   intro i hi
   obtain⟨cs',h1,h2⟩:=hel i (by omega)
   rw[ce,Nat.mul_one] at h1
   obtain⟨_,hlen,hcell⟩:=World.cells?_some h1
   match cs',hlen with
   | [u0],_ =>
     have c0:=hcell 0 (by omega)
     rw[add_add] at c0
     obtain⟨b,⟨vs,hb1,hb2⟩,hb3⟩:=open_opsF h2 (fun k hk=>hsz k (by
      rw[hx]
      simp only[DataW.weights,Tryz.underlying50]
      exact List.mem_cons_of_mem _ (List.mem_append_left _ (da (d:=D i) (List.mem_map.2 ⟨i,List.mem_range.2 hi,rfl⟩) hk))))
     exact⟨((u0,vs),b),by simpa using c0,hb1,hb2,hb3⟩
  obtain⟨q,hq⟩:=choose_lt each
  have hv:∀j,j<l->((List.range l).map fun i=>(q i).1.2)[j]?.getD []=(q j).1.2:=fun j hj=>by
   rw[List.getElem?_map,List.getElem?_range hj];rfl
  have hp:∀j,j<l->((List.range l).map fun i=>(q i).2)[j]?.getD []=(q j).2:=fun j hj=>by
   rw[List.getElem?_map,List.getElem?_range hj];rfl
  refine⟨(List.range l).map fun i=>(q i).2,⟨(List.range l).map fun i=>(q i).1.2,⟨(List.range l).map fun i=>(q i).1.1,?_,by simp,fun j hj=>?_⟩,by simp,fun j hj=>?_⟩,fun k hk=>?_⟩
  ·by_cases h0:l=0
   ·subst h0;exact .inl ⟨⟨some y,c,rfl,fun e=>by cases e⟩,rfl⟩
   ·have hc:=(hq 0 (by omega)).1
    rw[show y.add 0=y from by cases y;rename_i s;cases s <;> simp [Addr.add]] at hc
    obtain⟨b,off,rfl,hlt⟩:=kE hc
    refine .inr ⟨b,off,c,by simp,hlt,by simpa using hl,fun j u hj=>?_⟩
    have hjn:j<l:=by
     have:=(List.getElem?_eq_some_iff.1 hj).1
     simpa using this
    rw[List.getElem?_map,List.getElem?_range hjn] at hj
    have:=(hq j hjn).1
    rw[Addr.add_lit] at this
    rw[this];exact hj
  ·have hjn:j<l:=by simpa using hj
   refine⟨(q j).1.1,by rw[List.getElem?_map,List.getElem?_range hjn];rfl,?_⟩
   rw[hv j hjn]
   exact(hq j hjn).2.1
  ·have hjn:j<l:=by simpa using hj
   rw[hv j hjn,hp j hjn]
   exact(hq j hjn).2.2.1
  ·have hkn:k<l:=by simpa using hk
   rw[hp k hkn]
   exact(hq k hkn).2.2.2
set_option maxRecDepth 100000 in
theorem qs(hf:DataW.trod enc Tryz.prog W 0 (fun _=>true) true fuel 28 [v]=some x)(hsz:∀n∈x.1.weights Tryz.prog 28,n<=reachBytes) :
 ∃fs,bh W.heap.size W v fs/\∀i,i<fs.length->SmallB (fs[i]?.getD CD.b0).bs:=by
 rcases open_slice Tryz.underlying28 hf with⟨hcs,_⟩ | ⟨y,l,c,m,n,D,Pl,hcs,_,hl,hm,hmm,hx,hel⟩
 ·simp at hcs
  subst hcs
  exact⟨[],.inl ⟨⟨_,_,rfl⟩,rfl⟩,fun j hj=>absurd hj (Nat.not_lt_zero _)⟩
 ·simp at hcs
  subst hcs
  have hm':m=c:=by simpa using hmm
  have ce:Tryz.prog.cellsOf 52=3:=by kernel_rfl
  have ci:Tryz.prog.cellsOf 3=1:=by kernel_rfl
  have cr:Tryz.prog.cellsOf 50=1:=by kernel_rfl
  have each:∀i,i<l->∃q:BodyP × (Option Addr × Nat),(∀k u,(bodyC q.1 q.2.1 q.2.2)[k]?=some u->W.cell? (y.add (i*3+k))=some u)/\aX W.heap.size W (.slice q.2.1 q.1.bs.length q.2.2) q.1.bs/\SmallB q.1.bs:=by
   intro i hi
   obtain⟨cs',h1,h2⟩:=hel i (by omega)
   rw[ce] at h1
   obtain⟨_,hlen,hcell⟩:=World.cells?_some h1
   obtain⟨xs,k,_,hxD,_,hxl,hg⟩:=DataW.trod_struct Tryz.underlying52 h2
   match xs,hxl,cs',hlen with
   | [y0,y1,y2],_,[u0,u1,u2],_ =>
     have g0:=hg 0 _ rfl
     have g1:=hg 1 _ rfl
     have g2:=hg 2 _ rfl
     simp [ci] at g0 g1
     simp [cr] at g2
     have hDi:D i=.agg [y0.1,y1.1,y2.1]:=by simpa using (Prod.mk.inj hxD).1
     have hw:∀n,n∈y2.1.weights Tryz.prog 50->n<=reachBytes:=by
      intro n hn
      refine hsz n ?_
      rw[hx]
      simp only[DataW.weights,Tryz.underlying28]
      refine List.mem_cons_of_mem _ (List.mem_append_left _ (da (d:=D i) (List.mem_map.2 ⟨i,List.mem_range.2 hi,rfl⟩) ?_))
      rw[hDi]
      simp only[DataW.weights,Tryz.underlying52]
      simp only[DataW.weightsEach,List.map_cons,List.map_nil,List.mem_append]
      exact .inr (.inr (.inl hn))
     obtain⟨n0,e0,_,_⟩:=DataW.trod_int Tryz.underlying3 g0
     obtain⟨n1,e1,_,_⟩:=DataW.trod_int Tryz.underlying3 g1
     obtain⟨bs,hb,hs⟩:=oC g2 hw
     obtain⟨ba,bc,e2⟩:=hb.form
     simp at e0 e1
     subst e0 e1 e2
     refine⟨(⟨n0,n1,bs⟩,(ba,bc)),fun k u hk=>?_,hb,hs⟩
     have hk3:k<3:=by
      have:=(List.getElem?_eq_some_iff.1 hk).1
      simpa [bodyC] using this
     have c0:=hcell k hk3
     rw[add_add] at c0
     rw[c0]
     exact hk
  obtain⟨q,hq⟩:=choose_lt each
  have hp:∀j,j<l->((List.range l).map fun i=>(q i).1)[j]?.getD CD.b0=(q j).1:=fun j hj=>by
   rw[List.getElem?_map,List.getElem?_range hj];rfl
  refine⟨(List.range l).map fun i=>(q i).1,?_,fun i hi=>?_⟩
  ·by_cases h0:l=0
   ·subst h0;exact .inl ⟨⟨_,_,rfl⟩,rfl⟩
   ·obtain⟨b,off,spot⟩:=y
    have hc:=(hq 0 (by omega)).1 0 _ rfl
    have hspot:spot=none:=by simpa [Addr.add] using World.cell?_spot hc
    subst hspot
    have hlt:b<W.heap.size:=by
     apply Classical.byContradiction;intro hn
     simp [World.cell?,Addr.add,Array.getElem?_eq_none (Nat.le_of_not_lt hn)] at hc
    refine .inr ⟨b,off,c,by simp,hlt,fun j hj=>?_⟩
    have hj':j<l:=by simpa using hj
    obtain⟨h1,h2,_⟩:=hq j hj'
    rw[hp j hj']
    refine⟨(q j).2.1,(q j).2.2,fun k u hk=>?_,h2⟩
    have:=h1 k u hk
    rw[Addr.add_lit] at this
    rw[Nat.add_assoc]
    exact this
  ·have hi':i<l:=by simpa using hi
   rw[hp i hi']
   exact(hq i hi').2.2
set_option maxRecDepth 100000 in
theorem qt(hf:DataW.trod enc Tryz.prog W 0 (fun _=>true) true fuel 27 [v]=some x):∃ps,bK W.heap.size W v ps:=by
 rcases open_slice Tryz.underlying27 hf with⟨hcs,_⟩ | ⟨y,l,c,m,n,D,Pl,hcs,_,hl,hm,hmm,hx,hel⟩
 ·simp at hcs
  subst hcs
  exact⟨[],.inl ⟨⟨_,_,rfl,fun _=>rfl⟩,rfl⟩⟩
 ·simp at hcs
  subst hcs
  have hm':m=c:=by simpa using hmm
  have ce:Tryz.prog.cellsOf 119=2:=by kernel_rfl
  have ci:Tryz.prog.cellsOf 3=1:=by kernel_rfl
  have each:∀i,i<l->∃q:Int × Int,W.cell? (y.add (i*2))=some (.int .i64 q.1)/\W.cell? (y.add (i*2+1))=some (.int .i64 q.2):=by
   intro i hi
   obtain⟨cs',h1,h2⟩:=hel i (by omega)
   rw[ce] at h1
   obtain⟨_,hlen,hcell⟩:=World.cells?_some h1
   obtain⟨xs,k,_,hxD,_,hxl,hg⟩:=DataW.trod_struct Tryz.underlying119 h2
   match xs,hxl,cs',hlen with
   | [y0,y1],_,[u0,u1],_ =>
     have g0:=hg 0 _ rfl
     have g1:=hg 1 _ rfl
     simp [ci] at g0 g1
     obtain⟨n0,e0,_,_⟩:=DataW.trod_int Tryz.underlying3 g0
     obtain⟨n1,e1,_,_⟩:=DataW.trod_int Tryz.underlying3 g1
     have c0:=hcell 0 (by omega)
     have c1:=hcell 1 (by omega)
     rw[add_add] at c0 c1
     simp at e0 e1
     subst e0 e1
     exact⟨(n0,n1),by simpa using c0,by simpa using c1⟩
  obtain⟨q,hq⟩:=choose_lt each
  refine⟨(List.range l).map q,?_⟩
  by_cases h0:l=0
  ·subst h0;exact .inl ⟨⟨_,_,rfl,fun e=>by cases e⟩,rfl⟩
  ·obtain⟨b,off,spot⟩:=y
   have hc:=(hq 0 (by omega)).1
   have hspot:spot=none:=by simpa [Addr.add] using World.cell?_spot hc
   subst hspot
   have hlt:b<W.heap.size:=by
    apply Classical.byContradiction;intro hn
    simp [World.cell?,Addr.add,Array.getElem?_eq_none (Nat.le_of_not_lt hn)] at hc
   refine .inr ⟨b,off,c,by simp,hlt,fun j hj=>?_⟩
   have hj':j<l:=by simpa using hj
   have:=hq j hj'
   rw[Addr.add_lit,Addr.add_lit] at this
   rw[List.getElem?_map,List.getElem?_range hj']
   exact⟨by simpa using this.1,by simpa [Nat.add_assoc] using this.2⟩
end
end
section
open Go.ChangeShapes Go.WideShapes Go.ChangeAt Go.RowKit Go.Deep Go.Joins
open CD (OpP BodyP CodeP ae blAt fnAt)
theorem kn{W:World}{y:Addr}{v:Value}(h:W.cell? y=some v):∃b off,y=⟨b,off,none⟩/\b<W.heap.size:=by
 obtain⟨b,off,spot⟩:=y
 have hspot:spot=none:=by simpa using World.cell?_spot h
 subst hspot
 refine⟨b,off,rfl,?_⟩
 apply Classical.byContradiction;intro hn
 simp [World.cell?,Array.getElem?_eq_none (Nat.le_of_not_lt hn)] at h
theorem qu{H:Type}{enc:TypeId × Value->H}{W:World}{fuel:Nat}{a:Option Addr}{len cap:Nat}{x:DataW H × List MemPlace}
 (hf:DataW.trod enc Tryz.prog W 0 (fun _=>true) true fuel 46 (Value.slice a len cap).cells.toList=some x) (hsz:∀n∈x.1.weights Tryz.prog 46,n<=reachBytes) :
 ∃tq,az W.heap.size W (.slice a len cap) tq/\cd tq:=by
 rcases open_int_rows Tryz.underlying46 Tryz.underlying49 Tryz.underlying2 (by kernel_rfl) (by kernel_rfl) hf with⟨hcs,_⟩ | ⟨y,l,c,A,L,C,Z,hcs,_,hl,hm,hx,hr⟩
 ·simp [Value.cells] at hcs
  obtain⟨rfl,rfl,rfl⟩:=hcs
  exact⟨[],⟨[],aT _ _ _ _ (fun _=>rfl),rfl,fun j hj=>absurd hj (Nat.not_lt_zero _)⟩,⟨by simp,by simp⟩⟩
 ·simp [Value.cells] at hcs
  obtain⟨rfl,rfl,rfl⟩:=hcs
  have hd:=(Prod.mk.inj (hx.trans rfl)).1
  have e1:reachBytes=140737488351232:=by decide
  have b24:Tryz.prog.bytesOf 49=24:=by kernel_rfl
  have b8:Tryz.prog.bytesOf 2=8:=by kernel_rfl
  have hx1:x.1=_:=(congrArg Prod.fst hx)
  have hlen:len<=17592186044416:=by
   have h:=hsz ((len+(cap-len))*24) (by
    rw[hx1]
    simp only[DataW.weights,Tryz.underlying46,b24,List.mem_cons,List.length_map,List.length_range]
    exact .inl trivial)
   rw[e1] at h
   omega
  have hrow:∀r,r<len->L r<=17592186044416:=by
   intro r hrl
   obtain⟨_,h1,_,h3,_,h5,h6⟩:=hr r (by omega)
   cases hA:A r with
   | none=>have:=h5 hA;omega
   | some a' =>
     have h:=hsz (((Z r).take (L r)).length*8+((Z r).drop (L r)).length*8) (by
      rw[hx1]
      simp only[DataW.weights,Tryz.underlying46]
      refine List.mem_cons_of_mem _ (List.mem_append_left _ (cQ (d:=intRow .i64 (A r) (L r) (Z r)) (List.mem_map.2 ⟨r,List.mem_range.2 hrl,rfl⟩) ?_))
      simp only[intRow,hA,DataW.weights,Tryz.underlying49,b8,lits,List.length_map]
      exact List.mem_cons.2 (.inl (by rw[Nat.add_mul])))
     rw[e1,List.length_take,List.length_drop] at h
     omega
  refine⟨(List.range len).map fun r=>(Z r).take (L r),⟨(List.range len).map fun r=>.slice (A r) (L r) (C r),?_,by simp,fun j hj=>?_⟩,⟨by simpa using hlen,fun row hrow'=>?_⟩⟩
  ·by_cases h0:len=0
   ·subst h0;exact .inl ⟨⟨some y,cap,rfl,fun e=>by cases e⟩,rfl⟩
   ·have hc:=(hr 0 (by omega)).1
    rw[show y.add 0=y from by cases y;rename_i s;cases s <;> simp [Addr.add]] at hc
    obtain⟨b,off,rfl,hlt⟩:=kn hc
    refine .inr ⟨b,off,cap,by simp,hlt,by simpa using hl,fun j u hj=>?_⟩
    have hjn:j<len:=by
     have:=(List.getElem?_eq_some_iff.1 hj).1
     simpa using this
    rw[List.getElem?_map,List.getElem?_range hjn] at hj
    have:=(hr j (by omega)).1
    rw[Addr.add_lit] at this
    rw[this];exact hj
  ·have hjn:j<len:=by simpa using hj
   obtain⟨_,h1,_,h3,_,h5,h6⟩:=hr j (by omega)
   refine⟨_,by rw[List.getElem?_map,List.getElem?_range hjn];rfl,?_⟩
   rw[List.getElem?_map,List.getElem?_range hjn]
   simp only[Option.map_some,Option.getD_some]
   by_cases h0:L j=0
   ·rw[h0,List.take_zero]
    exact aT _ _ _ _ h5
   ·cases hA:A j with
    | none=>have:=h5 hA;omega
    | some a' =>
      obtain⟨_,hcell⟩:=h6 a' hA
      have hc:=hcell 0 (by omega)
      rw[show a'.add 0=a' from by cases a';rename_i s;cases s <;> simp [Addr.add]] at hc
      obtain⟨b,off,rfl,hlt⟩:=kn hc
      have htl:((Z j).take (L j)).length=L j:=by rw[List.length_take];omega
      refine .inr ⟨b,off,C j,by rw[aC,htl],hlt,by rw[aC,htl];exact h1,fun k u hk=>?_⟩
      have hkn:k<L j:=by
       have:=(List.getElem?_eq_some_iff.1 hk).1
       rwa [aC,htl] at this
      have h7:=hcell k (by omega)
      rw[Addr.add_lit] at h7
      rw[h7]
      rw[fk (by omega),List.getElem?_take_of_lt hkn] at hk
      rw[List.getD_eq_getElem?_getD]
      exact hk
  ·obtain⟨r,hr1,rfl⟩:=List.mem_map.1 hrow'
   have:=hrow r (List.mem_range.1 hr1)
   rw[List.length_take];omega
theorem slice_of{H:Type}{enc:TypeId × Value->H}{W:World}{fuel:Nat}{v:Value}{x:DataW H × List MemPlace}(hf:DataW.trod enc Tryz.prog W 0 (fun _=>true) true fuel 46 [v]=some x):∃a n c,v=.slice a n c:=by
 rcases open_slice Tryz.underlying46 hf with⟨hcs,_⟩ | ⟨y,l,c,m,n,D,Pl,hcs,_⟩
 ·simp at hcs;exact⟨_,_,_,hcs⟩
 ·simp at hcs;exact⟨_,_,_,hcs⟩
set_option maxRecDepth 100000 in
theorem open_polL{H:Type}{enc:TypeId × Value->H}{W:World}{fuel:Nat}{cs:List Value}{d:DataW H}{p:List MemPlace}(hl:cs.length=5)
 (hf:DataW.trod enc Tryz.prog W 0 (fun _=>true) true fuel 26 cs=some (d,p)) (hsz:∀n∈d.weights Tryz.prog 26,n<=reachBytes) :
 ∃(v0 v1 v2 v3:Value) (st:PSt) (S:List Int),cs=[v0,v1,v2,v3,.int .i64 st.D]/\PolIn W v0 v1 v2 v3 st S/\Wide S/\(∀j,j<st.L.length->(wd6 st.L j).size<=140737488351232)/\(∀j,j<st.I.length->(chAt st.I j).1.size<=140737488351232)/\∀j,j<st.O.length->(chAt st.O j).1.size<=140737488351232:=by
 have k0:Tryz.prog.cellsOf 22=1:=by kernel_rfl
 have k1:Tryz.prog.cellsOf 23=1:=by kernel_rfl
 have k2:Tryz.prog.cellsOf 24=1:=by kernel_rfl
 have k4:Tryz.prog.cellsOf 3=1:=by kernel_rfl
 obtain⟨xs,n,_,hx,_,hxl,hg⟩:=DataW.trod_struct Tryz.underlying26 hf
 match xs,hxl,cs,hl with
 | [y0,y1,y2,y3,y4],_,[u0,u1,u2,u3,u4],_ =>
   have g0:=hg 0 _ rfl
   have g1:=hg 1 _ rfl
   have g2:=hg 2 _ rfl
   have g3:=hg 3 _ rfl
   have g4:=hg 4 _ rfl
   simp [k0] at g0
   simp [k1] at g1
   simp [k2] at g2 g3
   simp [k4] at g4
   have hd:d=.agg [y0.1,y1.1,y2.1,y3.1,y4.1]:=by simpa using (Prod.mk.inj hx).1
   subst hd
   have hw:∀n,n∈y0.1.weights Tryz.prog 22∨n∈y1.1.weights Tryz.prog 23∨n∈y2.1.weights Tryz.prog 24∨n∈y3.1.weights Tryz.prog 24->n<=reachBytes:=by
    intro n hn
    refine hsz n ?_
    simp only[DataW.weights,Tryz.underlying26]
    simp only[DataW.weightsEach,List.map_cons,List.map_nil,List.mem_append]
    rcases hn with hn | hn | hn | hn
    ·exact .inl hn
    ·exact .inr (.inl hn)
    ·exact .inr (.inr (.inl hn))
    ·exact .inr (.inr (.inr (.inl hn)))
   obtain⟨L,a1,a2,a3⟩:=open_strs g0 (fun n hn=>hw n (.inl hn))
   obtain⟨S,b1,b2,b3,b4⟩:=sy g1 (fun n hn=>hw n (.inr (.inl hn)))
   obtain⟨I,d1,d2,d3,d4⟩:=lP g2 (fun n hn=>hw n (.inr (.inr (.inl hn))))
   obtain⟨O,e1,e2,e3,e4⟩:=lP g3 (fun n hn=>hw n (.inr (.inr (.inr hn))))
   obtain⟨D,f1,_,f2⟩:=DataW.trod_int Tryz.underlying3 g4
   simp at f1
   subst f1
   exact⟨u0,u1,u2,u3,⟨L,I,O,D,[]⟩,S,rfl,⟨a1,b1,d1,e1,b2,a2,b4,d3,e3⟩,b3,a3,d4,e4⟩
set_option maxRecDepth 100000 in
theorem sA{H:Type}{enc:TypeId × Value->H}{W:World}{fuel:Nat}{cs:List Value}{d:DataW H}{p:List MemPlace}(hl:cs.length=3)
 (hf:DataW.trod enc Tryz.prog W 0 (fun _=>true) true fuel 30 cs=some (d,p)) (hsz:∀n∈d.weights Tryz.prog 30,n<=reachBytes) :
 ∃(av fv:Value) (c:CodeP),cs=[av,fv,.int .i64 c.mn0]/\bK W.heap.size W av c.ar/\bh W.heap.size W fv c.fs/\fd c:=by
 have k0:Tryz.prog.cellsOf 27=1:=by kernel_rfl
 have k1:Tryz.prog.cellsOf 28=1:=by kernel_rfl
 have k4:Tryz.prog.cellsOf 3=1:=by kernel_rfl
 obtain⟨xs,n,_,hx,_,hxl,hg⟩:=DataW.trod_struct Tryz.underlying30 hf
 match xs,hxl,cs,hl with
 | [y0,y1,y2],_,[u0,u1,u2],_ =>
   have g0:=hg 0 _ rfl
   have g1:=hg 1 _ rfl
   have g2:=hg 2 _ rfl
   simp [k0] at g0
   simp [k1] at g1
   simp [k4] at g2
   have hd:d=.agg [y0.1,y1.1,y2.1]:=by simpa using (Prod.mk.inj hx).1
   subst hd
   obtain⟨M,e2,_,_⟩:=DataW.trod_int Tryz.underlying3 g2
   simp at e2
   subst e2
   obtain⟨ps,wp⟩:=qt g0
   obtain⟨fs,wf,sf⟩:=qs g1 (fun k hk=>hsz k (by
    simp only[DataW.weights,Tryz.underlying30]
    simp only[DataW.weightsEach,List.map_cons,List.map_nil,List.mem_append]
    exact .inr (.inl hk)))
   exact⟨u0,u1,⟨ps,fs,M⟩,rfl,wp,wf,fun i hi k hk j hj=>sf i hi k hk j hj⟩
set_option maxRecDepth 100000 in
theorem open_job{H:Type}{enc:TypeId × Value->H}{r:Reach}{b0:Nat}{W:World}{v:Value}{d:DataW H}{p:List MemPlace}
 (hv:Value.okWide Tryz.prog W r b0 48 v) (h:DataW.Trod enc Tryz.prog W 0 (fun _=>true) true 48 v d p)
 (hsz:∀n∈d.weights Tryz.prog 48,n<=reachBytes) :
 ∃(v0 v1 v2 v3 av fv iv:Value) (st:PSt) (S:List Int) (c:CodeP) (A:List (List Int)) (z:Int),v=.agg #[v0,v1,v2,v3,.int .i64 st.D,av,fv,.int .i64 c.mn0,iv,.int .i64 z]/\PolIn W v0 v1 v2 v3 st S/\Wide S /\
  ((∀j,j<st.L.length->(wd6 st.L j).size<=140737488351232)/\(∀j,j<st.I.length->(chAt st.I j).1.size<=140737488351232)/\∀j,j<st.O.length->(chAt st.O j).1.size<=140737488351232) /\
  bK W.heap.size W av c.ar/\bh W.heap.size W fv c.fs/\fd c/\az W.heap.size W iv A/\cd A:=by
 obtain⟨cs,rfl,hcs⟩:=okWide_struct Tryz.underlying48 hv
 obtain⟨l⟩:=cs
 have c10:Tryz.prog.cellsOf 48=10:=by kernel_rfl
 have c5:Tryz.prog.cellsOf 26=5:=by kernel_rfl
 have c3:Tryz.prog.cellsOf 30=3:=by kernel_rfl
 have k0:Tryz.prog.cellsOf 46=1:=by kernel_rfl
 have k4:Tryz.prog.cellsOf 3=1:=by kernel_rfl
 match l,hcs.trans c10 with
 | [u0,u1,u2,u3,u4,u5,u6,u7,u8,u9],_ =>
   obtain⟨fuel,hf⟩:=h
   obtain⟨xs,n,_,hx,_,hxl,hg⟩:=DataW.trod_struct Tryz.underlying48 hf
   match xs,hxl with
   | [y0,y1,y2,y3],_ =>
     have g0:=hg 0 _ rfl
     have g1:=hg 1 _ rfl
     have g2:=hg 2 _ rfl
     have g3:=hg 3 _ rfl
     simp [Value.cells,c5] at g0
     simp [Value.cells,c3] at g1
     simp [Value.cells,k0] at g2
     simp [Value.cells,k4] at g3
     have hd:d=.agg [y0.1,y1.1,y2.1,y3.1]:=by simpa using (Prod.mk.inj hx).1
     subst hd
     have hw:∀n,n∈y0.1.weights Tryz.prog 26∨n∈y1.1.weights Tryz.prog 30∨n∈y2.1.weights Tryz.prog 46->n<=reachBytes:=by
      intro n hn
      refine hsz n ?_
      simp only[DataW.weights,Tryz.underlying48]
      simp only[DataW.weightsEach,List.map_cons,List.map_nil,List.mem_append]
      rcases hn with hn | hn | hn
      ·exact .inl hn
      ·exact .inr (.inl hn)
      ·exact .inr (.inr (.inl hn))
     obtain⟨v0,v1,v2,v3,st,S,e0,p1,p2,p3⟩:=open_polL rfl g0 (fun n hn=>hw n (.inl hn))
     obtain⟨av,fv,c,e1,q1,q2,q3⟩:=sA rfl g1 (fun n hn=>hw n (.inr (.inl hn)))
     obtain⟨z,e3,_,_⟩:=DataW.trod_int Tryz.underlying3 g3
     simp at e3
     simp only[List.cons.injEq,and_true] at e0 e1
     obtain⟨rfl,rfl,rfl,rfl,rfl⟩:=e0
     obtain⟨rfl,rfl,rfl⟩:=e1
     subst e3
     obtain⟨ax,al,ac,rfl⟩:∃a n c,u8=.slice a n c:=slice_of g2
     obtain⟨A,r1,r2⟩:=qu (by simpa [Value.cells] using g2) (fun n hn=>hw n (.inr (.inr hn)))
     exact⟨u0,u1,u2,u3,u5,u6,_,st,S,c,A,z,rfl,p1,p2,p3,q1,q2,q3,r1,r2⟩
end
end Go.Proofs.YtjngffgkllakaaaGreatDoor
