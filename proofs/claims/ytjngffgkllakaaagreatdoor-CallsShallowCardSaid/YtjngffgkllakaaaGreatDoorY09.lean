/- A part of a proof: laws that the last text uses. -/
import Derived.Test.YtjngffgkllakaaaGreatDoorY01
import Derived.Test.YtjngffgkllakaaaGreatDoorY05
import Derived.Test.YtjngffgkllakaaaGreatDoorY08
import Derived.Deep.AppendLies
import Derived.Deep.RegionLaw
import Derived.Deep.RegionWith
set_option linter.unusedSimpArgs false
set_option linter.unusedVariables false
namespace Go.Proofs.YtjngffgkllakaaaGreatDoor.IP
open List renaming getElem_toArray → zA, getElem_cons_succ → zB, getElem_cons_zero → zC, setIfInBounds_toArray → zD, set_cons_zero → zE, set_cons_succ → zF
open Lib renaming hid → zH
section
open Go.RowKit
open CD (OpP BodyP CodeP ae blAt fnAt)
theorem eG{W:World}{b b':Nat}{e:TypeId}{size:Nat}{v:Value}{k:Nat}{xs:List Value}(h:W.ownsRow b e size v k xs)(hb:b'<=b):W.ownsRow b' e size v k xs:=by
 obtain⟨h1,h2 | ⟨g,cap,cur,rfl,hg,r⟩⟩:=h
 ·exact⟨h1,.inl h2⟩
 ·exact⟨h1,.inr ⟨g,cap,cur,rfl,Nat.le_trans hb hg,r⟩⟩
theorem kj(x:Int):∀(zs:List Int) (i:Nat),x∈zs->∃k,k<zs.length/\Go.Lib.idxFrom zs x i=((i+k:Nat):Int)
 | [],_,h=>by cases h
 | z :: zs,i,h=>by
   by_cases e:z=x
   ·exact⟨0,by simp,by simp [Go.Lib.idxFrom,e]⟩
   ·have h1:x∈zs:=by
     rcases List.mem_cons.1 h with h | h
     ·exact absurd h.symm e
     ·exact h
    obtain⟨k,hk,hz⟩:=kj x zs (i+1) h1
    refine⟨k+1,by simp;omega,?_⟩
    simp only[Go.Lib.idxFrom,if_neg e,hz]
    congr 1
    omega
theorem index_any{xs:List Int}(x:Int)(hm:x∈xs)(hl:xs.length<=1000):∃k:Nat,k<xs.length/\∀(n₀:Nat) (W:World) (u:Value),Row n₀ W u xs->Calls Tryz.prog 105 #[u,.int .i64 x] W fun e w'=>e=.returned (.int .i64 (k:Int))/\w'=W:=by
 obtain⟨k,hk,e⟩:=kj x xs 0 hm
 refine⟨k,hk,fun n₀ W u h=>?_⟩
 obtain⟨b,off,cap,rfl,_,hc⟩:=h.at (by omega)
 have:=Tryz.slices_Index_int b off xs.length cap xs x W (Nat.le_refl _) (by omega) (fun j hj=>by rw[hc j hj,List.getD_eq_getElem?_getD])
 rw[List.take_length] at this
 unfold Go.Lib.idxOf at this
 rw[e,Nat.zero_add] at this
 exact this
theorem args_at2{n₀:Nat}{W:World}{xa:Option Addr}{xc:Nat}{xs:List Int}(h:Row n₀ W (.slice xa xs.length xc) xs)(h0:0<xs.length):∃b off,xa=some ⟨b,off,none⟩/\b<n₀/\∀k,k<xs.length->W.cell? ⟨b,off+k,none⟩=some (.int .i64 (xs[k]?.getD 0)):=by
 obtain⟨b,off,cap,e,hb,hc⟩:=h.at h0
 cases e
 exact⟨b,off,rfl,hb,hc⟩
theorem jt{V W:World}{b i:Nat}(h:V.heap[b]?=W.heap[b]?){v:Value}(hc:W.cell? ⟨b,i,none⟩=some v):V.cell? ⟨b,i,none⟩=some v:=by
 simp only[World.cell?] at hc ⊢
 rw[h]
 exact hc
theorem WayM.first{W:World}{wb bl fi B:Nat}{v:Value}{zs:List Int}(h:WayM W wb bl fi v zs B)(d:Nat):WayM (W.setCell ⟨wb,1,none⟩ (.int .i64 d)) wb bl d v zs B :=
 ⟨set_obj (c:=1) (.int .i64 d) h.obj,own_of_block h.own (fun k hk=>Below.heap_setCell _ _ _ _ (fun e=>aV h.own h.obj (by decide) (by rw[hk];exact congrArg some e))),h.ge⟩
theorem mO{W:World}{wb bl fi B b:Nat}{v:Value}{zs:List Int}{c:Array Value}{t:TypeId}(h:WayM W wb bl fi v zs B)(d:Nat)(hb:W.heap[b]?=some (.cells c t))(hne:b≠wb):(W.setCell ⟨wb,1,none⟩ (.int .i64 d)).heap[b]?=some (.cells c t):=(Below.heap_setCell _ _ _ _ hne).trans hb
theorem ii{W:World}{wb bl fi B rb:Nat}{v u0 u1 u2:Value}{zs:List Int}(h:WayM W wb bl fi v zs B)(hr:W.heap[rb]?=some (.cells #[u0,u1,u2] 147)) :
 (W.cell? ⟨rb,0,none⟩=some u0/\W.cell? ⟨rb,1,none⟩=some u1/\W.cell? ⟨rb,2,none⟩=some u2)/\(W.frozen? ⟨rb,0,none⟩=false/\W.frozen? ⟨rb,1,none⟩=false/\W.frozen? ⟨rb,2,none⟩=false) /\
 ((((W.setCell ⟨rb,0,none⟩ (.int .i64 bl)).setCell ⟨rb,1,none⟩ (.int .i64 fi)).setCell ⟨rb,2,none⟩ v).cell? ⟨rb,0,none⟩=some (.int .i64 bl)/\(((W.setCell ⟨rb,0,none⟩ (.int .i64 bl)).setCell ⟨rb,1,none⟩ (.int .i64 fi)).setCell ⟨rb,2,none⟩ v).cell? ⟨rb,1,none⟩=some (.int .i64 fi)/\(((W.setCell ⟨rb,0,none⟩ (.int .i64 bl)).setCell ⟨rb,1,none⟩ (.int .i64 fi)).setCell ⟨rb,2,none⟩ v).cell? ⟨rb,2,none⟩=some v) /\
 (((W.setCell ⟨rb,0,none⟩ (.int .i64 bl)).setCell ⟨rb,1,none⟩ (.int .i64 fi)).setCell ⟨rb,2,none⟩ v).ownsRow 0 3 1 v zs.length (ao zs):=by
 have s1:=set_obj (c:=0) (.int .i64 bl) hr
 have s2:=set_obj (c:=1) (.int .i64 fi) s1
 have s3:=set_obj (c:=2) v s2
 refine⟨obj3 hr,⟨aj hr,aj hr,aj hr⟩,obj3 s3,eG (own_of_block h.own (fun k hk=>?_)) (Nat.zero_le _)⟩
 have hne:k≠rb:=fun e=>aV h.own hr (by decide) (by rw[hk];exact congrArg some e)
 exact(Below.heap_setCell _ _ _ _ hne).trans ((Below.heap_setCell _ _ _ _ hne).trans (Below.heap_setCell _ _ _ _ hne))
set_option maxRecDepth 100000 in
set_option maxHeartbeats 6400000 in
theorem lead_any{n₀ va:Nat}(pa vb:Int)(bs:List (List OpP))(ba:Option Addr)(bc:Nat)(fr:Int)(tb:Nat)(W:World)(hn:n₀<=W.heap.size)(hM:aX n₀ W (.slice ba bs.length bc) bs)(hto:tb<bs.length)(hbl:bs.length<=1000)(hL:LeadOk va (bs[tb]?.getD []) fr) :
 Calls Tryz.prog 80 #[.agg #[.int .i64 pa,.int .i64 vb,.slice ba bs.length bc],.int .i64 fr,.int .i64 tb] W fun e w'=>lD va bs.length W e w':=by
 obtain⟨j0,hj0,hw0,hw1,hw2⟩:=info_parts Tryz.infoGInt
 obtain⟨b2,off2,a2,c2,eb,hb2,hc1,ho2⟩:=hM.at hto
 subst eb
 obtain⟨W0,eW0⟩:∃W0,W0=((W.alloc (.cells #[.int .i64 pa,.int .i64 vb,.slice (some ⟨b2,off2,none⟩) bs.length bc] 52)).alloc (.cells #[.int .i64 0,.int .i64 0,.slice none 0 0] 147)).alloc (.cells #[.int .i64 tb,.int .i64 0,.slice none 0 0] 147):=⟨_,rfl⟩
 have hb0:Below W.heap.size W W0:=by rw[eW0];exact(((Below.refl _ _).alloc (Nat.le_refl _) _).alloc (by simp) _).alloc (by simp;omega) _
 have hx0:W0.heap[W.heap.size]?=some (.cells #[.int .i64 pa,.int .i64 vb,.slice (some ⟨b2,off2,none⟩) bs.length bc] 52):=by rw[eW0,Below.heap_alloc _ _ _ (by simp;omega),Below.heap_alloc _ _ _ (by simp)];exact heap_alloc_new _ _
 have hr0:W0.heap[W.heap.size+1]?=some (.cells #[.int .i64 0,.int .i64 0,.slice none 0 0] 147):=by
  rw[eW0,Below.heap_alloc _ _ _ (by simp)]
  have:=heap_alloc_new (W.alloc (.cells #[.int .i64 pa,.int .i64 vb,.slice (some ⟨b2,off2,none⟩) bs.length bc] 52)) (.cells #[.int .i64 0,.int .i64 0,.slice none 0 0] 147)
  rwa [World.size_alloc] at this
 have hw0':W0.heap[W.heap.size+1+1]?=some (.cells #[.int .i64 tb,.int .i64 (0:Nat),.slice none 0 0] 147):=by
  rw[eW0]
  have:=heap_alloc_new ((W.alloc (.cells #[.int .i64 pa,.int .i64 vb,.slice (some ⟨b2,off2,none⟩) bs.length bc] 52)).alloc (.cells #[.int .i64 0,.int .i64 0,.slice none 0 0] 147)) (.cells #[.int .i64 tb,.int .i64 0,.slice none 0 0] 147)
  rwa [World.size_alloc,World.size_alloc] at this
 have HM0:=zH (show WayM W0 (W.heap.size+1+1) tb 0 (.slice none 0 0) [] W.heap.size from⟨hw0',World.ownsRow_nil _ _ _ _,by omega⟩)
 have HX0:=zH hx0
 have HR0:=zH hr0
 have HB0:=zH hb0
 have EW:=zH eW0
 have HM:=zH hM
 have HL:=zH hL
 have HN:=zH hn
 have HTO:=zH hto
 have hc2:=(hb0.cell (p:=⟨b2,off2+tb,none⟩) (Nat.lt_of_lt_of_le hb2 hn)).trans hc1
 obtain⟨x0,x1,x2⟩:=obj3 hx0
 have HO2:=zH ho2
 have itt:(0:Int)<=tb/\(tb:Int)<bs.length:=by omega
 obtain⟨l,el⟩:∃l,l=bs[tb]?.getD []:=⟨_,rfl⟩
 rw[<-el] at hc1 hc2 HO2 HL
 have HC2:=zH (And.intro (Nat.lt_of_lt_of_le hb2 hn) hc1)
 have hll:=HL.out.len
 have EL:=zH el
 clear eW0 hx0 hr0 hw0' hb0 hM hL hn hto ho2 el hc1 hb2
 go_enter Tryz.func80,Tryz.ntmps80
 go_upto_region 2 with fail
 rw[<-EW.out]
 go_wp2_with fail
 go_loopw [18] (fun s18 wr=>∃(i:Nat) (zs:List Int) (v:Value),i<=l.length/\s18=.int .i64 (i:Int)/\RowKit.Hid (zs.length=i/\(∀j,j<i->(ae l j).k=3)/\(∀j,j<zs.length->0<=zs[j]?.getD 0/\zs[j]?.getD 0<va)/\WayM wr (W.heap.size+1+1) tb 0 v zs W.heap.size/\wr.heap[W.heap.size]?=some (.cells #[.int .i64 pa,.int .i64 vb,.slice (some ⟨b2,off2,none⟩) bs.length bc] 52)/\wr.heap[W.heap.size+1]?=some (.cells #[.int .i64 0,.int .i64 0,.slice none 0 0] 147)/\Below W.heap.size W wr)) (fun s18 _=>l.length-(intOf s18).toNat)
 case atStart=>exact⟨0,[],_,Nat.zero_le _,rfl,zH ⟨rfl,fun j hj=>absurd hj (Nat.not_lt_zero _),fun j hj=>absurd hj (Nat.not_lt_zero _),HM0.out,HX0.out,HR0.out,HB0.out⟩⟩
 case round =>
  obtain⟨w7,rfl⟩:∃w7,w7=wr:=⟨_,rfl⟩
  obtain⟨i,zs,v,hin,rfl,HH⟩:=hrel
  obtain⟨hzl,hph,hvals,hway,hbody,hres,hbelow⟩:=HH.out
  subst hzl
  have HPH:=zH (And.intro hin hph)
  have HI:=zH hvals
  have HW7:=zH hway
  have HX7:=zH hbody
  have HR7:=zH hres
  have HB7:=zH hbelow
  clear HH hph hvals hway hbody hres hbelow HM0 HX0 HR0 HB0 EW
  by_cases hlt:zs.length<l.length
  ·have HLT:=zH hlt
   obtain⟨b3,off3,xa,xc,ya,yc,eo,hb3,ho3,hxr,hyr⟩:=(HO2.out.below (HB7.out.mono HN.out)).at hlt
   subst eo
   have i3:(0:Int)<=zs.length/\(zs.length:Int)<l.length:=by omega
   have HPI:=zH (HL.out.phi zs.length hlt)
   obtain⟨p,ep⟩:∃p,p=ae l zs.length:=⟨_,rfl⟩
   rw[<-ep] at ho3 hxr hyr HPI
   have k0:w7.cell? ⟨b3,off3+zs.length*9,none⟩=some (.int .u8 p.k):=ho3 0 _ rfl
   have k1:w7.cell? ⟨b3,off3+zs.length*9+1,none⟩=some (.int .u8 p.o):=ho3 1 _ rfl
   have k2:w7.cell? ⟨b3,off3+zs.length*9+2,none⟩=some (.int .i64 p.d):=ho3 2 _ rfl
   have k3:w7.cell? ⟨b3,off3+zs.length*9+3,none⟩=some (.int .i64 p.r):=ho3 3 _ rfl
   have k4:w7.cell? ⟨b3,off3+zs.length*9+4,none⟩=some (.int .i64 p.a):=ho3 4 _ rfl
   have k5:w7.cell? ⟨b3,off3+zs.length*9+5,none⟩=some (.slice xa p.xs.length xc):=ho3 5 _ rfl
   have k6:w7.cell? ⟨b3,off3+zs.length*9+6,none⟩=some (.slice ya p.ys.length yc):=ho3 6 _ rfl
   have k7:w7.cell? ⟨b3,off3+zs.length*9+7,none⟩=some (.int .i64 p.n):=ho3 7 _ rfl
   have k8:w7.cell? ⟨b3,off3+zs.length*9+8,none⟩=some (.int .i64 p.t):=ho3 8 _ rfl
   have HXR:=zH hxr
   have HYR:=zH hyr
   have HEP:=zH ep
   clear ho3 ep hin hlt hxr hyr
   go_upto_region 5 with fail
   obtain⟨w8,ew8⟩:∃w8,w8=w7.alloc (.cells #[.int .u8 p.k,.int .u8 p.o,.int .i64 p.d,.int .i64 p.r,.int .i64 p.a,.slice xa p.xs.length xc,.slice ya p.ys.length yc,.int .i64 p.n,.int .i64 p.t] 56):=⟨_,rfl⟩
   rw[<-ew8]
   have HB8:=zH (show Below w7.heap.size w7 w8 by rw[ew8];exact(Below.refl _ _).alloc (Nat.le_refl _) _)
   have hx8:w8.heap[w7.heap.size]?=some (.cells #[.int .u8 p.k,.int .u8 p.o,.int .i64 p.d,.int .i64 p.r,.int .i64 p.a,.slice xa p.xs.length xc,.slice ya p.ys.length yc,.int .i64 p.n,.int .i64 p.t] 56):=by rw[ew8];exact heap_alloc_new _ _
   have y0:=cell_of_row _ _ 0 _ _ _ hx8
   have y5:=cell_of_row _ _ 5 _ _ _ hx8
   have y6:=cell_of_row _ _ 6 _ _ _ hx8
   have HO8:=zH hx8
   have HW8:=zH (HW7.out.on HB8.out)
   have HX8:=zH ((HB8.out.block _ (Array.getElem?_eq_some_iff.1 HX7.out).1).trans HX7.out)
   have HR8:=zH ((HB8.out.block _ (Array.getElem?_eq_some_iff.1 HR7.out).1).trans HR7.out)
   have HBB:=zH (HB7.out.trans (HB8.out.mono HB7.out.size))
   clear ew8 hx8 k0 k1 k2 k3 k4 k5 k6 k7 k8
   by_cases hk3:p.k=3
   ·have t1:(p.k != 3)=false:=by simp [hk3]
    obtain⟨hfr,hxl,hyl,hxi⟩:=HPI.out hk3
    have HP3:=zH (show (ae l zs.length).k=3 by rw[<-HEP.out];exact hk3)
    obtain⟨k,hk,hci⟩:=index_any fr hfr (by omega)
    have HCI:=zH hci
    have hxr8:=HXR.out.below ((HB8.out.mono (Nat.le_trans HN.out HB7.out.size)))
    obtain⟨b4,off4,ex,hbn,hcx⟩:=args_at2 hxr8 (by omega)
    subst ex
    have yx:=hcx k (by omega)
    have hxk:=hxi k (by omega)
    obtain⟨z,ez⟩:∃z,z=p.xs[k]?.getD 0:=⟨_,rfl⟩
    rw[<-ez] at yx hxk
    have hb4:b4<w7.heap.size:=Nat.lt_of_lt_of_le hbn (Nat.le_trans HN.out HB7.out.size)
    have HB4:=zH (show b4<W.heap.size from Nat.lt_of_lt_of_le hbn HN.out)
    have HWB:=zH (show W.heap.size+1+1<w7.heap.size from(Array.getElem?_eq_some_iff.1 HW7.out.obj).1)
    have HZ:=zH hxk
    obtain⟨va9,vc9,rfl⟩:=GG.ap HW8.out.own
    obtain⟨m0,m1,m2⟩:=HW8.out.cells
    have ik:(0:Int)<=k/\(k:Int)<p.xs.length:=by omega
    have ik0:¬p.xs.length=0:=by omega
    have HYD:=zH (HYR.out.below ((HB8.out.mono (Nat.le_trans HN.out HB7.out.size))))
    have HK:=zH (show ∀V:World,(V.heap[w7.heap.size]?=w8.heap[w7.heap.size]?/\V.heap[b4]?=w8.heap[b4]?)->(fun V:World=>V.cell? ⟨w7.heap.size,5,none⟩=some (.slice (some ⟨b4,off4,none⟩) p.xs.length xc)/\V.cell? ⟨w7.heap.size,6,none⟩=some (.slice ya p.ys.length yc)/\V.cell? ⟨b4,off4+k,none⟩=some (.int .i64 z)) V from fun V hV=>⟨jt hV.1 y5,jt hV.1 y6,jt hV.2 yx⟩)
    have hzl100:=HLT.out
    clear hk3 hfr hxl hyl hxi hci hxr8 hcx ez hxk hk hbn HM
    go_upto_region 6 with fail
    clear y0
    refine wp_region_held_drew (S:=(fun V:World=>V.cell? ⟨w7.heap.size,5,none⟩=some (.slice (some ⟨b4,off4,none⟩) p.xs.length xc)/\V.cell? ⟨w7.heap.size,6,none⟩=some (.slice ya p.ys.length yc)/\V.cell? ⟨b4,off4+k,none⟩=some (.int .i64 z))) (by kernel_rfl) ?_ (fun hHeld=>?_)
    ·exact HK.out _ ⟨rfl,rfl⟩
    refine tkV 0 (.pointer (some ⟨W.heap.size+1+1,2,none⟩)) rfl (fun W hSW=>?_) hHeld ?_
    ·((try dsimp only at hSW);go_split_ands;go_simp <;> with_reducible rfl)
    try simp only[zA,zB,zC,Act.put,zD,zE,zF]
    refine tkV 2 (.pointer (some ⟨w7.heap.size,5,none⟩)) rfl (fun W hSW=>?_) hHeld ?_
    ·((try dsimp only at hSW);go_split_ands;go_simp <;> with_reducible rfl)
    try simp only[zA,zB,zC,Act.put,zD,zE,zF]
    refine tkV 3 (.slice (some ⟨b4,off4,none⟩) p.xs.length xc) rfl (fun W hSW=>?_) hHeld ?_
    ·((try dsimp only at hSW);go_split_ands;go_simp <;> with_reducible rfl)
    try simp only[zA,zB,zC,Act.put,zD,zE,zF]
    refine tkV 4 (.pointer (some ⟨w7.heap.size,6,none⟩)) rfl (fun W hSW=>?_) hHeld ?_
    ·((try dsimp only at hSW);go_split_ands;go_simp <;> with_reducible rfl)
    try simp only[zA,zB,zC,Act.put,zD,zE,zF]
    refine tkV 5 (.slice ya p.ys.length yc) rfl (fun W hSW=>?_) hHeld ?_
    ·((try dsimp only at hSW);go_split_ands;go_simp <;> with_reducible rfl)
    try simp only[zA,zB,zC,Act.put,zD,zE,zF]
    refine tkV 6 (.int .i64 fr) rfl (fun W hSW=>?_) hHeld ?_
    ·((try dsimp only at hSW);go_split_ands;go_simp <;> with_reducible rfl)
    try simp only[zA,zB,zC,Act.put,zD,zE,zF]
    refine wpAnyH_ready (rs:=[1,7]) (by kernel_rfl) (by simp) ?_
    refine AllReadyH.cons rfl (fun KK hKK=>?_) (AllReadyH.cons rfl (fun KK hKK=>?_) (AllReadyH.nil))
    ·try simp only[zA,zB,zC]
     go_simp
     refine hKK.out _ _ ?_ (fun hHeld=>?_)
     ·exact HK.out _ ⟨rfl,rfl⟩
     clear hKK KK
     try simp only[zA,zB,zC,Act.put,zD,zE,zF]
     refine wpAnyH_ready (rs:=[7]) (by kernel_rfl) (by simp) ?_
     refine AllReadyH.cons rfl (fun KK hKK=>?_) (AllReadyH.nil)
     try simp only[zA,zB,zC]
     go_simp
     (go_at_call 105;refine(HCI.out _ _ _ (HYD.out.drewN 1)).mono ?_;rintro e w9 ⟨rfl,hw9⟩;rw[hw9];clear hw9)
     try go_wp2_with fail
     refine hKK.out _ _ ?_ (fun hHeld=>?_)
     ·exact HK.out _ ⟨rfl,rfl⟩
     clear hKK KK
     try simp only[zA,zB,zC,Act.put,zD,zE,zF]
     refine tkV 8 (.pointer (some ⟨b4,off4+k,none⟩)) rfl (fun W hSW=>?_) hHeld ?_
     ·((try dsimp only at hSW);go_split_ands;go_simp <;> with_reducible rfl)
     try simp only[zA,zB,zC,Act.put,zD,zE,zF]
     refine tkV 9 (.int .i64 z) rfl (fun W hSW=>?_) hHeld ?_
     ·((try dsimp only at hSW);go_split_ands;go_simp <;> with_reducible rfl)
     try simp only[zA,zB,zC,Act.put,zD,zE,zF]
     refine wpAnyH_ready (rs:=[10]) (by kernel_rfl) (by simp) ?_
     refine AllReadyH.cons rfl (fun KK hKK=>?_) (AllReadyH.nil)
     try simp only[zA,zB,zC]
     go_simp
     obtain⟨w9,ew9⟩:∃w9,w9=(World.drewN w8 1).alloc (.cells #[.int .i64 z] 3):=⟨_,rfl⟩
     rw[<-ew9]
     have HB9:=zH (show Below w8.heap.size w8 w9 by rw[ew9];exact(show Below w8.heap.size w8 (World.drewN w8 1) from⟨rfl,rfl,rfl,Nat.le_refl _,fun _ _=>rfl⟩).alloc (Nat.le_refl _) _)
     have HL9:=zH (show w9.heap[w8.heap.size]?=some (.cells #[.int .i64 z] 3) by rw[ew9];exact heap_alloc_new (World.drewN w8 1) _)
     have HW9:=zH (HW8.out.on HB9.out)
     clear ew9
     refine hKK.out _ _ ?_ (fun hHeld=>?_)
     ·exact HK.out _ ⟨HB9.out.block _ (Array.getElem?_eq_some_iff.1 HO8.out).1,HB9.out.block _ (Nat.lt_of_lt_of_le hb4 HB8.out.size)⟩
     clear hKK KK
     try simp only[zA,zB,zC,Act.put,zD,zE,zF]
     refine wpAnyH_ready (rs:=[11]) (by kernel_rfl) (by simp) ?_
     refine AllReadyH.cons rfl (fun KK hKK=>?_) (AllReadyH.nil)
     refine step_append_lies _ rfl (.tmp 26) (.tmp 35) 54 rfl W.heap.size 3 j0 (.int .i64 0) 1 8 Tryz.underlying54 hj0 hw0 hw1 hw2 rfl (by decide) (.slice va9 zs.length vc9) zs.length (ao zs) (by rfl) HW9.out.own ⟨w8.heap.size,0,none⟩ 1 1 [.int .i64 z] (by rfl) rfl (World.news_of_block (cs:=#[.int .i64 z]) (t:=3) (fr:=(0,0)) HL9.out) (by intro u hu;rw[List.mem_singleton.1 hu];rfl) (by decide) (by unfold maxLen;omega) (by omega) (Nat.le_trans HBB.out.size HB9.out.size) _ rfl ?_
     intro g2 cap2 w10 hown hg hat hlt2
     obtain⟨hc6,hf6,hW11⟩:=HW9.out.put hown hg
     have HW11:=zH hW11
     have HE4:=zH (show w10.heap[b4]?=w8.heap[b4]? from(hg.block _ (Nat.lt_of_lt_of_le hb4 (Nat.le_trans HB8.out.size HB9.out.size)) (fun e=>by have h1:=(HW9.out.own.lt _ e.symm).1;have h2:=HB4.out;omega)).trans (HB9.out.block _ (Nat.lt_of_lt_of_le hb4 HB8.out.size)))
     have ho9:=(HB9.out.block _ (Array.getElem?_eq_some_iff.1 HO8.out).1).trans HO8.out
     have HE7:=zH (show w10.heap[w7.heap.size]?=w8.heap[w7.heap.size]? from(hg.block _ (Array.getElem?_eq_some_iff.1 ho9).1 (fun e=>aV HW9.out.own ho9 (by decide) e.symm)).trans (ho9.trans HO8.out.symm))
     have hx9:=(HB9.out.block _ (Array.getElem?_eq_some_iff.1 HX8.out).1).trans HX8.out
     have hr9:=(HB9.out.block _ (Array.getElem?_eq_some_iff.1 HR8.out).1).trans HR8.out
     have HX10:=zH ((hg.block _ (Array.getElem?_eq_some_iff.1 hx9).1 (fun e=>aV HW9.out.own hx9 (by decide) e.symm)).trans hx9)
     have HR10:=zH ((hg.block _ (Array.getElem?_eq_some_iff.1 hr9).1 (fun e=>aV HW9.out.own hr9 (by decide) e.symm)).trans hr9)
     have HB10:=zH ((HBB.out.trans (HB9.out.mono HBB.out.size)).grown hg (Nat.le_trans HBB.out.size HB9.out.size) (fun k e=>(HW9.out.own.lt k e).1))
     clear ho9 hx9 hr9 hown hg hat hlt2 hW11
     refine hKK.out _ _ ?_ (fun hHeld=>?_)
     ·exact HK.out _ ⟨HE7.out,HE4.out⟩
     clear hKK KK
     try simp only[zA,zB,zC,Act.put,zD,zE,zF]
     refine tkV 12 (.pointer (some ⟨W.heap.size+1+1,2,none⟩)) rfl (fun W hSW=>?_) hHeld ?_
     ·((try dsimp only at hSW);go_split_ands;go_simp <;> with_reducible rfl)
     try simp only[zA,zB,zC,Act.put,zD,zE,zF]
     refine wpAnyH_ready (rs:=[13]) (by kernel_rfl) (by simp) ?_
     refine AllReadyH.cons rfl (fun KK hKK=>?_) (AllReadyH.nil)
     try simp only[zA,zB,zC]
     go_simp
     refine hKK.out _ _ ?_ (fun hHeld=>?_)
     ·exact HK.out _ ⟨(Below.heap_setCell _ _ _ _ (by have:=HWB.out;show w7.heap.size≠W.heap.size+1+1;omega)).trans HE7.out,(Below.heap_setCell _ _ _ _ (by have:=HB4.out;show b4≠W.heap.size+1+1;omega)).trans HE4.out⟩
     clear hKK KK
     try simp only[zA,zB,zC,Act.put,zD,zE,zF]
     refine wpAnyH_done (by kernel_rfl) ?_ _
     clear hHeld hc6 hf6 m0 m1 m2 y5 y6 yx
     have HBF:=zH (HB10.out.setCell (p:=⟨W.heap.size+1+1,2,none⟩) (by simp;omega) (.slice (some ⟨g2,0,none⟩) (zs.length+1) cap2))
     go_wp2_with fail
     go_roundw
     case rel =>
      refine⟨zs.length+1,zs ++ [z],_,HLT.out,by go_num,zH ⟨by simp,fun j hj=>?_,fun j hj=>?_,HW11.out,(Below.heap_setCell _ _ _ _ (by show W.heap.size≠W.heap.size+1+1;omega)).trans HX10.out,(Below.heap_setCell _ _ _ _ (by show W.heap.size+1≠W.heap.size+1+1;omega)).trans HR10.out,HBF.out⟩⟩
      ·by_cases e:j=zs.length
       ·rw[e];exact HP3.out
       ·exact HPH.out.2 j (by omega)
      ·by_cases e:j=zs.length
       ·rw[e,List.getElem?_append_right (Nat.le_refl _),Nat.sub_self];exact HZ.out
       ·rw[List.length_append,List.length_singleton] at hj;rw[List.getElem?_append_left (by omega)];exact HI.out j (by omega)
     case measure=>have:=HLT.out;simp [intOf];omega
    ·try simp only[zA,zB,zC]
     go_simp
     (go_at_call 105;refine(HCI.out _ _ _ (HYD.out.drewN 1)).mono ?_;rintro e w9 ⟨rfl,hw9⟩;rw[hw9];clear hw9)
     try go_wp2_with fail
     refine hKK.out _ _ ?_ (fun hHeld=>?_)
     ·exact HK.out _ ⟨rfl,rfl⟩
     clear hKK KK
     try simp only[zA,zB,zC,Act.put,zD,zE,zF]
     refine tkV 8 (.pointer (some ⟨b4,off4+k,none⟩)) rfl (fun W hSW=>?_) hHeld ?_
     ·((try dsimp only at hSW);go_split_ands;go_simp <;> with_reducible rfl)
     try simp only[zA,zB,zC,Act.put,zD,zE,zF]
     refine tkV 9 (.int .i64 z) rfl (fun W hSW=>?_) hHeld ?_
     ·((try dsimp only at hSW);go_split_ands;go_simp <;> with_reducible rfl)
     try simp only[zA,zB,zC,Act.put,zD,zE,zF]
     refine wpAnyH_ready (rs:=[1,10]) (by kernel_rfl) (by simp) ?_
     refine AllReadyH.cons rfl (fun KK hKK=>?_) (AllReadyH.cons rfl (fun KK hKK=>?_) (AllReadyH.nil))
     ·try simp only[zA,zB,zC]
      go_simp
      refine hKK.out _ _ ?_ (fun hHeld=>?_)
      ·exact HK.out _ ⟨rfl,rfl⟩
      clear hKK KK
      try simp only[zA,zB,zC,Act.put,zD,zE,zF]
      refine wpAnyH_ready (rs:=[10]) (by kernel_rfl) (by simp) ?_
      refine AllReadyH.cons rfl (fun KK hKK=>?_) (AllReadyH.nil)
      try simp only[zA,zB,zC]
      go_simp
      obtain⟨w9,ew9⟩:∃w9,w9=(World.drewN w8 1).alloc (.cells #[.int .i64 z] 3):=⟨_,rfl⟩
      rw[<-ew9]
      have HB9:=zH (show Below w8.heap.size w8 w9 by rw[ew9];exact(show Below w8.heap.size w8 (World.drewN w8 1) from⟨rfl,rfl,rfl,Nat.le_refl _,fun _ _=>rfl⟩).alloc (Nat.le_refl _) _)
      have HL9:=zH (show w9.heap[w8.heap.size]?=some (.cells #[.int .i64 z] 3) by rw[ew9];exact heap_alloc_new (World.drewN w8 1) _)
      have HW9:=zH (HW8.out.on HB9.out)
      clear ew9
      refine hKK.out _ _ ?_ (fun hHeld=>?_)
      ·exact HK.out _ ⟨HB9.out.block _ (Array.getElem?_eq_some_iff.1 HO8.out).1,HB9.out.block _ (Nat.lt_of_lt_of_le hb4 HB8.out.size)⟩
      clear hKK KK
      try simp only[zA,zB,zC,Act.put,zD,zE,zF]
      refine wpAnyH_ready (rs:=[11]) (by kernel_rfl) (by simp) ?_
      refine AllReadyH.cons rfl (fun KK hKK=>?_) (AllReadyH.nil)
      refine step_append_lies _ rfl (.tmp 26) (.tmp 35) 54 rfl W.heap.size 3 j0 (.int .i64 0) 1 8 Tryz.underlying54 hj0 hw0 hw1 hw2 rfl (by decide) (.slice va9 zs.length vc9) zs.length (ao zs) (by rfl) HW9.out.own ⟨w8.heap.size,0,none⟩ 1 1 [.int .i64 z] (by rfl) rfl (World.news_of_block (cs:=#[.int .i64 z]) (t:=3) (fr:=(0,0)) HL9.out) (by intro u hu;rw[List.mem_singleton.1 hu];rfl) (by decide) (by unfold maxLen;omega) (by omega) (Nat.le_trans HBB.out.size HB9.out.size) _ rfl ?_
      intro g2 cap2 w10 hown hg hat hlt2
      obtain⟨hc6,hf6,hW11⟩:=HW9.out.put hown hg
      have HW11:=zH hW11
      have HE4:=zH (show w10.heap[b4]?=w8.heap[b4]? from(hg.block _ (Nat.lt_of_lt_of_le hb4 (Nat.le_trans HB8.out.size HB9.out.size)) (fun e=>by have h1:=(HW9.out.own.lt _ e.symm).1;have h2:=HB4.out;omega)).trans (HB9.out.block _ (Nat.lt_of_lt_of_le hb4 HB8.out.size)))
      have ho9:=(HB9.out.block _ (Array.getElem?_eq_some_iff.1 HO8.out).1).trans HO8.out
      have HE7:=zH (show w10.heap[w7.heap.size]?=w8.heap[w7.heap.size]? from(hg.block _ (Array.getElem?_eq_some_iff.1 ho9).1 (fun e=>aV HW9.out.own ho9 (by decide) e.symm)).trans (ho9.trans HO8.out.symm))
      have hx9:=(HB9.out.block _ (Array.getElem?_eq_some_iff.1 HX8.out).1).trans HX8.out
      have hr9:=(HB9.out.block _ (Array.getElem?_eq_some_iff.1 HR8.out).1).trans HR8.out
      have HX10:=zH ((hg.block _ (Array.getElem?_eq_some_iff.1 hx9).1 (fun e=>aV HW9.out.own hx9 (by decide) e.symm)).trans hx9)
      have HR10:=zH ((hg.block _ (Array.getElem?_eq_some_iff.1 hr9).1 (fun e=>aV HW9.out.own hr9 (by decide) e.symm)).trans hr9)
      have HB10:=zH ((HBB.out.trans (HB9.out.mono HBB.out.size)).grown hg (Nat.le_trans HBB.out.size HB9.out.size) (fun k e=>(HW9.out.own.lt k e).1))
      clear ho9 hx9 hr9 hown hg hat hlt2 hW11
      refine hKK.out _ _ ?_ (fun hHeld=>?_)
      ·exact HK.out _ ⟨HE7.out,HE4.out⟩
      clear hKK KK
      try simp only[zA,zB,zC,Act.put,zD,zE,zF]
      refine tkV 12 (.pointer (some ⟨W.heap.size+1+1,2,none⟩)) rfl (fun W hSW=>?_) hHeld ?_
      ·((try dsimp only at hSW);go_split_ands;go_simp <;> with_reducible rfl)
      try simp only[zA,zB,zC,Act.put,zD,zE,zF]
      refine wpAnyH_ready (rs:=[13]) (by kernel_rfl) (by simp) ?_
      refine AllReadyH.cons rfl (fun KK hKK=>?_) (AllReadyH.nil)
      try simp only[zA,zB,zC]
      go_simp
      refine hKK.out _ _ ?_ (fun hHeld=>?_)
      ·exact HK.out _ ⟨(Below.heap_setCell _ _ _ _ (by have:=HWB.out;show w7.heap.size≠W.heap.size+1+1;omega)).trans HE7.out,(Below.heap_setCell _ _ _ _ (by have:=HB4.out;show b4≠W.heap.size+1+1;omega)).trans HE4.out⟩
      clear hKK KK
      try simp only[zA,zB,zC,Act.put,zD,zE,zF]
      refine wpAnyH_done (by kernel_rfl) ?_ _
      clear hHeld hc6 hf6 m0 m1 m2 y5 y6 yx
      have HBF:=zH (HB10.out.setCell (p:=⟨W.heap.size+1+1,2,none⟩) (by simp;omega) (.slice (some ⟨g2,0,none⟩) (zs.length+1) cap2))
      go_wp2_with fail
      go_roundw
      case rel =>
       refine⟨zs.length+1,zs ++ [z],_,HLT.out,by go_num,zH ⟨by simp,fun j hj=>?_,fun j hj=>?_,HW11.out,(Below.heap_setCell _ _ _ _ (by show W.heap.size≠W.heap.size+1+1;omega)).trans HX10.out,(Below.heap_setCell _ _ _ _ (by show W.heap.size+1≠W.heap.size+1+1;omega)).trans HR10.out,HBF.out⟩⟩
       ·by_cases e:j=zs.length
        ·rw[e];exact HP3.out
        ·exact HPH.out.2 j (by omega)
       ·by_cases e:j=zs.length
        ·rw[e,List.getElem?_append_right (Nat.le_refl _),Nat.sub_self];exact HZ.out
        ·rw[List.length_append,List.length_singleton] at hj;rw[List.getElem?_append_left (by omega)];exact HI.out j (by omega)
      case measure=>have:=HLT.out;simp [intOf];omega
     ·try simp only[zA,zB,zC]
      go_simp
      obtain⟨w9,ew9⟩:∃w9,w9=(World.drewN w8 1).alloc (.cells #[.int .i64 z] 3):=⟨_,rfl⟩
      rw[<-ew9]
      have HB9:=zH (show Below w8.heap.size w8 w9 by rw[ew9];exact(show Below w8.heap.size w8 (World.drewN w8 1) from⟨rfl,rfl,rfl,Nat.le_refl _,fun _ _=>rfl⟩).alloc (Nat.le_refl _) _)
      have HL9:=zH (show w9.heap[w8.heap.size]?=some (.cells #[.int .i64 z] 3) by rw[ew9];exact heap_alloc_new (World.drewN w8 1) _)
      have HW9:=zH (HW8.out.on HB9.out)
      clear ew9
      refine hKK.out _ _ ?_ (fun hHeld=>?_)
      ·exact HK.out _ ⟨HB9.out.block _ (Array.getElem?_eq_some_iff.1 HO8.out).1,HB9.out.block _ (Nat.lt_of_lt_of_le hb4 HB8.out.size)⟩
      clear hKK KK
      try simp only[zA,zB,zC,Act.put,zD,zE,zF]
      obtain⟨n0,n1,n2⟩:=HW9.out.cells
      refine wpAnyH_ready (rs:=[1]) (by kernel_rfl) (by simp) ?_
      refine AllReadyH.cons rfl (fun KK hKK=>?_) (AllReadyH.nil)
      try simp only[zA,zB,zC]
      go_simp
      refine hKK.out _ _ ?_ (fun hHeld=>?_)
      ·exact HK.out _ ⟨HB9.out.block _ (Array.getElem?_eq_some_iff.1 HO8.out).1,HB9.out.block _ (Nat.lt_of_lt_of_le hb4 HB8.out.size)⟩
      clear hKK KK
      try simp only[zA,zB,zC,Act.put,zD,zE,zF]
      refine wpAnyH_ready (rs:=[11]) (by kernel_rfl) (by simp) ?_
      refine AllReadyH.cons rfl (fun KK hKK=>?_) (AllReadyH.nil)
      refine step_append_lies _ rfl (.tmp 26) (.tmp 35) 54 rfl W.heap.size 3 j0 (.int .i64 0) 1 8 Tryz.underlying54 hj0 hw0 hw1 hw2 rfl (by decide) (.slice va9 zs.length vc9) zs.length (ao zs) (by rfl) HW9.out.own ⟨w8.heap.size,0,none⟩ 1 1 [.int .i64 z] (by rfl) rfl (World.news_of_block (cs:=#[.int .i64 z]) (t:=3) (fr:=(0,0)) HL9.out) (by intro u hu;rw[List.mem_singleton.1 hu];rfl) (by decide) (by unfold maxLen;omega) (by omega) (Nat.le_trans HBB.out.size HB9.out.size) _ rfl ?_
      intro g2 cap2 w10 hown hg hat hlt2
      obtain⟨hc6,hf6,hW11⟩:=HW9.out.put hown hg
      have HW11:=zH hW11
      have HE4:=zH (show w10.heap[b4]?=w8.heap[b4]? from(hg.block _ (Nat.lt_of_lt_of_le hb4 (Nat.le_trans HB8.out.size HB9.out.size)) (fun e=>by have h1:=(HW9.out.own.lt _ e.symm).1;have h2:=HB4.out;omega)).trans (HB9.out.block _ (Nat.lt_of_lt_of_le hb4 HB8.out.size)))
      have ho9:=(HB9.out.block _ (Array.getElem?_eq_some_iff.1 HO8.out).1).trans HO8.out
      have HE7:=zH (show w10.heap[w7.heap.size]?=w8.heap[w7.heap.size]? from(hg.block _ (Array.getElem?_eq_some_iff.1 ho9).1 (fun e=>aV HW9.out.own ho9 (by decide) e.symm)).trans (ho9.trans HO8.out.symm))
      have hx9:=(HB9.out.block _ (Array.getElem?_eq_some_iff.1 HX8.out).1).trans HX8.out
      have hr9:=(HB9.out.block _ (Array.getElem?_eq_some_iff.1 HR8.out).1).trans HR8.out
      have HX10:=zH ((hg.block _ (Array.getElem?_eq_some_iff.1 hx9).1 (fun e=>aV HW9.out.own hx9 (by decide) e.symm)).trans hx9)
      have HR10:=zH ((hg.block _ (Array.getElem?_eq_some_iff.1 hr9).1 (fun e=>aV HW9.out.own hr9 (by decide) e.symm)).trans hr9)
      have HB10:=zH ((HBB.out.trans (HB9.out.mono HBB.out.size)).grown hg (Nat.le_trans HBB.out.size HB9.out.size) (fun k e=>(HW9.out.own.lt k e).1))
      clear ho9 hx9 hr9 hown hg hat hlt2 hW11
      refine hKK.out _ _ ?_ (fun hHeld=>?_)
      ·exact HK.out _ ⟨HE7.out,HE4.out⟩
      clear hKK KK
      try simp only[zA,zB,zC,Act.put,zD,zE,zF]
      refine tkV 12 (.pointer (some ⟨W.heap.size+1+1,2,none⟩)) rfl (fun W hSW=>?_) hHeld ?_
      ·((try dsimp only at hSW);go_split_ands;go_simp <;> with_reducible rfl)
      try simp only[zA,zB,zC,Act.put,zD,zE,zF]
      refine wpAnyH_ready (rs:=[13]) (by kernel_rfl) (by simp) ?_
      refine AllReadyH.cons rfl (fun KK hKK=>?_) (AllReadyH.nil)
      try simp only[zA,zB,zC]
      go_simp
      refine hKK.out _ _ ?_ (fun hHeld=>?_)
      ·exact HK.out _ ⟨(Below.heap_setCell _ _ _ _ (by have:=HWB.out;show w7.heap.size≠W.heap.size+1+1;omega)).trans HE7.out,(Below.heap_setCell _ _ _ _ (by have:=HB4.out;show b4≠W.heap.size+1+1;omega)).trans HE4.out⟩
      clear hKK KK
      try simp only[zA,zB,zC,Act.put,zD,zE,zF]
      refine wpAnyH_done (by kernel_rfl) ?_ _
      clear hHeld hc6 hf6 m0 m1 m2 y5 y6 yx
      have HBF:=zH (HB10.out.setCell (p:=⟨W.heap.size+1+1,2,none⟩) (by simp;omega) (.slice (some ⟨g2,0,none⟩) (zs.length+1) cap2))
      go_wp2_with fail
      go_roundw
      case rel =>
       refine⟨zs.length+1,zs ++ [z],_,HLT.out,by go_num,zH ⟨by simp,fun j hj=>?_,fun j hj=>?_,HW11.out,(Below.heap_setCell _ _ _ _ (by show W.heap.size≠W.heap.size+1+1;omega)).trans HX10.out,(Below.heap_setCell _ _ _ _ (by show W.heap.size+1≠W.heap.size+1+1;omega)).trans HR10.out,HBF.out⟩⟩
       ·by_cases e:j=zs.length
        ·rw[e];exact HP3.out
        ·exact HPH.out.2 j (by omega)
       ·by_cases e:j=zs.length
        ·rw[e,List.getElem?_append_right (Nat.le_refl _),Nat.sub_self];exact HZ.out
        ·rw[List.length_append,List.length_singleton] at hj;rw[List.getElem?_append_left (by omega)];exact HI.out j (by omega)
      case measure=>have:=HLT.out;simp [intOf];omega
   ·have t1:(p.k != 3)=true:=by simp [hk3]
    clear hk3
    obtain⟨va9,vc9,rfl⟩:=GG.ap HW8.out.own
    obtain⟨m0,m1,m2⟩:=HW8.out.cells
    by_cases hz:zs.length=0
    ·have t9:decide (0<zs.length)=false:=decide_eq_false (by omega)
     have HRB:=zH (ii HW8.out HR8.out)
     obtain⟨⟨r0,r1,r2⟩,⟨f0,f1,f2⟩,hs,hw⟩:=ii HW8.out HR8.out
     have e0:((0:Nat):Int)=0:=rfl
     rw[e0] at hs m1
     have HS:=zH hs
     have HWY:=zH hw
     have hz2:zs=[]:=List.eq_nil_of_length_eq_zero hz
     have HZ2:=zH hz2
     clear hs hw hz e0 hz2
     go_wp2_with fail
     obtain⟨s0,s1,s2⟩:=HS.out
     refine bodyPost_ret (v:=.agg #[.int .i64 tb,.int .i64 0,.slice va9 zs.length vc9]) (by simp [results,Tryz.results80,go_sem,s0,s1,s2]) rfl ?_
     exact⟨tb,0,va9,_,vc9,rfl,⟨HTO.out,zs,HWY.out,by rw[HZ2.out];exact Nat.zero_le _,HI.out⟩,(((HBB.out.setCell (p:=⟨W.heap.size+1,0,none⟩) (by simp) _).setCell (p:=⟨W.heap.size+1,1,none⟩) (by simp) _).setCell (p:=⟨W.heap.size+1,2,none⟩) (by simp) _)⟩
    ·have t9:decide (0<zs.length)=true:=decide_eq_true (by omega)
     obtain⟨d,hd,hdv⟩:=HL.out.first zs.length (by omega) HPH.out.1 HPH.out.2
     have HD:=zH hdv
     have hc3:=(HBB.out.cell (p:=⟨b2,off2+tb,none⟩) HC2.out.1).trans HC2.out.2
     obtain⟨b3,off3,xa,xc,ya,yc,eo,hb3,ho3,_,_⟩:=(HO2.out.below (HBB.out.mono HN.out)).at (i:=0) (by have:=HPH.out.1;omega)
     cases eo
     have hl0:(0:Int)<(l.length:Int):=by have:=HPH.out.1;omega
     have hl00:¬l.length=0:=by have:=HPH.out.1;omega
     have k2:=ho3 2 (.int .i64 (ae l 0).d) rfl
     rw[hd] at k2
     simp only[Nat.zero_mul,Nat.add_zero] at k2
     have itt:(0:Int)<=tb/\(tb:Int)<bs.length:=by have:=HTO.out;omega
     obtain⟨x0,x1,x2⟩:=obj3 HX8.out
     have fz:=aj (k:=1) HW8.out.obj
     obtain⟨_,_,hs,hw⟩:=ii (HW8.out.first d) (mO HW8.out d HR8.out (by omega))
     obtain⟨r0,r1,r2⟩:=obj3 HR8.out
     have f0:=aj (k:=0) HR8.out
     have f1:=aj (k:=1) HR8.out
     have f2:=aj (k:=2) HR8.out
     have HS:=zH hs
     have HWY:=zH hw
     clear hs hw hz ho3 hd hdv
     go_wp2_with fail
     obtain⟨s0,s1,s2⟩:=HS.out
     refine bodyPost_ret (v:=.agg #[.int .i64 tb,.int .i64 d,.slice va9 zs.length vc9]) (by simp [results,Tryz.results80,go_sem,s0,s1,s2]) rfl ?_
     exact⟨tb,d,va9,_,vc9,rfl,⟨HTO.out,zs,HWY.out,HD.out,HI.out⟩,((((HBB.out.setCell (p:=⟨W.heap.size+1+1,1,none⟩) (by simp;omega) _).setCell (p:=⟨W.heap.size+1,0,none⟩) (by simp) _).setCell (p:=⟨W.heap.size+1,1,none⟩) (by simp) _).setCell (p:=⟨W.heap.size+1,2,none⟩) (by simp) _)⟩
  ·skip
   obtain⟨va9,vc9,rfl⟩:=GG.ap HW7.out.own
   obtain⟨m0,m1,m2⟩:=HW7.out.cells
   by_cases hz:zs.length=0
   ·have t9:decide (0<zs.length)=false:=decide_eq_false (by omega)
    have HRB:=zH (ii HW7.out HR7.out)
    obtain⟨⟨r0,r1,r2⟩,⟨f0,f1,f2⟩,hs,hw⟩:=ii HW7.out HR7.out
    have e0:((0:Nat):Int)=0:=rfl
    rw[e0] at hs m1
    have HS:=zH hs
    have HWY:=zH hw
    have hz2:zs=[]:=List.eq_nil_of_length_eq_zero hz
    have HZ2:=zH hz2
    clear hs hw hz e0 hz2
    go_wp2_with fail
    obtain⟨s0,s1,s2⟩:=HS.out
    refine bodyPost_ret (v:=.agg #[.int .i64 tb,.int .i64 0,.slice va9 zs.length vc9]) (by simp [results,Tryz.results80,go_sem,s0,s1,s2]) rfl ?_
    exact⟨tb,0,va9,_,vc9,rfl,⟨HTO.out,zs,HWY.out,by rw[HZ2.out];exact Nat.zero_le _,HI.out⟩,(((HB7.out.setCell (p:=⟨W.heap.size+1,0,none⟩) (by simp) _).setCell (p:=⟨W.heap.size+1,1,none⟩) (by simp) _).setCell (p:=⟨W.heap.size+1,2,none⟩) (by simp) _)⟩
   ·have t9:decide (0<zs.length)=true:=decide_eq_true (by omega)
    obtain⟨d,hd,hdv⟩:=HL.out.first zs.length (by omega) HPH.out.1 HPH.out.2
    have HD:=zH hdv
    have hc3:=(HB7.out.cell (p:=⟨b2,off2+tb,none⟩) HC2.out.1).trans HC2.out.2
    obtain⟨b3,off3,xa,xc,ya,yc,eo,hb3,ho3,_,_⟩:=(HO2.out.below (HB7.out.mono HN.out)).at (i:=0) (by have:=HPH.out.1;omega)
    cases eo
    have hl0:(0:Int)<(l.length:Int):=by have:=HPH.out.1;omega
    have hl00:¬l.length=0:=by have:=HPH.out.1;omega
    have k2:=ho3 2 (.int .i64 (ae l 0).d) rfl
    rw[hd] at k2
    simp only[Nat.zero_mul,Nat.add_zero] at k2
    have itt:(0:Int)<=tb/\(tb:Int)<bs.length:=by have:=HTO.out;omega
    obtain⟨x0,x1,x2⟩:=obj3 HX7.out
    have fz:=aj (k:=1) HW7.out.obj
    obtain⟨_,_,hs,hw⟩:=ii (HW7.out.first d) (mO HW7.out d HR7.out (by omega))
    obtain⟨r0,r1,r2⟩:=obj3 HR7.out
    have f0:=aj (k:=0) HR7.out
    have f1:=aj (k:=1) HR7.out
    have f2:=aj (k:=2) HR7.out
    have HS:=zH hs
    have HWY:=zH hw
    clear hs hw hz ho3 hd hdv
    go_wp2_with fail
    obtain⟨s0,s1,s2⟩:=HS.out
    refine bodyPost_ret (v:=.agg #[.int .i64 tb,.int .i64 d,.slice va9 zs.length vc9]) (by simp [results,Tryz.results80,go_sem,s0,s1,s2]) rfl ?_
    exact⟨tb,d,va9,_,vc9,rfl,⟨HTO.out,zs,HWY.out,HD.out,HI.out⟩,((((HB7.out.setCell (p:=⟨W.heap.size+1+1,1,none⟩) (by simp;omega) _).setCell (p:=⟨W.heap.size+1,0,none⟩) (by simp) _).setCell (p:=⟨W.heap.size+1,1,none⟩) (by simp) _).setCell (p:=⟨W.heap.size+1,2,none⟩) (by simp) _)⟩
end
section
open Go.RowKit
open CD (OpP BodyP CodeP ae blAt fnAt)
theorem eU{n₀:Nat}{W:World}{xa:Option Addr}{xc:Nat}{xs:List Int}(h:Row n₀ W (.slice xa xs.length xc) xs)(h0:0<xs.length):∃b off,xa=some ⟨b,off,none⟩/\∀k,k<xs.length->W.cell? ⟨b,off+k,none⟩=some (.int .i64 (xs[k]?.getD 0)):=by
 obtain⟨b,off,e,_⟩:=h.cellAt h0
 refine⟨b,off,e,fun k hk=>?_⟩
 obtain⟨b',off',e',hc⟩:=h.cellAt hk
 rw[e] at e'
 cases e'
 exact hc
theorem dI{x m:Int}(h:0<=x/\x<m):∃n:Nat,x=(n:Int)/\n<m.toNat:=⟨x.toNat,by omega,by omega⟩
set_option maxHeartbeats 1600000 in
theorem typed_any{q:CD.Cnt}{c:CodeP}{b:BodyP}{nx:Int}{refs:List Int}(p:OpP)(ho:CD.OpOk q c b p nx)(h3:p.k≠3)(hd:CD.Defs p.k->0<=p.d/\p.d<b.va)(hm:p.k=7->p.r∈refs)(hpa:CD.paAt c p.r<=4096){n₀:Nat}{xa ya:Option Addr}{xc yc:Nat}{W:World}(hx:Row n₀ W (.slice xa p.xs.length xc) p.xs)(hn:n₀<=W.heap.size)(g0 g1:Value)
 (hto:∀z w1,(p.k=11/\z=p.r∨p.k=12/\(z=p.r∨z=p.a))->Below W.heap.size W w1->Calls Tryz.prog 79 #[.int .i64 z,g0,g1] w1 fun e w'=>lD b.va.toNat b.bs.length w1 e w') :
 Calls Tryz.prog 81 #[.agg #[.int .u8 p.k,.int .u8 p.o,.int .i64 p.d,.int .i64 p.r,.int .i64 p.a,.slice xa p.xs.length xc,.slice ya p.ys.length yc,.int .i64 p.n,.int .i64 p.t],.func (.func 79) #[] #[g0,g1]] W fun e w'=>∃v,e=.returned v/\InsV q.fn q.ar b.va.toNat b.bs.length refs n₀ w' (decide (CD.Ends p.k)) v/\Below W.heap.size W w':=by
 obtain⟨k,o,d,r,a,xs,ys,n,t⟩:=p
 obtain⟨hk,hop,hdd,hr,ha,hco,hix,hiy⟩:=ho
 simp only at hk hop hdd hr ha hco hix hiy h3 hd hm hpa hx hto ⊢
 have hv:∀j,j<xs.length->∃y:Nat,xs[j]?.getD 0=(y:Int)/\y<b.va.toNat:=fun j hj=>dI (hix j hj)
 have hks:k=1∨k=2∨k=4∨k=5∨k=6∨k=7∨k=8∨k=9∨k=10∨k=11∨k=12∨k=13:=by omega
 rcases hks with rfl | rfl | rfl | rfl | rfl | rfl | rfl | rfl | rfl | rfl | rfl | rfl
 ·rw[show decide (CD.Ends 1)=false from by decide]
  obtain⟨d',rfl,hd'⟩:=dI (hd (by unfold CD.Defs;omega))
  refine(lC o d' r a n t xa ya _ xc _ yc _ W).mono ?_
  rintro e w1 ⟨rfl,hb⟩
  exact⟨_,rfl,.konst d' n hd',hb⟩
 ·rw[show decide (CD.Ends 2)=false from by decide]
  obtain⟨d',rfl,hd'⟩:=dI (hd (by unfold CD.Defs;omega))
  have hl:xs.length=2:=by unfold CD.aJ at hco;simpa [CD.argN] using hco.2
  obtain⟨bb,off,ea,hc⟩:=eU hx (by omega)
  obtain⟨y0,e0,hy0⟩:=hv 0 (by omega)
  obtain⟨y1,e1,hy1⟩:=hv 1 (by omega)
  have c0:=hc 0 (by omega)
  have c1:=hc 1 (by omega)
  rw[e0] at c0
  rw[e1] at c1
  have ho:1<=o/\o<=12:=by unfold CD.fJ at hop;simpa using hop.1
  refine(ol o d' r a n t xa ya _ xc _ yc _ W y0 y1 bb off ea (by omega) (by omega) c0 c1).mono ?_
  rintro e w1 ⟨rfl,hb⟩
  exact⟨_,rfl,.bin d' y0 y1 o ho hd' hy0 hy1,hb⟩
 ·rw[show decide (CD.Ends 4)=false from by decide]
  obtain⟨d',rfl,hd'⟩:=dI (hd (by unfold CD.Defs;omega))
  have hl:xs.length=1:=by unfold CD.aJ at hco;simpa [CD.argN] using hco.2
  rw[show CD.refN q b.bs.length 4=q.ar by simp [CD.refN]] at hr
  obtain⟨r',rfl,hr'⟩:=dI hr
  obtain⟨bb,off,ea,hc⟩:=eU hx (by omega)
  obtain⟨y0,e0,hy0⟩:=hv 0 (by omega)
  have c0:=hc 0 (by omega)
  rw[e0] at c0
  refine(rJ o d' r' a n t xa ya _ xc _ yc _ W y0 bb off ea (by omega) (by omega) c0).mono ?_
  rintro e w1 ⟨rfl,hb⟩
  exact⟨_,rfl,.load d' r' y0 hd' (by omega) hy0,hb⟩
 ·rw[show decide (CD.Ends 5)=false from by decide]
  obtain⟨d',rfl,hd'⟩:=dI (hd (by unfold CD.Defs;omega))
  have hl:xs.length=1:=by unfold CD.aJ at hco;simpa [CD.argN] using hco.2
  rw[show CD.refN q b.bs.length 5=q.ar by simp [CD.refN]] at hr
  obtain⟨r',rfl,hr'⟩:=dI hr
  obtain⟨bb,off,ea,hc⟩:=eU hx (by omega)
  obtain⟨y0,e0,hy0⟩:=hv 0 (by omega)
  have c0:=hc 0 (by omega)
  rw[e0] at c0
  refine(rK o d' r' a n t xa ya _ xc _ yc _ W y0 bb off ea (by omega) (by omega) c0).mono ?_
  rintro e w1 ⟨rfl,hb⟩
  exact⟨_,rfl,.wrap d' r' y0 hd' (by omega) hy0,hb⟩
 ·rw[show decide (CD.Ends 6)=false from by decide]
  have hl:xs.length=2:=by unfold CD.aJ at hco;simpa [CD.argN] using hco.2
  rw[show CD.refN q b.bs.length 6=q.ar by simp [CD.refN]] at hr
  obtain⟨r',rfl,hr'⟩:=dI hr
  obtain⟨bb,off,ea,hc⟩:=eU hx (by omega)
  obtain⟨y0,e0,hy0⟩:=hv 0 (by omega)
  obtain⟨y1,e1,hy1⟩:=hv 1 (by omega)
  have c0:=hc 0 (by omega)
  have c1:=hc 1 (by omega)
  rw[e0] at c0
  rw[e1] at c1
  refine(pS o d r' a n t xa ya _ xc _ yc _ W y0 y1 bb off ea (by omega) (by omega) c0 c1).mono ?_
  rintro e w1 ⟨rfl,hb⟩
  exact⟨_,rfl,.store r' y0 y1 (by omega) hy0 hy1,hb⟩
 ·rw[show decide (CD.Ends 7)=false from by decide]
  obtain⟨d',rfl,hd'⟩:=dI (hd (by unfold CD.Defs;omega))
  have hl:(xs.length:Int)=CD.paAt c r:=by unfold CD.aJ at hco;simpa using hco.2
  rw[show CD.refN q b.bs.length 7=q.fn by simp [CD.refN]] at hr
  have hmm:=hm rfl
  obtain⟨r',rfl,hr'⟩:=dI hr
  refine(rL o d' r' a n t xa ya _ xc _ yc _ W).mono ?_
  rintro e w1 ⟨rfl,hb⟩
  exact⟨_,rfl,.call d' r' xa xc xs hd' (by omega) hmm (hx.below (hb.mono hn)) (by omega) (fun j hj=>by have:=hix j hj;omega),hb⟩
 ·rw[show decide (CD.Ends 8)=false from by decide]
  obtain⟨d',rfl,hd'⟩:=dI (hd (by unfold CD.Defs;omega))
  refine(pT o d' r a n t xa ya _ xc _ yc _ W).mono ?_
  rintro e w1 ⟨rfl,hb⟩
  exact⟨_,rfl,.input d' r hd',hb⟩
 ·rw[show decide (CD.Ends 9)=false from by decide]
  have hl:xs.length=1:=by unfold CD.aJ at hco;simpa [CD.argN] using hco.2
  obtain⟨bb,off,ea,hc⟩:=eU hx (by omega)
  obtain⟨y0,e0,hy0⟩:=hv 0 (by omega)
  have c0:=hc 0 (by omega)
  rw[e0] at c0
  refine(om o d r a n t xa ya _ xc _ yc _ W y0 bb off ea (by omega) (by omega) c0).mono ?_
  rintro e w1 ⟨rfl,hb⟩
  exact⟨_,rfl,.output r y0 t hy0,hb⟩
 ·rw[show decide (CD.Ends 10)=false from by decide]
  obtain⟨d',rfl,hd'⟩:=dI (hd (by unfold CD.Defs;omega))
  have hl:xs.length=1:=by unfold CD.aJ at hco;simpa [CD.argN] using hco.2
  obtain⟨bb,off,ea,hc⟩:=eU hx (by omega)
  obtain⟨y0,e0,hy0⟩:=hv 0 (by omega)
  have c0:=hc 0 (by omega)
  rw[e0] at c0
  refine(lW o d' r a n t xa ya _ xc _ yc _ W y0 bb off ea (by omega) (by omega) c0).mono ?_
  rintro e w1 ⟨rfl,hb⟩
  exact⟨_,rfl,.release d' r y0 t hd' hy0,hb⟩
 ·rw[show decide (CD.Ends 11)=true from by decide]
  refine(rM b.va.toNat b.bs.length o d r a n t xa ya _ xc _ yc g0 g1 W (fun w1 hb=>hto r w1 (.inl ⟨rfl,rfl⟩) hb)).mono ?_
  rintro e w1 ⟨bl,fi,za,zn,zc,rfl,hw,hb⟩
  exact⟨_,rfl,.jump bl fi _ hw,hb⟩
 ·rw[show decide (CD.Ends 12)=true from by decide]
  have hl:xs.length=1:=by unfold CD.aJ at hco;simpa [CD.argN] using hco.2
  obtain⟨bb,off,ea,hc⟩:=eU hx (by omega)
  subst ea
  obtain⟨y0,e0,hy0⟩:=hv 0 (by omega)
  have c0:=hc 0 (by omega)
  rw[e0] at c0
  refine(oq b.va.toNat b.bs.length o d r a n t y0 bb off ya _ xc _ yc g0 g1 W (by omega) (by omega) c0 (fun z w1 hz hb=>hto z w1 (.inr ⟨rfl,hz⟩) hb)).mono ?_
  rintro e w1 ⟨bl,fi,za,zn,zc,bl',fi',za',zn',zc',rfl,hw,hw',hb⟩
  exact⟨_,rfl,.branch y0 bl fi bl' fi' _ _ hy0 hw hw',hb⟩
 ·rw[show decide (CD.Ends 13)=true from by decide]
  have hl:xs.length=1:=by unfold CD.aJ at hco;simpa [CD.argN] using hco.2
  obtain⟨bb,off,ea,hc⟩:=eU hx (by omega)
  obtain⟨y0,e0,hy0⟩:=hv 0 (by omega)
  have c0:=hc 0 (by omega)
  rw[e0] at c0
  refine(pU o d r a n t xa ya _ xc _ yc _ W y0 bb off ea (by omega) (by omega) c0).mono ?_
  rintro e w1 ⟨rfl,hb⟩
  exact⟨_,rfl,.leave y0 hy0,hb⟩
end
section
open Go.RowKit
open CD (OpP BodyP CodeP ae blAt fnAt)
theorem Tryz.infoIIns:(Tryz.prog.info? 150).map (fun i=>(i.zero,i.size,i.bytes))=some (some .nilIface,1,16):=by kernel_rfl
theorem InsV.one{nf na va nb:Nat}{refs:List Int}{B0:Nat}{W:World}{z:Bool}{v:Value}(h:InsV nf na va nb refs B0 W z v):v.oneCell'=true:=by cases h <;> rfl
theorem InsV.form{nf na va nb:Nat}{refs:List Int}{B0:Nat}{W:World}{z:Bool}{v:Value}(h:InsV nf na va nb refs B0 W z v):∃t u,v=.iface t u:=by cases h <;> exact⟨_,_,rfl⟩
structure BlkV (nf na va nb:Nat) (refs:List Int) (B0:Nat) (W:World) (v:Value) (n:Nat) (xs:Nat->Value):Prop where
 own:W.ownsRow 0 150 1 v n (tabV n xs)
 len:1<=n/\n<=100000
 ins:∀k,k<n->InsV nf na va nb refs B0 W (decide (k+1=n)) (xs k)
theorem BlkV.chg{X:Nat->Prop}{A B:World}{B0:Nat}(h:Chg X A B)(hb:Below B0 A B)(hx:∀(k:Nat) (c:Array Value) (t:TypeId),A.heap[k]?=some (.cells c t (0,0))->t=150∨t=3->¬X k){nf na va nb:Nat}{refs:List Int}{v:Value}{n:Nat}{xs:Nat->Value}(g:BlkV nf na va nb refs B0 A v n xs):BlkV nf na va nb refs B0 B v n xs :=
 ⟨h.own (by decide) g.own (fun k hk=>by obtain⟨_,_,c,hc⟩:=GG.own_block g.own hk;exact hx k c _ hc (.inl rfl)),g.len,fun k hk=>(g.ins k hk).chg h hb (fun k c hc=>hx k c _ hc (.inr rfl))⟩
def ot(nf na va nb:Nat)(refs:List Int)(n₀:Nat)(W:World)(e:Ending)(w':World):Prop:=∃(v:Value) (n:Nat) (xs:Nat->Value),e=.returned v/\BlkV nf na va nb refs n₀ w' v n xs/\Below W.heap.size W w'
theorem ot.of{nf na va nb:Nat}{refs:List Int}{n₀:Nat}{W:World}{e:Ending}{w':World}(h:ot nf na va nb refs n₀ W e w'):∃(v:Value) (n:Nat) (xs:Nat->Value),e=.returned v/\BlkV nf na va nb refs n₀ w' v n xs/\Below W.heap.size W w':=h
theorem blockE_mk{nf na va nb:Nat}{refs:List Int}{n₀:Nat}{W:World}{w':World}{v:Value}{n:Nat}{xs:Nat->Value}(h:BlkV nf na va nb refs n₀ w' v n xs)(hb:Below W.heap.size W w'):ot nf na va nb refs n₀ W (.returned v) w':=⟨v,n,xs,rfl,h,hb⟩
theorem block_to{q:CD.Cnt}{c:CodeP}{b:BodyP}(h:CD.aL q c b)(hf:jY b)(hk:∀k,k<b.bs.length->(blAt b k).length<=300){fr:Nat}(hfr:fr<b.bs.length){n₀:Nat}{ba:Option Addr}{bc:Nat}{W0:World}(hn:n₀<=W0.heap.size)(hM:aX n₀ W0 (.slice ba b.bs.length bc) b.bs){g1 g2:Nat}(h1:W0.heap[g1]?=some (.cells #[.int .i64 b.pa,.int .i64 b.va,.slice ba b.bs.length bc] 52))(h2:W0.cell? ⟨g2,0,none⟩=some (.int .i64 fr)){i:Nat}(hi:i<(blAt b fr).length) :
 ∀V,Below W0.heap.size W0 V->∀z,((ae (blAt b fr) i).k=11/\z=(ae (blAt b fr) i).r∨(ae (blAt b fr) i).k=12/\(z=(ae (blAt b fr) i).r∨z=(ae (blAt b fr) i).a))->Calls Tryz.prog 79 #[.int .i64 z,.pointer (some ⟨g1,0,none⟩),.pointer (some ⟨g2,0,none⟩)] V fun e w'=>lD b.va.toNat b.bs.length V e w':=by
 intro V hV z hz
 have hend:i+1=(blAt b fr).length:=((h.2.1 fr hfr).2 i hi).2.1.1 (by unfold CD.Ends;omega)
 have ei:i=(blAt b fr).length-1:=by omega
 rw[ei] at hz
 obtain⟨hzr,hld⟩:=rr h hfr hz
 obtain⟨tb,rfl⟩:∃tb:Nat,z=(tb:Int):=⟨z.toNat,by omega⟩
 have hto:tb<b.bs.length:=by omega
 have hL:=leadOk_of h hf hk hfr hto hld
 refine to_any b.va.toNat b.bs.length tb b.pa b.va fr ba _ bc g1 g2 V ((hV.block _ (Array.getElem?_eq_some_iff.1 h1).1).trans h1) (aK hV h2) (fun w1 hw1=>?_)
 exact lead_any b.pa b.va b.bs ba bc fr tb w1 (Nat.le_trans hn (Nat.le_trans hV.size hw1.size)) (hM.below ((hV.mono hn).trans (hw1.mono (Nat.le_trans hn hV.size)))) hto (by have:=h.1.2;omega) hL
set_option maxRecDepth 100000 in
set_option maxHeartbeats 6400000 in
theorem block_any{q:CD.Cnt}{c:CodeP}{b:BodyP}{refs:List Int}(h:CD.aL q c b)(hf:jY b)(hk:∀k,k<b.bs.length->(blAt b k).length<=300)(hpa:∀r,CD.paAt c r<=4096)(hrefs:∀i j,i<b.bs.length->j<(blAt b i).length->(ae (blAt b i) j).k=7->(ae (blAt b i) j).r∈refs){n₀:Nat}(ba:Option Addr)(bc:Nat)(fr:Nat)(hfr:fr<b.bs.length)(W:World)(hn:n₀<=W.heap.size)(hM:aX n₀ W (.slice ba b.bs.length bc) b.bs) :
 Calls Tryz.prog 54 #[.agg #[.int .i64 b.pa,.int .i64 b.va,.slice ba b.bs.length bc],.int .i64 fr] W fun e w'=>ot q.fn q.ar b.va.toNat b.bs.length refs n₀ W e w':=by
 have hmf:∀(fn:Fn) (first cap:Array Value) (w:World),(Instr.makeFunc fn first cap).run Tryz.prog w=.ok (.func fn first cap) w:=fun _ _ _ _=>rfl
 obtain⟨i0,hi0,hz0,hz1,hz2⟩:=info_parts Tryz.infoIIns
 obtain⟨W0,eW0⟩:∃W0,W0=(W.alloc (.cells #[.int .i64 b.pa,.int .i64 b.va,.slice ba b.bs.length bc] 52)).alloc (.cells #[.int .i64 fr] 3):=⟨_,rfl⟩
 have hb0:Below W.heap.size W W0:=by rw[eW0];exact((Below.refl _ _).alloc (Nat.le_refl _) _).alloc (by simp) _
 have hx0:W0.heap[W.heap.size]?=some (.cells #[.int .i64 b.pa,.int .i64 b.va,.slice ba b.bs.length bc] 52):=by rw[eW0,Below.heap_alloc _ _ _ (by simp)];exact heap_alloc_new _ _
 have hn0:W0.cell? ⟨W.heap.size+1,0,none⟩=some (.int .i64 fr):=by
  have:=heap_alloc_new (W.alloc (.cells #[.int .i64 b.pa,.int .i64 b.va,.slice ba b.bs.length bc] 52)) (.cells #[.int .i64 fr] 3)
  rw[World.size_alloc] at this
  rw[eW0]
  exact cell_of_row _ _ 0 _ _ _ this
 obtain⟨b2,off2,a2,c2,eb,hb2,hc1,ho2⟩:=hM.at hfr
 subst eb
 have hc2:=(hb0.cell (p:=⟨b2,off2+fr,none⟩) (Nat.lt_of_lt_of_le hb2 hn)).trans hc1
 obtain⟨x0,x1,x2⟩:=obj3 hx0
 have HO2:=zH (ho2.below (hb0.mono hn))
 have ifr:(0:Int)<=fr/\(fr:Int)<b.bs.length:=by omega
 have HB0:=zH hb0
 have HX0:=zH hx0
 have HN0:=zH hn0
 have EW:=zH eW0
 have HM0:=zH (hM.below (hb0.mono hn))
 have HN:=zH (Nat.le_trans hn hb0.size)
 have HBO:=zH h
 have HTOA:=zH (fun(i:Nat) (hi:i<(blAt b fr).length)=>block_to h hf hk hfr HN.out HM0.out hx0 hn0 hi)
 have HPA:=zH hpa
 have HRE:=zH (fun j hj=>hrefs fr j hfr hj)
 have hll:=hk fr hfr
 have HBK:=zH (h.2.1 fr hfr)
 have HDL:=zH (fun(j:Nat) (hj:j<(blAt b fr).length)=>nK h hfr hj)
 have HDT:=zH (fun(j:Nat) (hj:j<(blAt b fr).length) (hd:CD.Defs (ae (blAt b fr) j).k)=>def_lt h hfr hj hd)
 change W.cell? _=some (.slice a2 (blAt b fr).length c2) at hc1
 change W0.cell? _=some (.slice a2 (blAt b fr).length c2) at hc2
 have HOP:=zH (show OpsF n₀ W0 (.slice a2 (blAt b fr).length c2) (blAt b fr) from HO2.out)
 clear HO2
 have hbn:=h.1.2
 obtain⟨l,el⟩:∃l,l=blAt b fr:=⟨_,rfl⟩
 rw[<-el] at hc2 HOP HTOA HRE hll HBK HDL HDT
 have hl1:=HBK.out.1
 clear eW0 hx0 hb0 hM h hf hk hpa hrefs hn ho2 hc1 hb2 hfr el
 go_enter Tryz.func54,Tryz.ntmps54
 go_upto_region 3 with fail
 rw[<-EW.out]
 go_wp2_with fail
 go_loopw [6,16] (fun s6 s16 wr=>∃(i n:Nat) (xs:Nat->Value),i<=l.length/\s16=.int .i64 (i:Int)/\RowKit.Hid (n<=i/\(i=l.length->1<=n)/\wr.ownsRow W0.heap.size 150 1 s6 n (tabV n xs)/\(∀k,k<n->InsV q.fn q.ar b.va.toNat b.bs.length refs n₀ wr (decide (k+1=n/\i=l.length)) (xs k))/\Below W0.heap.size W0 wr)) (fun _ s16 _=>l.length-(intOf s16).toNat)
 case atStart=>exact⟨0,0,fun _=>.nilIface,Nat.zero_le _,rfl,zH ⟨Nat.le_refl _,fun e=>by omega,World.ownsRow_nil _ _ _ _,fun k hk=>absurd hk (Nat.not_lt_zero _),Below.refl _ _⟩⟩
 case round =>
  obtain⟨w7,rfl⟩:∃w7,w7=wr:=⟨_,rfl⟩
  obtain⟨i,n,xs,hin,rfl,HH⟩:=hrel
  obtain⟨hni,hn1,hown,hins,hbelow⟩:=HH.out
  obtain⟨oa,oc,rfl⟩:=GG.ap hown
  have HNI:=zH hni
  have HN1:=zH hn1
  have HOW:=zH hown
  have HIN:=zH hins
  have HB7:=zH hbelow
  clear HH hni hn1 hown hins hbelow EW
  by_cases hlt:i<l.length
  ·have HLT:=zH hlt
   obtain⟨b3,off3,xa,xc,ya,yc,eo,hb3,ho3,hxr,_⟩:=(HOP.out.below (HB7.out.mono HN.out)).at hlt
   subst eo
   have i3:(0:Int)<=i/\(i:Int)<l.length:=by omega
   have HTO:=zH (HTOA.out i hlt)
   have HPO:=zH (HBK.out.2 i hlt)
   have HPD:=zH (HDL.out i hlt)
   have HPT:=zH (HDT.out i hlt)
   have HPR:=zH (HRE.out i hlt)
   obtain⟨p,ep⟩:∃p,p=ae l i:=⟨_,rfl⟩
   rw[<-ep] at ho3 hxr HTO HPO HPD HPT HPR
   have k0:w7.cell? ⟨b3,off3+i*9,none⟩=some (.int .u8 p.k):=ho3 0 _ rfl
   have k1:w7.cell? ⟨b3,off3+i*9+1,none⟩=some (.int .u8 p.o):=ho3 1 _ rfl
   have k2:w7.cell? ⟨b3,off3+i*9+2,none⟩=some (.int .i64 p.d):=ho3 2 _ rfl
   have k3:w7.cell? ⟨b3,off3+i*9+3,none⟩=some (.int .i64 p.r):=ho3 3 _ rfl
   have k4:w7.cell? ⟨b3,off3+i*9+4,none⟩=some (.int .i64 p.a):=ho3 4 _ rfl
   have k5:w7.cell? ⟨b3,off3+i*9+5,none⟩=some (.slice xa p.xs.length xc):=ho3 5 _ rfl
   have k6:w7.cell? ⟨b3,off3+i*9+6,none⟩=some (.slice ya p.ys.length yc):=ho3 6 _ rfl
   have k7:w7.cell? ⟨b3,off3+i*9+7,none⟩=some (.int .i64 p.n):=ho3 7 _ rfl
   have k8:w7.cell? ⟨b3,off3+i*9+8,none⟩=some (.int .i64 p.t):=ho3 8 _ rfl
   have HXR:=zH hxr
   have HEP:=zH ep
   clear ho3 ep hin hlt hxr
   go_upto_region 6 with fail
   obtain⟨w8,ew8⟩:∃w8,w8=w7.alloc (.cells #[.int .u8 p.k,.int .u8 p.o,.int .i64 p.d,.int .i64 p.r,.int .i64 p.a,.slice xa p.xs.length xc,.slice ya p.ys.length yc,.int .i64 p.n,.int .i64 p.t] 56):=⟨_,rfl⟩
   rw[<-ew8]
   have HB8:=zH (show Below w7.heap.size w7 w8 by rw[ew8];exact(Below.refl _ _).alloc (Nat.le_refl _) _)
   have hx8:w8.heap[w7.heap.size]?=some (.cells #[.int .u8 p.k,.int .u8 p.o,.int .i64 p.d,.int .i64 p.r,.int .i64 p.a,.slice xa p.xs.length xc,.slice ya p.ys.length yc,.int .i64 p.n,.int .i64 p.t] 56):=by rw[ew8];exact heap_alloc_new _ _
   have y0:=cell_of_row _ _ 0 _ _ _ hx8
   have y1:=cell_of_row _ _ 1 _ _ _ hx8
   have y2:=cell_of_row _ _ 2 _ _ _ hx8
   have y3:=cell_of_row _ _ 3 _ _ _ hx8
   have y4:=cell_of_row _ _ 4 _ _ _ hx8
   have y5:=cell_of_row _ _ 5 _ _ _ hx8
   have y6:=cell_of_row _ _ 6 _ _ _ hx8
   have y7:=cell_of_row _ _ 7 _ _ _ hx8
   have y8:=cell_of_row _ _ 8 _ _ _ hx8
   have HBB:=zH (HB7.out.trans (HB8.out.mono HB7.out.size))
   have HOW8:=zH (own_of_block HOW.out (fun k e=>HB8.out.block k (HOW.out.lt k e).2))
   have HIN8:=zH (fun(k:Nat) (hk:k<n)=>(HIN.out k hk).chg (X:=fun _=>False) (Chg.of_below HB8.out) (HB8.out.mono (Nat.le_trans HN.out HB7.out.size)) (fun _ _ _ e=>e))
   have HXR8:=zH (HXR.out.below (HB8.out.mono (Nat.le_trans HN.out HB7.out.size)))
   clear ew8 hx8 k0 k1 k2 k3 k4 k5 k6 k7 k8
   by_cases hk3:p.k=3
   ·have t1:(p.k != 3)=false:=by simp [hk3]
    have HNE:=zH (show i+1≠l.length from fun e=>by have h1:=HPO.out.2.1.2 e;rw[<-HEP.out] at h1;unfold CD.Ends at h1;omega)
    clear hk3 y1 y2 y3 y4 y5 y6 y7 y8
    go_wp2_with fail
    go_roundw
    case rel=>exact⟨i+1,n,xs,HLT.out,by go_num,zH ⟨by have:=HNI.out;omega,fun e=>absurd e HNE.out,HOW8.out,fun k hk=>by
     have h1:=HIN8.out k hk
     rw[decide_eq_false (by have:=HLT.out;omega)] at h1
     rw[decide_eq_false (by have:=HNE.out;omega)]
     exact h1,HBB.out⟩⟩
    case measure=>have:=HLT.out;simp [intOf];omega
   ·have t1:(p.k != 3)=true:=by simp [hk3]
    have HK3:=zH hk3
    have hnb:=HNI.out
    have hil:=HLT.out
    clear hk3
    go_wp2_with (first
     | (go_at_call 81;(refine(typed_any p HPO.out.1 HK3.out (fun hd=>by rcases HPD.out with⟨_,e⟩ | ⟨hx,_⟩;(have h1:=HPT.out hd;omega);exact absurd hd hx) HPR.out (HPA.out _) HXR8.out (Nat.le_trans HN.out HBB.out.size) _ _ (fun z w1 hz hb=>HTO.out w1 (HBB.out.trans (hb.mono HBB.out.size)) z hz)).mono ?_;rintro e w9 ⟨v9,rfl,hi9,hb9⟩);obtain⟨t9,u9,rfl⟩:=hi9.form;have HI9:=zH hi9;have HB9:=zH hb9;have HOW9:=zH (own_of_block HOW8.out (fun k e=>hb9.block k (HOW8.out.lt k e).2));have HIN9:=zH (fun(k:Nat) (hk:k<n)=>(HIN8.out k hk).chg (X:=fun _=>False) (Chg.of_below hb9) (hb9.mono (Nat.le_trans HN.out HBB.out.size)) (fun _ _ _ e=>e));have HBB9:=zH (HBB.out.trans (hb9.mono HBB.out.size));clear hi9 hb9)
     | (at_builtin
        refine GG.wpList_append_any rfl _ _ 116 rfl W0.heap.size 150 i0 .nilIface 1 16 Tryz.underlying116 hi0 hz0 hz1 hz2 rfl (by decide) (.slice oa n oc) n (tabV n xs) rfl (HOW9.out.alloc _) (.slice (some ⟨_,0,none⟩) 1 1) 1 [.iface t9 u9] rfl rfl (.inr ⟨_,_,rfl,GG.aW _ _ _⟩) (by intro u hu;rw[List.mem_singleton.1 hu];exact HI9.out.one) (by unfold maxLen;omega) (by omega) (by have:=HBB9.out.size;simp;omega) ?_
        intro v1 w10 ho hg
        have HC:=zH (show Chg (fun b=>(Value.slice oa n oc).ownBlock=some b) w9 w10 from((Chg.alloc (X:=fun b=>(Value.slice oa n oc).ownBlock=some b) w9 _).trans (Chg.grown (HOW9.out.alloc _) (by decide) hg)))
        have HBX:=zH (show Below W0.heap.size w9 w10 from((Below.refl W0.heap.size w9).alloc HBB9.out.size _).grown hg (by have:=HBB9.out.size;simp;omega) (fun k e=>(HOW9.out.lt k e).1))
        have HN10:=zH (show w10.ownsRow W0.heap.size 150 1 v1 (n+1) (tabV (n+1) (upd xs n (.iface t9 u9))) by rw[hZ];exact ho)
        have HNO:=zH (show ∀(k:Nat) (c:Array Value),w9.heap[k]?=some (.cells c 3 (0,0))->¬((Value.slice oa n oc).ownBlock=some k) from fun k c hc e=>aV HOW9.out hc (by decide) e)
        clear ho hg))
    go_roundw
    case rel =>
     have hend:decide (CD.Ends p.k)=decide (i+1=l.length):=by
      have h1:=HPO.out.2.1
      rw[<-HEP.out] at h1
      exact decide_eq_decide.2 h1
     refine⟨i+1,n+1,upd xs n (.iface t9 u9),HLT.out,by go_num,zH ⟨by have:=HNI.out;omega,fun _=>by omega,HN10.out,fun k hk=>?_,HBB9.out.trans HBX.out⟩⟩
     by_cases e:k=n
     ·have h1:=HI9.out.chg HC.out (HBX.out.mono HN.out) HNO.out
      rw[hend] at h1
      rw[e,show decide (n+1=n+1/\i+1=l.length)=decide (i+1=l.length) by simp,show upd xs n (.iface t9 u9) n=.iface t9 u9 by simp [upd]]
      exact h1
     ·have hk2:k<n:=by omega
      have h1:=(HIN9.out k hk2).chg HC.out (HBX.out.mono HN.out) HNO.out
      rw[decide_eq_false (by have:=HLT.out;omega)] at h1
      rw[decide_eq_false (by omega),show upd xs n (.iface t9 u9) k=xs k by simp [upd,e]]
      exact h1
    case measure=>have:=HLT.out;simp [intOf];omega
  ·have ei:i=l.length:=by omega
   subst ei
   clear hlt
   go_wp2_with fail
   go_ret
   refine blockE_mk (n:=n) (xs:=xs) ⟨eG HOW.out (Nat.zero_le _),⟨by have h:=HN1.out;first | exact h trivial | exact h rfl,by have:=HNI.out;omega⟩,fun k hk=>?_⟩ (HB0.out.trans (HB7.out.mono HB0.out.size))
   have h1:=HIN.out k hk
   first | rwa [show decide (k+1=n/\True)=decide (k+1=n) by simp] at h1 | rwa [show decide (k+1=n/\l.length=l.length)=decide (k+1=n) by simp] at h1
end
section
open Go.RowKit
open CD (OpP BodyP CodeP ae blAt fnAt)
theorem Tryz.infoIFun:(Tryz.prog.info? 115).map (fun i=>(i.zero,i.size,i.bytes))=some (some (.slice none 0 0),1,24):=by kernel_rfl
theorem Tryz.infoIBlk:(Tryz.prog.info? 116).map (fun i=>(i.zero,i.size,i.bytes))=some (some (.slice none 0 0),1,24):=by kernel_rfl
def updT{α:Type}(g:Nat->α)(n:Nat)(v:α)(i:Nat):α:=if i=n then v else g i
theorem fV{α:Type}(g:Nat->α)(n:Nat)(v:α):updT g n v n=v:=by simp [updT]
theorem fW{α:Type}(g:Nat->α)(n:Nat)(v:α){i:Nat}(h:i≠n):updT g n v i=g i:=by simp [updT,h]
theorem lE(n:Nat)(rs:Nat->Value)(v:Value):tabV (n+1) (updT rs n v)=tabV n rs ++ [v]:=hZ n rs v
structure BodV (nf na va nb:Nat) (refs:List Int) (B0:Nat) (W:World) (v:Value) (bs:Nat->Value) (len:Nat->Nat) (xs:Nat->Nat->Value):Prop where
 own:W.ownsRow 0 116 1 v nb (tabV nb bs)
 blk:∀b,b<nb->BlkV nf na va nb refs B0 W (bs b) (len b) (xs b)
theorem BodV.chg{X:Nat->Prop}{A B:World}{B0:Nat}(h:Chg X A B)(hb:Below B0 A B)(hx:∀(k:Nat) (c:Array Value) (t:TypeId),A.heap[k]?=some (.cells c t (0,0))->t=116∨t=150∨t=3->¬X k){nf na va nb:Nat}{refs:List Int}{v:Value}{bs:Nat->Value}{len:Nat->Nat}{xs:Nat->Nat->Value}(g:BodV nf na va nb refs B0 A v bs len xs):BodV nf na va nb refs B0 B v bs len xs :=
 ⟨h.own (by decide) g.own (fun k hk=>by obtain⟨_,_,c,hc⟩:=GG.own_block g.own hk;exact hx k c _ hc (.inl rfl)),fun b hb2=>(g.blk b hb2).chg h hb (fun k c t hc ht=>hx k c t hc (.inr ht))⟩
structure CodeG (q:CD.Cnt) (c:CodeP):Prop where
 body:∀i,i<c.fs.length->CD.aL q c (fnAt c i)
 free:∀i,i<c.fs.length->jY (fnAt c i)
 few:∀i,i<c.fs.length->∀k,k<(fnAt c i).bs.length->(blAt (fnAt c i) k).length<=300
 pa:∀r,CD.paAt c r<=4096
 fs:c.fs.length<=1000
def lF(q:CD.Cnt)(c:CodeP)(B0:Nat)(W:World)(n:Nat)(us:Nat->Value)(bs:Nat->Nat->Value)(len:Nat->Nat->Nat)(xs:Nat->Nat->Nat->Value):Prop :=
 ∀f,f<n->BodV q.fn q.ar (fnAt c f).va.toNat (fnAt c f).bs.length (cl (fnAt c f)) B0 W (us f) (bs f) (len f) (xs f)
theorem lF.on{q:CD.Cnt}{c:CodeP}{B0:Nat}{A B:World}{n:Nat}{us:Nat->Value}{bs:Nat->Nat->Value}{len:Nat->Nat->Nat}{xs:Nat->Nat->Nat->Value}(h:lF q c B0 A n us bs len xs)(hb:Below A.heap.size A B)(hB:B0<=A.heap.size):lF q c B0 B n us bs len xs :=
 fun f hf=>(h f hf).chg (X:=fun _=>False) (Chg.of_below hb) (hb.mono hB) (fun _ _ _ _ _ e=>e)
set_option maxRecDepth 100000 in
set_option maxHeartbeats 6400000 in
theorem iy{q:CD.Cnt}{c:CodeP}(hG:CodeG q c){n₀:Nat}(av fv:Value)(W:World)(hn:n₀<=W.heap.size)(hv:CodeF n₀ W av fv c) :
 Calls Tryz.prog 26 #[.agg #[av,fv,.int .i64 c.mn0]] W fun e w'=>∃(v:Value) (us:Nat->Value) (bs:Nat->Nat->Value) (len:Nat->Nat->Nat) (xs:Nat->Nat->Nat->Value),e=.returned v/\w'.ownsRow W.heap.size 115 1 v c.fs.length (tabV c.fs.length us)/\lF q c n₀ w' c.fs.length us bs len xs/\Below W.heap.size W w':=by
 obtain⟨i0,hi0,hz0,hz1,hz2⟩:=info_parts Tryz.infoIFun
 obtain⟨j0,hj0,hw0,hw1,hw2⟩:=info_parts Tryz.infoIBlk
 obtain⟨aa,ac,rfl⟩:=hv.1.form
 obtain⟨fa,fc,rfl⟩:=hv.2.form
 obtain⟨W0,eW0⟩:∃W0,W0=W.alloc (.cells #[.slice aa c.ar.length ac,.slice fa c.fs.length fc,.int .i64 c.mn0] 30):=⟨_,rfl⟩
 have hx0:W0.heap[W.heap.size]?=some (.cells #[.slice aa c.ar.length ac,.slice fa c.fs.length fc,.int .i64 c.mn0] 30):=by rw[eW0];exact heap_alloc_new _ _
 have hb0:Below W.heap.size W W0:=by rw[eW0];exact(Below.refl _ _).alloc (Nat.le_refl _) _
 have HB0:=zH hb0
 have HV:=zH (hv.2.below (hb0.mono hn))
 have HN:=zH (Nat.le_trans hn hb0.size)
 have HGG:=zH hG
 have hfs:=hG.fs
 have EW:=zH eW0
 have c1:=cell_of_row _ _ 1 _ _ _ hx0
 clear hv eW0 hx0 hb0 hn hG
 go_enter Tryz.func26,Tryz.ntmps26
 go_wp2_with fail
 rw[<-EW.out]
 go_loopw [3,11] (fun s3 s11 wr=>∃(i:Nat) (us:Nat->Value) (bs:Nat->Nat->Value) (len:Nat->Nat->Nat) (xs:Nat->Nat->Nat->Value),i<=c.fs.length/\s11=.int .i64 (i:Int)/\RowKit.Hid (wr.ownsRow W0.heap.size 115 1 s3 i (tabV i us)/\lF q c n₀ wr i us bs len xs/\Below W0.heap.size W0 wr)) (fun _ s11 _=>c.fs.length-(intOf s11).toNat)
 case atStart=>exact⟨0,fun _=>.nilIface,fun _ _=>.nilIface,fun _ _=>0,fun _ _ _=>.nilIface,Nat.zero_le _,rfl,zH ⟨World.ownsRow_nil _ _ _ _,fun f hf=>absurd hf (Nat.not_lt_zero _),Below.refl _ _⟩⟩
 case round =>
  obtain⟨w4,rfl⟩:∃w4,w4=wr:=⟨_,rfl⟩
  obtain⟨i,us,bs,len,xs,hin,rfl,HH⟩:=hrel
  obtain⟨hown,hfun,hbelow⟩:=HH.out
  obtain⟨oa,oc,rfl⟩:=GG.ap hown
  have HOW:=zH hown
  have HFU:=zH hfun
  have HB4:=zH hbelow
  clear HH hown hfun hbelow EW
  by_cases hlt:i<c.fs.length
  ·have HLT:=zH hlt
   obtain⟨blk,off,ba,bc,ea,hblk,h0,h1,h2,h3⟩:=(HV.out.below (HB4.out.mono HN.out)).at hlt
   subst ea
   have i1:(0:Int)<=i/\(i:Int)<c.fs.length:=by omega
   have HBO:=zH (HGG.out.body i hlt)
   have HFR:=zH (HGG.out.free i hlt)
   have HFW:=zH (HGG.out.few i hlt)
   have hbn:=HBO.out.1.2
   have HVE:fnAt c i=c.fs[i]?.getD CD.b0:=rfl
   rw[<-HVE] at h0 h1 h2 h3
   have HBL:=zH h3
   clear hin h3 HVE
   obtain⟨b,eb⟩:∃b,b=fnAt c i:=⟨_,rfl⟩
   rw[<-eb] at h0 h1 h2 HBL HBO HFR HFW hbn
   have HEB:=zH eb
   clear eb
   go_upto_region 5 with fail
   obtain⟨w5,ew5⟩:∃w5,w5=w4.alloc (.cells #[.int .i64 b.pa,.int .i64 b.va,.slice ba b.bs.length bc] 52):=⟨_,rfl⟩
   rw[<-ew5]
   have HB5:=zH (show Below w4.heap.size w4 w5 by rw[ew5];exact(Below.refl _ _).alloc (Nat.le_refl _) _)
   have hx5:w5.heap[w4.heap.size]?=some (.cells #[.int .i64 b.pa,.int .i64 b.va,.slice ba b.bs.length bc] 52):=by rw[ew5];exact heap_alloc_new _ _
   obtain⟨y0,y1,y2⟩:=obj3 hx5
   have HX5:=zH hx5
   have HL5:=zH (HBL.out.below (HB5.out.mono (Nat.le_trans HN.out HB4.out.size)))
   have HN5:=zH (Nat.le_trans HN.out (Nat.le_trans HB4.out.size HB5.out.size))
   clear ew5 hx5 h0 h1 h2
   go_wp2_with fail
   go_loopw [6,18] (fun s6 s18 wr=>∃(k:Nat) (bk:Nat->Value) (lk:Nat->Nat) (xk:Nat->Nat->Value),k<=b.bs.length/\s18=.int .i64 (k:Int)/\RowKit.Hid (wr.ownsRow w5.heap.size 116 1 s6 k (tabV k bk)/\(∀j,j<k->BlkV q.fn q.ar b.va.toNat b.bs.length (cl b) n₀ wr (bk j) (lk j) (xk j))/\Below w5.heap.size w5 wr)) (fun _ s18 _=>b.bs.length-(intOf s18).toNat)
   case atStart=>exact⟨0,fun _=>.nilIface,fun _=>0,fun _ _=>.nilIface,Nat.zero_le _,rfl,zH ⟨World.ownsRow_nil _ _ _ _,fun f hf=>absurd hf (Nat.not_lt_zero _),Below.refl _ _⟩⟩
   case round =>
    obtain⟨w6,rfl⟩:∃w6,w6=wr:=⟨_,rfl⟩
    obtain⟨k,bk,lk,xk,hkn,rfl,HH⟩:=hrel
    obtain⟨hown,hblks,hbelow⟩:=HH.out
    obtain⟨pa,pc,rfl⟩:=GG.ap hown
    have HOK:=zH hown
    have HBS:=zH hblks
    have HB6:=zH hbelow
    clear HH hown hblks hbelow
    by_cases hkl:k<b.bs.length
    ·have HKL:=zH hkl
     have hx6:=(HB6.out.block _ (Array.getElem?_eq_some_iff.1 HX5.out).1).trans HX5.out
     obtain⟨z0,z1,z2⟩:=obj3 hx6
     have HM6:=zH (HL5.out.below (HB6.out.mono HN5.out))
     have HN6:=zH (Nat.le_trans HN5.out HB6.out.size)
     clear hkn hx6 y0 y1 y2
     go_wp2_with (first
      | (go_at_call 54;refine(block_any HBO.out HFR.out HFW.out HGG.out.pa (fun i' j' hi' hj' h7=>jJ.2 ⟨i',j',hi',hj',h7,rfl⟩) ba bc k HKL.out _ HN6.out HM6.out).mono ?_;intro e w9 hE9;obtain⟨v9,n9,x9,rfl,hv9,hb9⟩:=hE9.of;obtain⟨va9,vc9,rfl⟩:=GG.ap hv9.own;have HV9:=zH hv9;have HB9:=zH hb9;have HOK9:=zH (own_of_block HOK.out (fun k e=>hb9.block k (HOK.out.lt k e).2));have HBS9:=zH (fun(j:Nat) (hj:j<k)=>(HBS.out j hj).chg (X:=fun _=>False) (Chg.of_below hb9) (hb9.mono HN6.out) (fun _ _ _ _ _ e=>e));have HBB9:=zH (HB6.out.trans (hb9.mono HB6.out.size));clear hv9 hb9)
      | (at_builtin
         refine GG.wpList_append_any rfl _ _ 115 rfl w5.heap.size 116 j0 (.slice none 0 0) 1 24 Tryz.underlying115 hj0 hw0 hw1 hw2 rfl (by decide) (.slice pa k pc) k (tabV k bk) rfl (HOK9.out.alloc _) (.slice (some ⟨_,0,none⟩) 1 1) 1 [.slice va9 n9 vc9] rfl rfl (.inr ⟨_,_,rfl,GG.aW _ _ _⟩) (by intro u hu;rw[List.mem_singleton.1 hu];rfl) (by unfold maxLen;omega) (by omega) (by have:=HBB9.out.size;simp;omega) ?_
         intro v1 w10 ho hg
         have HC:=zH (show Chg (fun b=>(Value.slice pa k pc).ownBlock=some b) w9 w10 from((Chg.alloc (X:=fun b=>(Value.slice pa k pc).ownBlock=some b) w9 _).trans (Chg.grown (HOK9.out.alloc _) (by decide) hg)))
         have HBX:=zH (show Below w5.heap.size w9 w10 from((Below.refl w5.heap.size w9).alloc HBB9.out.size _).grown hg (by have:=HBB9.out.size;simp;omega) (fun k e=>(HOK9.out.lt k e).1))
         have HN10:=zH (show w10.ownsRow w5.heap.size 116 1 v1 (k+1) (tabV (k+1) (updT bk k (.slice va9 n9 vc9))) by rw[lE];exact ho)
         have HNO:=zH (show ∀(j:Nat) (c:Array Value) (t:TypeId),w9.heap[j]?=some (.cells c t (0,0))->t=150∨t=3->¬((Value.slice pa k pc).ownBlock=some j) from fun j c t hc ht e=>aV HOK9.out hc (by rcases ht with rfl | rfl <;> decide) e)
         clear ho hg))
     go_roundw
     case rel =>
      refine⟨k+1,updT bk k (.slice va9 n9 vc9),updT lk k n9,updT xk k x9,HKL.out,by go_num,zH ⟨HN10.out,fun j hj=>?_,HBB9.out.trans HBX.out⟩⟩
      by_cases e:j=k
      ·rw[e,fV,fV,fV]
       exact HV9.out.chg HC.out (HBX.out.mono HN5.out) HNO.out
      ·rw[fW _ _ _ e,fW _ _ _ e,fW _ _ _ e]
       exact(HBS9.out j (by omega)).chg HC.out (HBX.out.mono HN5.out) HNO.out
     case measure=>have:=HKL.out;simp [intOf];omega
    ·have ei:k=b.bs.length:=by omega
     subst ei
     have HB56:=zH (HB5.out.trans (HB6.out.mono HB5.out.size))
     have HOW6:=zH (own_of_block HOW.out (fun k e=>HB56.out.block k (HOW.out.lt k e).2))
     have HFU6:=zH (HFU.out.on HB56.out (Nat.le_trans HN.out HB4.out.size))
     have hsz:W0.heap.size<=w6.heap.size:=Nat.le_trans HB4.out.size HB56.out.size
     have HSZ:=zH hsz
     clear hkl hsz y0 y1 y2
     go_wp2_with
      (at_builtin
       refine GG.wpList_append_any rfl _ _ 75 rfl W0.heap.size 115 i0 (.slice none 0 0) 1 24 Tryz.underlying75 hi0 hz0 hz1 hz2 rfl (by decide) (.slice oa i oc) i (tabV i us) rfl (HOW6.out.alloc _) (.slice (some ⟨_,0,none⟩) 1 1) 1 [.slice pa b.bs.length pc] rfl rfl (.inr ⟨_,_,rfl,GG.aW _ _ _⟩) (by intro u hu;rw[List.mem_singleton.1 hu];rfl) (by unfold maxLen;omega) (by omega) (by have:=HSZ.out;simp;omega) ?_
       intro v1 w10 ho hg
       have HC:=zH (show Chg (fun b=>(Value.slice oa i oc).ownBlock=some b) w6 w10 from((Chg.alloc (X:=fun b=>(Value.slice oa i oc).ownBlock=some b) w6 _).trans (Chg.grown (HOW6.out.alloc _) (by decide) hg)))
       have HBX:=zH (show Below W0.heap.size w6 w10 from((Below.refl W0.heap.size w6).alloc HSZ.out _).grown hg (by have:=HSZ.out;simp;omega) (fun k e=>(HOW6.out.lt k e).1))
       have HN10:=zH (show w10.ownsRow W0.heap.size 115 1 v1 (i+1) (tabV (i+1) (updT us i (.slice pa b.bs.length pc))) by rw[lE];exact ho)
       have HNO:=zH (show ∀(j:Nat) (c:Array Value) (t:TypeId),w6.heap[j]?=some (.cells c t (0,0))->t=116∨t=150∨t=3->¬((Value.slice oa i oc).ownBlock=some j) from fun j c t hc ht e=>aV HOW6.out hc (by rcases ht with rfl | rfl | rfl <;> decide) e)
       clear ho hg)
     go_roundw
     case rel =>
      refine⟨i+1,updT us i (.slice pa b.bs.length pc),updT bs i bk,updT len i lk,updT xs i xk,HLT.out,by go_num,zH ⟨HN10.out,fun f hf=>?_,?_⟩⟩
      ·by_cases e:f=i
       ·rw[e,fV,fV,fV,fV,<-HEB.out]
        exact BodV.chg HC.out (HBX.out.mono HN.out) HNO.out ⟨eG HOK.out (Nat.zero_le _),HBS.out⟩
       ·rw[fW _ _ _ e,fW _ _ _ e,fW _ _ _ e,fW _ _ _ e]
        exact(HFU6.out f (by omega)).chg HC.out (HBX.out.mono HN.out) HNO.out
      ·exact(HB4.out.trans (HB56.out.mono HB4.out.size)).trans HBX.out
     case measure=>have:=HLT.out;simp [intOf];omega
  ·have ei:i=c.fs.length:=by omega
   subst ei
   clear hlt
   go_wp2_with fail
   go_ret
   exact⟨_,us,bs,len,xs,rfl,eG HOW.out HB0.out.size,HFU.out,HB0.out.trans (HB4.out.mono HB0.out.size)⟩
end
section
open Go.RowKit
open CD (OpP BodyP CodeP ae blAt fnAt)
theorem rN{W:World}{B wc i:Nat}{wa:Option Addr}{zs:List Int}(h:W.ownsRow B 3 1 (.slice wa zs.length wc) zs.length (ao zs))(hi:i<zs.length):∃wg,wa=some ⟨wg,0,none⟩/\W.cell? ⟨wg,i,none⟩=some (.int .i64 (zs[i]?.getD 0)):=by
 rcases h.2 with⟨_,h0⟩ | ⟨wg,cap,cur,e,_⟩
 ·omega
 ·cases e
  exact⟨wg,rfl,by rw[h.cellAt i (by omega)];exact fk hi⟩
set_option maxRecDepth 100000 in
set_option maxHeartbeats 3200000 in
theorem iP{K:Kst}{mf m:Nat}{W0 W:World}{fs:List FrS}{f:FrS}{st:Int}(g:Mach K mf W0 W (fs ++ [f]) st m)(hm:K.most<=100000)(bl fi:Nat)(v:Value)(hw:WayV (K.va f.num) (K.nb f.num) W bl fi v) :
 Calls Tryz.prog 132 #[.pointer (some ⟨K.Rb,0,none⟩),.pointer (some ⟨f.fb,0,none⟩),.agg #[.int .i64 bl,.int .i64 fi,v]] W fun e w'=>e=.returned (.tuple #[])/\Mach K mf W0 w' (fs ++ [⟨f.num,bl,0,f.fb⟩]) st m:=by
 obtain⟨zs,hz1,hz2,hz3⟩:=hw.own
 obtain⟨wa,wc,rfl⟩:=GG.ap hz1
 have hva:=(g.core.fn.b f.num (g.pl.pos f (by simp)).1).2.2
 obtain⟨w1,ew1⟩:∃w1,w1=W.alloc (.cells #[.int .i64 bl,.int .i64 fi,.slice wa zs.length wc] 147):=⟨_,rfl⟩
 have hb1:Below W.heap.size W w1:=by rw[ew1];exact(Below.refl _ _).alloc (Nat.le_refl _) _
 have hX1:w1.heap[W.heap.size]?=some (.cells #[.int .i64 bl,.int .i64 fi,.slice wa zs.length wc] 147):=by rw[ew1];exact heap_alloc_new _ _
 have HX1:=zH hX1
 have G1:=zH (g.on hb1)
 have HZ:=zH (own_of_block hz1 (fun k e=>hb1.block k (hz1.lt k e).2))
 have HI:=zH hz3
 have HPO:=zH (show iw K ⟨f.num,bl,0,f.fb⟩ from⟨(g.pl.pos f (by simp)).1,hw.bl,Nat.lt_of_lt_of_le Nat.zero_lt_one (g.core.fn.i f.num bl (g.pl.pos f (by simp)).1 hw.bl).2.1⟩)
 obtain⟨tg,etv,htB,_⟩:=g.core.tkn.form
 obtain⟨frv,hr,_⟩:=G1.out.run
 obtain⟨vg,evg,hvB,_⟩:=(g.core.rmn fs.length (by have:=g.pl.few;simp at this;omega)).form
 have EVG:=zH evg
 have ETV:=zH etv
 have HLD:=zH (show fs.length<K.D by have:=g.pl.few;simp at this;omega)
 have c5:=hr.cells.2.2.2.2.2.1
 rw[etv] at c5
 obtain⟨y0,y1,y2⟩:=obj3 hX1
 have EW:=zH ew1
 have i0:(0:Int)<=zs.length/\(zs.length:Int)<=K.most:=by omega
 have t0:decide ((0:Int)<=(zs.length:Int))=true:=decide_eq_true (by omega)
 have n0:zs.length<=K.most:=by omega
 clear g hw hz1 hz3 hb1 hX1 hr ew1 evg etv
 go_enter Tryz.func132,Tryz.ntmps132
 go_upto_region 1 with fail
 rw[<-EW.out]
 go_region
 obtain⟨w2,ew2⟩:∃w2,w2=w1.drew:=⟨_,rfl⟩
 rw[<-ew2]
 have HC2:=zH (show Chg (fun _=>False) w1 w2 by rw[ew2];exact Chg.drew _)
 have HD2:=zH (show ∀B,Below B w1 w2 from fun B=>by rw[ew2];exact⟨rfl,rfl,rfl,Nat.le_refl _,fun _ _=>rfl⟩)
 have G2:=zH (G1.out.num HC2.out (HD2.out _))
 have HX2:=zH (HC2.out.rest _ _ HX1.out (fun e=>e) (aO (by decide)))
 have HZ2:=zH (HC2.out.own (by decide) HZ.out (fun _ _ e=>e))
 clear ew2 y0 y1 y2 c5
 obtain⟨y0,y1,y2⟩:=obj3 HX2.out
 go_wp2_with fail
 go_loopw [20] (fun s20 wr=>∃i:Nat,i<=zs.length/\s20=.int .i64 (i:Int)/\RowKit.Hid (Chg (fun _=>False) w2 wr/\Below K.B0 w2 wr)) (fun s20 _=>zs.length-(intOf s20).toNat)
 case atStart=>exact⟨0,Nat.zero_le _,rfl,zH ⟨Chg.refl _ _,Below.refl _ _⟩⟩
 case round =>
  obtain⟨w5,rfl⟩:∃w5,w5=wr:=⟨_,rfl⟩
  obtain⟨i,hin,rfl,HO⟩:=hrel
  have G5:=zH (G2.out.num HO.out.1 HO.out.2)
  have HX5:=zH (HO.out.1.rest _ _ HX2.out (fun e=>e) (aO (by decide)))
  have f5:=G5.out.frm fs.length f (aQ _ _)
  have v5:NumV K.B0 w5 (.slice (some ⟨vg,0,none⟩) K.most K.most) K.most:=by rw[<-EVG.out];exact G5.out.core.rmn _ HLD.out
  have t5:NumV K.B0 w5 (.slice (some ⟨tg,0,none⟩) K.most K.most) K.most:=by rw[<-ETV.out];exact G5.out.core.tkn
  obtain⟨c0,c1,c2,c3,c4⟩:=f5.cells
  rw[EVG.out] at c2
  by_cases hlt:i<zs.length
  ·obtain⟨wg,ewa,hcz⟩:=rN (HO.out.1.own (by decide) HZ2.out (fun _ _ e=>e)) hlt
   subst ewa
   have hb:=HI.out i hlt
   obtain⟨k,ek⟩:∃k:Nat,zs[i]?.getD 0=(k:Int):=⟨(zs[i]?.getD 0).toNat,by omega⟩
   rw[ek] at hcz hb
   have hk:k<K.most:=by omega
   obtain⟨z,hz⟩:=v5.cell hk
   obtain⟨z',hz'⟩:=t5.cell (show i<K.most by omega)
   have hfz:=t5.frozen i
   have HST:=zH (show Chg (fun _=>False) w2 (w5.setCell ⟨tg,i,none⟩ (.int .i64 z))/\Below K.B0 w2 (w5.setCell ⟨tg,i,none⟩ (.int .i64 z)) from⟨HO.out.1.trans (t5.set i z),HO.out.2.setCell (p:=⟨tg,i,none⟩) htB _⟩)
   have HLT:=zH hlt
   have i1:(0:Int)<=i/\(i:Int)<zs.length:=by omega
   have i2:(0:Int)<=k/\(k:Int)<K.most:=by omega
   clear hlt f5 v5 t5 c0 c1 c3 c4 ek hb y0 y1 y2
   go_wp2_with fail
   go_roundw
   case rel=>exact⟨i+1,HLT.out,by go_num,HST⟩
   case measure=>have:=HLT.out;simp [intOf];omega
  ·have ei:i=zs.length:=by omega
   subst ei
   clear hlt y0 y1 y2
   obtain⟨y0,y1,y2⟩:=obj3 HX5.out
   have f1:(0:Int)<=fi/\(fi:Int)<=K.most:=by omega
   obtain⟨vc,hvc,hvs⟩:∃vc:Array Value,w5.heap[vg]?=some (.cells vc 2 (0,0))/\vc.size=K.most:=by
    obtain⟨g',c',e,hb',hg',hs',_⟩:=v5
    cases e
    exact⟨c',hg',hs'⟩
   have HVC:=zH hvc
   have HSR:=zH (show 0<zs.length->∃ad,some (⟨tg,0,none⟩:Addr)=some ad/\∀j,j<zs.length->∃z:Int,w5.cell? (ad.add j)=some (.int .i64 z) from fun _=>⟨_,rfl,fun j hj=>by
    obtain⟨z,hz⟩:=t5.cell (show j<K.most by omega)
    exact⟨z,by rw[Addr.add_lit,Nat.zero_add];exact hz⟩⟩)
   clear hvc t5 v5 f5
   have HFF:=zH (show FrM K w5 fs.length f from G5.out.frm fs.length f (aQ _ _))
   have HFE:=zH (show fi<=K.most by omega)
   go_wp2_with fail
   go_region_law (refine lV rfl (.tmp 42) (.tmp 43) rfl vg fi _ _ _ _ _ _ (by rfl) (by rfl) vc HVC.out (fun h=>⟨if_neg (by omega),by omega⟩) HSR.out ?_;intro r w9 hc9 hb9;have HC9:=zH (show Chg (fun _=>False) w5 w9/\Below K.B0 w5 w9 from⟨(Chg.drew w5).trans hc9,(show Below K.B0 w5 w5.drew from⟨rfl,rfl,rfl,Nat.le_refl _,fun _ _=>rfl⟩).trans (hb9 _ hvB)⟩);clear hc9 hb9)
   all_goals (
    have G9:=zH (G5.out.num HC9.out.1 HC9.out.2)
    have HX9:=zH (HC9.out.1.rest _ _ HX5.out (fun e=>e) (aO (by decide)))
    have hf9:FrM K w9 fs.length f:=G9.out.frm fs.length f (aQ _ _)
    have HG:=zH (G9.out.goto (bl:=bl) (pl:=0) HPO.out)
    have z3:=aj (k:=3) hf9
    have z4:=aj (k:=4) hf9
    clear y0 y1 y2 c0 c1 c2 c3 c4
    obtain⟨c0,c1,c2,c3,c4⟩:=hf9.cells
    obtain⟨y0,y1,y2⟩:=obj3 HX9.out
    clear hf9
    go_wp2_with fail
    all_goals (
     go_end0
     exact⟨rfl,HG.out⟩))
end
section
open Go.RowKit
open CD (OpP BodyP CodeP ae blAt fnAt)
theorem as_call(v:Value)(w:World):(Instr.typeAssert (.iface 208 v) 150 208 false).run Tryz.prog w=.ok v w:=by kernel_rfl
theorem rO(d r:Int)(xa:Option Addr)(n c:Nat)(w:World):(Instr.field 208 (.agg #[.int .i64 d,.int .i64 r,.slice xa n c]) 0).run Tryz.prog w=.ok (.int .i64 d) w:=by kernel_rfl
theorem InsV.of_call{nf na va nb B0:Nat}{refs:List Int}{W:World}{z:Bool}{v x:Value}(h:InsV nf na va nb refs B0 W z v)(e:v=.iface 208 x):z=false/\∃(d r:Nat) (xa:Option Addr) (n xc:Nat),x=.agg #[.int .i64 d,.int .i64 r,.slice xa n xc]:=by
 cases h <;> first | (cases e;done) | (cases e;exact⟨rfl,_,_,_,_,_,rfl⟩)
theorem Top.drewN{K:Kst}{A:World}{n:Nat}{f:FrS}{st:Int}{q cap:Nat}(h:Top K A n f st q cap)(d:Nat):Top K (A.drewN d) n f st q cap:=by
 obtain⟨g1,c1,g2,c2,e1,h1,h2⟩:=h.code
 have hc:Chg (fun _=>False) A (A.drewN d):=Chg.drewN A d
 exact⟨h.run,h.last,h.frm,⟨g1,c1,g2,c2,e1,h1,h2⟩,h.pos,h.ins.chg hc ⟨rfl,rfl,rfl,Nat.le_refl _,fun _ _=>rfl⟩ (fun _ _ _ e=>e),h.nD⟩
structure KOk (K:Kst):Prop where
 nf:K.nf<=1000
 na:K.na<=1000
 D:K.D<=1000
 most:K.most<=100000
 nb:∀f,f<K.nf->K.nb f<=1000
 ni:K.ni<=1000
 sz:∀i,i<K.na->K.sz i<=1000
def LeaveE(K:Kst)(mf:Nat)(W0:World)(fs:List FrS)(st:Int)(m:Nat)(w':World):Prop:=(fs=[]/\Mach K mf W0 w' [] st m)∨∃gs g,fs=gs ++ [g]/\Mach K mf W0 w' (gs ++ [⟨g.num,g.bl,g.pl+1,g.fb⟩]) st m
set_option maxRecDepth 100000 in
set_option maxHeartbeats 3200000 in
theorem leave_any{K:Kst}(hK:KOk K){mf m:Nat}{W0 W:World}{fs:List FrS}{f:FrS}{st:Int}(g:Mach K mf W0 W (fs ++ [f]) st m)(z:Int) :
 Calls Tryz.prog 134 #[.pointer (some ⟨K.Rb,0,none⟩),.int .i64 z] W fun e w'=>e=.returned (.tuple #[])/\LeaveE K mf W0 fs st m w':=by
 obtain⟨q,cap,ht,ho⟩:=g.top
 obtain⟨c0,c1,c2,c3,c4,c5,c6,c7⟩:=ht.run.cells
 have z3:=aj (k:=3) ht.run
 have hcap:fs.length+1<=cap:=by
  rcases ho.2 with⟨h0,_⟩ | ⟨g',cap',cur,h0,_,_,r1,_⟩
  ·cases h0
  ·cases h0;exact r1
 have G:=zH g
 have HP:=zH (g.pop ht.run ho)
 have hfD:fs.length<K.D:=ht.nD
 have hD:=hK.D
 have e1:(((fs.length+1:Nat):Int)-1)=fs.length:=by omega
 have e2:((fs.length:Int)+1-1)=fs.length:=by omega
 have i1:(0:Int)<=fs.length/\(fs.length:Int)<=cap:=by omega
 have i2:fs.length<=cap:=by omega
 clear g ho c0 c1 c2 c4 c5 c6 c7
 go_enter Tryz.func134,Tryz.ntmps134
 go_wp2_with fail
 go_region
 obtain⟨w2,ew2⟩:∃w2,w2=(W.setCell ⟨K.Rb,3,none⟩ (.slice (some ⟨q,0,none⟩) fs.length cap)).drew:=⟨_,rfl⟩
 have G2:=zH (show Mach K mf W0 w2 fs st m by rw[ew2];exact HP.out.num (Chg.drew _) ⟨rfl,rfl,rfl,Nat.le_refl _,fun _ _=>rfl⟩)
 have hr2:RunM K w2 (.slice (some ⟨q,0,none⟩) fs.length cap) st:=by rw[ew2];exact set_obj (c:=3) _ ht.run
 rw[<-ew2]
 clear c3 z3 ew2 HP
 obtain⟨c0,c1,c2,c3,c4,c5,c6,c7⟩:=hr2.cells
 clear c0 c1 c2 c4 c5 c6 c7 hr2
 rcases List.eq_nil_or_concat fs with hfs | ⟨gs,g,hfs⟩
 ·subst hfs
  have hl0:([]:List FrS).length=0:=rfl
  rw[hl0] at c3 ⊢
  go_wp2_with fail
  first | go_end0 | refine bodyPost_ret (results_none rfl _ _ _) rfl ?_
  exact⟨rfl,Or.inl ⟨rfl,G2.out⟩⟩
 ·rw[List.concat_eq_append] at hfs
  subst hfs
  have hl:(gs ++ [g]).length=gs.length+1:=by simp
  rw[hl] at c3 hfD e1 e2 i1 i2 ⊢
  have t1:(((gs.length+1:Nat):Int) == 0)=false:=by rw[beq_eq_false_iff_ne];omega
  have t2:(((gs.length:Nat):Int)+1 == 0)=false:=by rw[beq_eq_false_iff_ne];omega
  obtain⟨q2,cap2,ht2,_⟩:=G2.out.top
  have HT2:=zH ht2
  have hcl:=G.out.pl.calls gs.length g f (by rw[List.getElem?_append_left (by simp)];exact aQ _ _) (by have:=aQ (gs ++ [g]) f;rw[hl] at this;exact this)
  obtain⟨d,v,hd,hi⟩:=hcl
  obtain⟨hz,d',r',xa,xn,xc,ex⟩:=ht2.ins.of_call hi
  simp only[Value.agg.injEq,Array.mk.injEq,List.cons.injEq,and_true] at ex
  obtain⟨_,_,rfl⟩:=ex
  have hpos:=ht2.pos
  have hpl:g.pl+1<K.len g.num g.bl:=by
   have:=of_decide_eq_false hz
   have:=hpos.2.2
   omega
  have hkn:=hK.nb g.num hpos.1
  have HPO:=zH (show iw K ⟨g.num,g.bl,g.pl+1,g.fb⟩ from⟨hpos.1,hpos.2.1,hpl⟩)
  have hln:K.len g.num g.bl<=1000000:=Nat.le_trans (G2.out.core.fn.i g.num g.bl hpos.1 hpos.2.1).2.2 (by omega)
  have hva:=(G2.out.core.fn.b g.num hpos.1).2.2
  obtain⟨vg,evg,hvB,_⟩:=(G2.out.core.rmn gs.length ht2.nD).form
  have EVG:=zH evg
  have HIN:=zH hi
  clear ht2 hi hz ht evg
  go_wp2_with (go_at_call 83;refine(pQ HT2.out (by omega)).mono ?_;rintro e w3 ⟨rfl,d3,rfl⟩)
  obtain⟨w3,ew3⟩:∃w3,w3=w2.drewN d3:=⟨_,rfl⟩
  have G3:=zH (show Mach K mf W0 w3 (gs ++ [g]) st m by rw[ew3];exact G2.out.drewN d3)
  rw[<-ew3]
  clear ew3 c3
  obtain⟨q3,cap3,ht3,_⟩:=G3.out.top
  have HT3:=zH ht3
  have hv3:NumV K.B0 w3 (.slice (some ⟨vg,0,none⟩) K.most K.most) K.most:=by rw[<-EVG.out];exact G3.out.core.rmn _ ht3.nD
  have HV3:=zH hv3
  obtain⟨c0,c1,c2,c3,c4⟩:=ht3.frm.cells
  rw[EVG.out] at c2
  obtain⟨z0,hz0⟩:=hv3.cell (show d<K.most by omega)
  have hzf:=hv3.frozen d
  have i3:(0:Int)<=d/\(d:Int)<K.most:=by omega
  clear c0 c1 c3 c4 ht3 hv3
  have HG5:=zH (show ∀e,Mach K mf W0 ((w3.drewN e).setCell ⟨vg,d,none⟩ (.int .i64 z)) (gs ++ [g]) st m from fun e=>(G3.out.drewN e).num (NumV.set (B0:=K.B0) (W:=w3.drewN e) HV3.out d z) ((Below.refl _ _).setCell (p:=⟨vg,d,none⟩) hvB _))
  have e3:((g.pl+1:Nat):Int)=(g.pl:Int)+1:=by omega
  have b4:IntKind.i64.wrap ((g.pl:Int)+1)=(g.pl:Int)+1:=IntWalk.i64_in _ (by omega)
  have hta:=as_call
  have hfi:=rO
  go_region_with (go_at_call 124;refine(ck (W:=_) (Top.drewN HT3.out _) ⟨by omega,hln⟩).mono ?_;rintro e w4 ⟨rfl,d4,rfl⟩;rw[HIN.out])
  all_goals (
   have G6:=HG5.out (1+d4)
   generalize World.setCell (w3.drewN (1+d4)) ⟨vg,d,none⟩ (.int .i64 z)=w6 at G6 ⊢
   have HP6:=G6.place HPO.out
   rw[e3] at HP6
   have hf6:=G6.frm gs.length g (aQ _ _)
   obtain⟨c0,c1,c3,c5,c4⟩:=hf6.cells
   have z4:=aj (k:=4) hf6
   have HQ:=zH HP6
   clear HP6 G6 hf6 c0 c1 c3 c5 c2
   go_wp2_with fail
   go_end0
   exact⟨rfl,Or.inr ⟨gs,g,rfl,HQ.out⟩⟩)
end
section
open Go.RowKit
open CD (OpP BodyP CodeP ae blAt fnAt)
theorem ou(v:Value)(W:World):(Instr.typeAssert (.iface 198 v) 150 198 true).run Tryz.prog W=.ok (.tuple #[v,.bool true]) W:=by kernel_rfl
theorem lX(W:World):(do pure (Value.tuple #[<-zeroValue 198,.bool false]):Sem Value).run Tryz.prog W=.ok (.tuple #[.agg #[.int .i64 0,.int .i64 0],.bool false]) W:=by kernel_rfl
theorem bC{u:TypeId}(h:u≠198)(v:Value)(W:World):(Instr.typeAssert (.iface u v) 150 198 true).run Tryz.prog W=.ok (.tuple #[.agg #[.int .i64 0,.int .i64 0],.bool false]) W:=by
 have e:(Instr.typeAssert (.iface u v) 150 198 true).run Tryz.prog W=(if u=198 then (pure (Value.tuple #[v,.bool true]):Sem Value) else (do pure (Value.tuple #[<-zeroValue 198,.bool false]))).run Tryz.prog W:=by kernel_rfl
 rw[e,if_neg h]
 exact lX W
theorem rP(v:Value)(W:World):(Instr.typeAssert (.iface 200 v) 150 200 true).run Tryz.prog W=.ok (.tuple #[v,.bool true]) W:=by kernel_rfl
theorem pV(W:World):(do pure (Value.tuple #[<-zeroValue 200,.bool false]):Sem Value).run Tryz.prog W=.ok (.tuple #[.agg #[.int .i64 0,.int .u8 0,.int .i64 0,.int .i64 0],.bool false]) W:=by kernel_rfl
theorem cw{u:TypeId}(h:u≠200)(v:Value)(W:World):(Instr.typeAssert (.iface u v) 150 200 true).run Tryz.prog W=.ok (.tuple #[.agg #[.int .i64 0,.int .u8 0,.int .i64 0,.int .i64 0],.bool false]) W:=by
 have e:(Instr.typeAssert (.iface u v) 150 200 true).run Tryz.prog W=(if u=200 then (pure (Value.tuple #[v,.bool true]):Sem Value) else (do pure (Value.tuple #[<-zeroValue 200,.bool false]))).run Tryz.prog W:=by kernel_rfl
 rw[e,if_neg h]
 exact pV W
theorem yes_load(v:Value)(W:World):(Instr.typeAssert (.iface 202 v) 150 202 true).run Tryz.prog W=.ok (.tuple #[v,.bool true]) W:=by kernel_rfl
theorem zero_load(W:World):(do pure (Value.tuple #[<-zeroValue 202,.bool false]):Sem Value).run Tryz.prog W=.ok (.tuple #[.agg #[.int .i64 0,.int .i64 0,.int .i64 0],.bool false]) W:=by kernel_rfl
theorem dQ{u:TypeId}(h:u≠202)(v:Value)(W:World):(Instr.typeAssert (.iface u v) 150 202 true).run Tryz.prog W=.ok (.tuple #[.agg #[.int .i64 0,.int .i64 0,.int .i64 0],.bool false]) W:=by
 have e:(Instr.typeAssert (.iface u v) 150 202 true).run Tryz.prog W=(if u=202 then (pure (Value.tuple #[v,.bool true]):Sem Value) else (do pure (Value.tuple #[<-zeroValue 202,.bool false]))).run Tryz.prog W:=by kernel_rfl
 rw[e,if_neg h]
 exact zero_load W
theorem yes_wrap(v:Value)(W:World):(Instr.typeAssert (.iface 204 v) 150 204 true).run Tryz.prog W=.ok (.tuple #[v,.bool true]) W:=by kernel_rfl
theorem zero_wrap(W:World):(do pure (Value.tuple #[<-zeroValue 204,.bool false]):Sem Value).run Tryz.prog W=.ok (.tuple #[.agg #[.int .i64 0,.int .i64 0,.int .i64 0],.bool false]) W:=by kernel_rfl
theorem eV{u:TypeId}(h:u≠204)(v:Value)(W:World):(Instr.typeAssert (.iface u v) 150 204 true).run Tryz.prog W=.ok (.tuple #[.agg #[.int .i64 0,.int .i64 0,.int .i64 0],.bool false]) W:=by
 have e:(Instr.typeAssert (.iface u v) 150 204 true).run Tryz.prog W=(if u=204 then (pure (Value.tuple #[v,.bool true]):Sem Value) else (do pure (Value.tuple #[<-zeroValue 204,.bool false]))).run Tryz.prog W:=by kernel_rfl
 rw[e,if_neg h]
 exact zero_wrap W
theorem yes_store(v:Value)(W:World):(Instr.typeAssert (.iface 206 v) 150 206 true).run Tryz.prog W=.ok (.tuple #[v,.bool true]) W:=by kernel_rfl
theorem rQ(W:World):(do pure (Value.tuple #[<-zeroValue 206,.bool false]):Sem Value).run Tryz.prog W=.ok (.tuple #[.agg #[.int .i64 0,.int .i64 0,.int .i64 0],.bool false]) W:=by kernel_rfl
theorem eH{u:TypeId}(h:u≠206)(v:Value)(W:World):(Instr.typeAssert (.iface u v) 150 206 true).run Tryz.prog W=.ok (.tuple #[.agg #[.int .i64 0,.int .i64 0,.int .i64 0],.bool false]) W:=by
 have e:(Instr.typeAssert (.iface u v) 150 206 true).run Tryz.prog W=(if u=206 then (pure (Value.tuple #[v,.bool true]):Sem Value) else (do pure (Value.tuple #[<-zeroValue 206,.bool false]))).run Tryz.prog W:=by kernel_rfl
 rw[e,if_neg h]
 exact rQ W
theorem yes_input(v:Value)(W:World):(Instr.typeAssert (.iface 210 v) 150 210 true).run Tryz.prog W=.ok (.tuple #[v,.bool true]) W:=by kernel_rfl
theorem rR(W:World):(do pure (Value.tuple #[<-zeroValue 210,.bool false]):Sem Value).run Tryz.prog W=.ok (.tuple #[.agg #[.int .i64 0,.int .i64 0],.bool false]) W:=by kernel_rfl
theorem fD{u:TypeId}(h:u≠210)(v:Value)(W:World):(Instr.typeAssert (.iface u v) 150 210 true).run Tryz.prog W=.ok (.tuple #[.agg #[.int .i64 0,.int .i64 0],.bool false]) W:=by
 have e:(Instr.typeAssert (.iface u v) 150 210 true).run Tryz.prog W=(if u=210 then (pure (Value.tuple #[v,.bool true]):Sem Value) else (do pure (Value.tuple #[<-zeroValue 210,.bool false]))).run Tryz.prog W:=by kernel_rfl
 rw[e,if_neg h]
 exact rR W
theorem rS(v:Value)(W:World):(Instr.typeAssert (.iface 212 v) 150 212 true).run Tryz.prog W=.ok (.tuple #[v,.bool true]) W:=by kernel_rfl
theorem pW(W:World):(do pure (Value.tuple #[<-zeroValue 212,.bool false]):Sem Value).run Tryz.prog W=.ok (.tuple #[.agg #[.int .i64 0,.int .i64 0,.int .i64 0],.bool false]) W:=by kernel_rfl
theorem fE{u:TypeId}(h:u≠212)(v:Value)(W:World):(Instr.typeAssert (.iface u v) 150 212 true).run Tryz.prog W=.ok (.tuple #[.agg #[.int .i64 0,.int .i64 0,.int .i64 0],.bool false]) W:=by
 have e:(Instr.typeAssert (.iface u v) 150 212 true).run Tryz.prog W=(if u=212 then (pure (Value.tuple #[v,.bool true]):Sem Value) else (do pure (Value.tuple #[<-zeroValue 212,.bool false]))).run Tryz.prog W:=by kernel_rfl
 rw[e,if_neg h]
 exact pW W
theorem pX(v:Value)(W:World):(Instr.typeAssert (.iface 214 v) 150 214 true).run Tryz.prog W=.ok (.tuple #[v,.bool true]) W:=by kernel_rfl
theorem ow(W:World):(do pure (Value.tuple #[<-zeroValue 214,.bool false]):Sem Value).run Tryz.prog W=.ok (.tuple #[.agg #[.int .i64 0,.int .i64 0,.int .i64 0,.int .i64 0],.bool false]) W:=by kernel_rfl
theorem fX{u:TypeId}(h:u≠214)(v:Value)(W:World):(Instr.typeAssert (.iface u v) 150 214 true).run Tryz.prog W=.ok (.tuple #[.agg #[.int .i64 0,.int .i64 0,.int .i64 0,.int .i64 0],.bool false]) W:=by
 have e:(Instr.typeAssert (.iface u v) 150 214 true).run Tryz.prog W=(if u=214 then (pure (Value.tuple #[v,.bool true]):Sem Value) else (do pure (Value.tuple #[<-zeroValue 214,.bool false]))).run Tryz.prog W:=by kernel_rfl
 rw[e,if_neg h]
 exact ow W
theorem yes_call(v:Value)(W:World):(Instr.typeAssert (.iface 208 v) 150 208 true).run Tryz.prog W=.ok (.tuple #[v,.bool true]) W:=by kernel_rfl
theorem zero_call(W:World):(do pure (Value.tuple #[<-zeroValue 208,.bool false]):Sem Value).run Tryz.prog W=.ok (.tuple #[.agg #[.int .i64 0,.int .i64 0,.slice none 0 0],.bool false]) W:=by kernel_rfl
theorem ox{u:TypeId}(h:u≠208)(v:Value)(W:World):(Instr.typeAssert (.iface u v) 150 208 true).run Tryz.prog W=.ok (.tuple #[.agg #[.int .i64 0,.int .i64 0,.slice none 0 0],.bool false]) W:=by
 have e:(Instr.typeAssert (.iface u v) 150 208 true).run Tryz.prog W=(if u=208 then (pure (Value.tuple #[v,.bool true]):Sem Value) else (do pure (Value.tuple #[<-zeroValue 208,.bool false]))).run Tryz.prog W:=by kernel_rfl
 rw[e,if_neg h]
 exact zero_call W
theorem yes_jump(v:Value)(W:World):(Instr.typeAssert (.iface 216 v) 150 216 true).run Tryz.prog W=.ok (.tuple #[v,.bool true]) W:=by kernel_rfl
theorem zero_jump(W:World):(do pure (Value.tuple #[<-zeroValue 216,.bool false]):Sem Value).run Tryz.prog W=.ok (.tuple #[.agg #[.int .i64 0,.int .i64 0,.slice none 0 0],.bool false]) W:=by kernel_rfl
theorem no_jump{u:TypeId}(h:u≠216)(v:Value)(W:World):(Instr.typeAssert (.iface u v) 150 216 true).run Tryz.prog W=.ok (.tuple #[.agg #[.int .i64 0,.int .i64 0,.slice none 0 0],.bool false]) W:=by
 have e:(Instr.typeAssert (.iface u v) 150 216 true).run Tryz.prog W=(if u=216 then (pure (Value.tuple #[v,.bool true]):Sem Value) else (do pure (Value.tuple #[<-zeroValue 216,.bool false]))).run Tryz.prog W:=by kernel_rfl
 rw[e,if_neg h]
 exact zero_jump W
theorem rT(v:Value)(W:World):(Instr.typeAssert (.iface 218 v) 150 218 true).run Tryz.prog W=.ok (.tuple #[v,.bool true]) W:=by kernel_rfl
theorem pY(W:World):(do pure (Value.tuple #[<-zeroValue 218,.bool false]):Sem Value).run Tryz.prog W=.ok (.tuple #[.agg #[.int .i64 0,.int .i64 0,.int .i64 0,.slice none 0 0,.int .i64 0,.int .i64 0,.slice none 0 0],.bool false]) W:=by kernel_rfl
theorem no_branch{u:TypeId}(h:u≠218)(v:Value)(W:World):(Instr.typeAssert (.iface u v) 150 218 true).run Tryz.prog W=.ok (.tuple #[.agg #[.int .i64 0,.int .i64 0,.int .i64 0,.slice none 0 0,.int .i64 0,.int .i64 0,.slice none 0 0],.bool false]) W:=by
 have e:(Instr.typeAssert (.iface u v) 150 218 true).run Tryz.prog W=(if u=218 then (pure (Value.tuple #[v,.bool true]):Sem Value) else (do pure (Value.tuple #[<-zeroValue 218,.bool false]))).run Tryz.prog W:=by kernel_rfl
 rw[e,if_neg h]
 exact pY W
theorem yes_leave(v:Value)(W:World):(Instr.typeAssert (.iface 220 v) 150 220 true).run Tryz.prog W=.ok (.tuple #[v,.bool true]) W:=by kernel_rfl
def DoE(K:Kst)(mf:Nat)(W0:World)(fs:List FrS)(f:FrS)(st:Int)(m:Nat)(e:Ending)(w':World):Prop :=
 (e=.returned (.tuple #[])/\∃gs,Mach K mf W0 w' gs st (m+1))∨∃s:Int,e=Over s/\(s=22->fs.length+1=K.D/\∃n,fQ K f n)/\∃gs,Mach K mf W0 w' gs st (m+1)
theorem Mach.more{K:Kst}{mf m m':Nat}{W0 W:World}{fs:List FrS}{st:Int}(h:m<=m')(g:Mach K mf W0 W fs st m):Mach K mf W0 W fs st m':=⟨g.core,g.run,g.frm,g.dis,g.pl,g.box.more h,g.base⟩
theorem Mach.held{K:Kst}{mf m:Nat}{W0 W w2:World}{fs:List FrS}{f:FrS}{st:Int}(g:Mach K mf W0 W (fs ++ [f]) st m){w1:World}{d:Nat}{o:Obj}(e1:w1=W.drewN d)(e:w2=w1.alloc o):Mach K mf W0 w2 (fs ++ [f]) st m/\w2.heap[w1.heap.size]?=some o/\Below W.heap.size W w2/\K.B0<=W.heap.size:=by
 subst e1
 have hb:Below W.heap.size W w2:=by rw[e];exact(show Below W.heap.size W (W.drewN d) from⟨rfl,rfl,rfl,Nat.le_refl _,fun _ _=>rfl⟩).alloc (Nat.le_refl _) _
 refine⟨g.on hb,by rw[e];exact heap_alloc_new _ _,hb,?_⟩
 have h1:=g.base.1
 obtain⟨frv,hr,_⟩:=g.run
 have:=(Array.getElem?_eq_some_iff.1 hr).1
 omega
theorem obj2{w:World}{b:Nat}{t:TypeId}{v0 v1:Value}(h:w.heap[b]?=some (.cells #[v0,v1] t)):w.cell? ⟨b,0,none⟩=some v0/\w.cell? ⟨b,1,none⟩=some v1:=⟨cell_of_row _ _ 0 _ _ _ h,cell_of_row _ _ 1 _ _ _ h⟩
theorem Mach.vals{K:Kst}{mf m:Nat}{W0 W:World}{fs:List FrS}{f:FrS}{st:Int}(g:Mach K mf W0 W (fs ++ [f]) st m):∃vg,W.cell? ⟨f.fb,2,none⟩=some (.slice (some ⟨vg,0,none⟩) K.most K.most)/\K.va f.num<=K.most/\K.B0<=vg/\NumV K.B0 W (.slice (some ⟨vg,0,none⟩) K.most K.most) K.most/\(∀j,j<K.va f.num->∃z:Int,W.cell? ⟨vg,j,none⟩=some (.int .i64 z))/\(∀j,W.frozen? ⟨vg,j,none⟩=false)/\∀(j:Nat) (z:Int),Mach K mf W0 (W.setCell ⟨vg,j,none⟩ (.int .i64 z)) (fs ++ [f]) st m:=by
 have hp:=g.pl.pos f (by simp)
 have hl:fs.length<K.D:=by have:=g.pl.few;simp at this;omega
 have hv:=g.core.rmn fs.length hl
 obtain⟨vg,e,hB,_⟩:=hv.form
 have hc:=(g.frm _ _ (aQ _ _)).cells.2.2.1
 rw[e] at hv hc
 have hva:=(g.core.fn.b f.num hp.1).2.2
 exact⟨vg,hc,hva,hB,hv,fun j hj=>hv.cell (by omega),fun j=>hv.frozen j,fun j z=>g.num (hv.set j z) ((Below.refl _ _).setCell (p:=⟨vg,j,none⟩) hB _)⟩
theorem Mach.next{K:Kst}{mf m:Nat}{W0 W:World}{fs:List FrS}{f:FrS}{st:Int}(g:Mach K mf W0 W (fs ++ [f]) st m)(hz:¬f.pl+1=K.len f.num f.bl):W.cell? ⟨f.fb,4,none⟩=some (.int .i64 f.pl)/\W.frozen? ⟨f.fb,4,none⟩=false/\Mach K mf W0 (W.setCell ⟨f.fb,4,none⟩ (.int .i64 ((f.pl:Int)+1))) (fs ++ [⟨f.num,f.bl,f.pl+1,f.fb⟩]) st m:=by
 have hp:=g.pl.pos f (by simp)
 have hf:=g.frm _ _ (aQ _ _)
 refine⟨hf.cells.2.2.2.2,aj hf,?_⟩
 have:=g.place (pl:=f.pl+1) ⟨hp.1,hp.2.1,by have:=hp.2.2;show f.pl+1<K.len f.num f.bl;omega⟩
 rw[show ((f.pl+1:Nat):Int)=(f.pl:Int)+1 by omega] at this
 exact this
structure Doing (K:Kst) (mf:Nat) (W0 W:World) (fs:List FrS) (f:FrS) (st:Int) (m:Nat):Prop where
 g:Mach K mf W0 W (fs ++ [f]) st m
 ok:KOk K
 most:m<=2000000
theorem Doing.bounds{K:Kst}{mf m:Nat}{W0 W:World}{fs:List FrS}{f:FrS}{st:Int}(h:Doing K mf W0 W fs f st m):fs.length<=1000/\K.nb f.num<=1000/\K.len f.num f.bl<=1000000/\IntKind.i64.wrap ((f.pl:Int)+1)=(f.pl:Int)+1:=by
 obtain⟨q,cap,ht,_⟩:=h.g.top
 have hp:=ht.pos
 have:=(h.g.core.fn.i f.num f.bl hp.1 hp.2.1).2.2
 have h1:=ht.nD
 have h2:=h.ok.D
 have h3:=hp.2.2
 exact⟨by omega,h.ok.nb _ hp.1,by omega,IntWalk.i64_in _ (by omega)⟩
structure Kept (K:Kst) (X:Nat->Prop) (A V:World):Prop where
 chg:Chg X A V
 below:Below K.B0 A V
 base:K.B0<=A.heap.size
theorem Kept.refl{K:Kst}{X:Nat->Prop}{A:World}(h:K.B0<=A.heap.size):Kept K X A A:=⟨Chg.refl _ _,Below.refl _ _,h⟩
theorem Kept.on{K:Kst}{X:Nat->Prop}{A V V':World}(h:Kept K X A V)(hb:Below V.heap.size V V'):Kept K X A V':=⟨h.chg.trans (Chg.of_below hb),h.below.trans (hb.mono (Nat.le_trans h.base h.chg.size)),h.base⟩
theorem Kept.drew{K:Kst}{X:Nat->Prop}{A V:World}(h:Kept K X A V):Kept K X A V.drew:=h.on ⟨rfl,rfl,rfl,Nat.le_refl _,fun _ _=>rfl⟩
theorem Kept.cell{K:Kst}{X:Nat->Prop}{A V:World}(h:Kept K X A V){b i:Nat}{c:Array Value}{t:TypeId}{fr:Nat × Nat}{v:Value}(ho:A.heap[b]?=some (.cells c t fr))(ht:t≠2)(hx:¬X b)(hc:A.cell? ⟨b,i,none⟩=some v):V.cell? ⟨b,i,none⟩=some v:=by
 have h1:=h.chg.rest _ _ ho hx (aO ht)
 simp only[World.cell?,h1]
 simp only[World.cell?,ho] at hc
 exact hc
theorem Kept.mach{K:Kst}{mf m:Nat}{W0 A V:World}{fs:List FrS}{st:Int}(h:Kept K (fun _=>False) A V)(g:Mach K mf W0 A fs st m):Mach K mf W0 V fs st m:=g.num h.chg h.below
theorem Kept.num{K:Kst}{X:Nat->Prop}{A V:World}(h:Kept K X A V){g s c:Nat}(hv:NumV K.B0 V (.slice (some ⟨g,0,none⟩) s c) s)(hg:K.B0<=g)(j:Nat)(z:Int):Kept K X A (V.setCell ⟨g,j,none⟩ (.int .i64 z)):=⟨h.chg.trans (hv.set j z),h.below.setCell (p:=⟨g,j,none⟩) hg _,h.base⟩
end
section
open Go.RowKit
open CD (OpP BodyP CodeP ae blAt fnAt)
set_option maxRecDepth 100000 in
set_option maxHeartbeats 1600000 in
theorem do_konst{K:Kst}{mf m:Nat}{W0 W:World}{fs:List FrS}{f:FrS}{st:Int}(h:Doing K mf W0 W fs f st m)(d:Nat)(z:Int)(hd:d<K.va f.num)(hi:insK K f=.iface 198 (.agg #[.int .i64 d,.int .i64 z]))(hz:¬f.pl+1=K.len f.num f.bl) :
 Calls Tryz.prog 82 #[.pointer (some ⟨K.Rb,0,none⟩),.pointer (some ⟨f.fb,0,none⟩)] W fun e w'=>DoE K mf W0 fs f st m e w':=by
 obtain⟨q,cap,ht,_⟩:=h.g.top
 obtain⟨b1,b2,b3,b4⟩:=h.bounds
 have HI:=zH hi
 have G:=zH h.g
 have HT:=zH ht
 have HH:=zH h
 have HZ:=zH hz
 clear hz
 have HD:=zH hd
 clear hd
 have y_constant:=ou (.agg #[.int .i64 d,.int .i64 z])
 clear h hi ht
 go_enter Tryz.func82,Tryz.ntmps82
 go_upto_region 3 with(go_at_call 124;refine(ck HT.out ⟨b2,b3⟩).mono ?_;rintro e w1 ⟨rfl,d1,hw1⟩;rw[HI.out];have HW:=zH hw1;clear hw1)
 obtain⟨w2,ew2⟩:∃w2,w2=w1.alloc (.cells #[.int .i64 d,.int .i64 z] 198):=⟨_,rfl⟩
 rw[<-ew2]
 obtain⟨g2,ho2,hb2,hB2⟩:=G.out.held HW.out ew2
 have HO2:=zH ho2
 have G2:=zH g2
 obtain⟨y0,y1⟩:=obj2 ho2
 obtain⟨vg,c2,hva,hvB,hnv,hv,hfz,hset⟩:=g2.vals
 have HS:=zH hset
 have hfd:=hfz d
 have hd:=HD.out
 have hm:=HH.out.ok.most
 have i1:(0:Int)<=d/\(d:Int)<K.most:=by omega
 obtain⟨z0,hz0⟩:=hv d hd
 clear g2 ho2 hset hfz ew2 hv
 go_region
 have g3:=(HS.out d z).drewN 1
 change Mach K mf W0 (World.drew _) _ _ _ at g3
 clear c2 hfd hz0 y0 y1
 generalize World.drew _=w3 at g3 ⊢
 obtain⟨p1,p2,p3⟩:=g3.next HZ.out
 have HP:=zH p3
 clear p3 g3
 go_wp2_with fail
 go_end0
 exact .inl ⟨rfl,_,HP.out.more (by omega)⟩
end
section
open Go.RowKit
open CD (OpP BodyP CodeP ae blAt fnAt)
theorem obj4{w:World}{b:Nat}{t:TypeId}{v0 v1 v2 v3:Value}(h:w.heap[b]?=some (.cells #[v0,v1,v2,v3] t)):w.cell? ⟨b,0,none⟩=some v0/\w.cell? ⟨b,1,none⟩=some v1/\w.cell? ⟨b,2,none⟩=some v2/\w.cell? ⟨b,3,none⟩=some v3:=⟨cell_of_row _ _ 0 _ _ _ h,cell_of_row _ _ 1 _ _ _ h,cell_of_row _ _ 2 _ _ _ h,cell_of_row _ _ 3 _ _ _ h⟩
theorem Mach.arr{K:Kst}{mf m:Nat}{W0 W:World}{fs:List FrS}{st:Int}(g:Mach K mf W0 W fs st m){r:Nat}(hr:r<K.na):∃frv ag ac q c,RunM K W frv st/\K.av=.slice (some ⟨ag,0,none⟩) K.na ac/\W.heap[ag]?=some (.cells c 49 (0,0))/\W.cell? ⟨ag,r,none⟩=some (.slice (some ⟨q,0,none⟩) (K.sz r) (K.sz r))/\NumV K.B0 W (.slice (some ⟨q,0,none⟩) (K.sz r) (K.sz r)) (K.sz r)/\K.B0<=q/\1<=K.sz r:=by
 obtain⟨frv,hrun,_⟩:=g.run
 obtain⟨ag,ac,e1,hc⟩:=ji g.core.ars hr
 obtain⟨hn,h1⟩:=g.core.arn r hr
 obtain⟨q,e2,hq,_⟩:=hn.form
 have ho:=g.core.ars
 rw[e1] at ho
 obtain⟨_,_,c,hg⟩:=GG.own_block ho rfl
 rw[e2] at hn hc
 exact⟨frv,ag,ac,q,c,hrun,e1,hg,hc,hn,hq,h1⟩
theorem kw{K:Kst}{W:World}{frv:Value}{st:Int}(hr:RunM K W frv st){g c r s q:Nat}{k:Nat}(ha:K.av=.slice (some ⟨g,0,none⟩) K.na c)(hn:K.na<=1000000)(hr1:r<K.na)(hc:W.cell? ⟨g,r,none⟩=some (.slice (some ⟨q,0,none⟩) s s))(hs:s<=1000000)(hk:k<s) :
 Calls Tryz.prog 127 #[.pointer (some ⟨K.Rb,0,none⟩),.int .i64 r,.int .i64 k] W fun e w'=>e=.returned (.pointer (some ⟨q,k,none⟩))/\w'=W:=by
 obtain⟨c0,c1,c2,c3,c4,c5,c6,c7⟩:=hr.cells
 rw[ha] at c1
 have i1:(0:Int)<=r/\(r:Int)<K.na:=by omega
 have t1:decide ((k:Int)<0)=false:=decide_eq_false (by omega)
 have t2:decide ((s:Int)<=k)=false:=decide_eq_false (by omega)
 have i2:(0:Int)<=k/\(k:Int)<s:=by omega
 clear c0 c2 c3 c4 c5 c6 c7
 go_enter Tryz.func127,Tryz.ntmps127
 go_wp2_with fail
 go_ret
 exact⟨by simp,rfl⟩
theorem ju{K:Kst}{W:World}{frv:Value}{st:Int}(hr:RunM K W frv st){g c r s q:Nat}{z:Int}(ha:K.av=.slice (some ⟨g,0,none⟩) K.na c)(hn:K.na<=1000000)(hr1:r<K.na)(hc:W.cell? ⟨g,r,none⟩=some (.slice (some ⟨q,0,none⟩) s s))(hs:s<=1000000)(hz:¬(0<=z/\z<s)) :
 Calls Tryz.prog 127 #[.pointer (some ⟨K.Rb,0,none⟩),.int .i64 r,.int .i64 z] W fun e w'=>e=Over 21/\w'=W:=by
 obtain⟨c0,c1,c2,c3,c4,c5,c6,c7⟩:=hr.cells
 rw[ha] at c1
 have i1:(0:Int)<=r/\(r:Int)<K.na:=by omega
 clear c0 c2 c3 c4 c5 c6 c7
 by_cases h0:z<0
 ·have t1:decide (z<0)=true:=decide_eq_true h0
  clear hz
  go_enter Tryz.func127,Tryz.ntmps127
  go_wp2_with fail
  simp [bodyPost,Over]
 ·have t1:decide (z<0)=false:=decide_eq_false h0
  have t2:decide ((s:Int)<=z)=true:=decide_eq_true (by omega)
  clear hz
  go_enter Tryz.func127,Tryz.ntmps127
  go_wp2_with fail
  simp [bodyPost,Over]
def PutX(A:World)(b:Nat):Prop:=∃c t,A.heap[b]?=some (.cells c t (0,0))/\(t=113∨t=231)
theorem PutX.no{A:World}{k:Nat}{c:Array Value}{t:TypeId}{fr:Nat × Nat}(hc:A.heap[k]?=some (.cells c t fr))(h1:t≠113)(h2:t≠231):¬PutX A k:=fun⟨c',t',hc',ht'⟩=>by
 rw[hc] at hc'
 cases hc'
 rcases ht' with e | e
 ·exact h1 e
 ·exact h2 e
theorem Mach.put{K:Kst}{mf m:Nat}{W0 A B:World}{fs:List FrS}{st:Int}{ve:Value}{es:List Ev}{vs:Nat->Value}{rows:Nat->List Int}(g:Mach K mf W0 A fs st m)(hb:BoxB A K.kb K.rb K.ni K.no K.nl ve)(ht:TabQ K.B0 A K.rb K.ni vs rows)(ho:A.ownsRow K.B0 231 5 ve es.length (aY es))(hm:es.length<=m){x:Ev}{e:Ending}(h:PutE K.B0 K.kb K.rb K.ni K.no K.nl ve rows es x e A B):(∃z:Int,e=.returned (.int .i64 z))/\Mach K mf W0 B fs st (m+1)/\Kept K (PutX A) A B:=by
 have hB:K.B0<=A.heap.size:=by have:=g.base.2.1;have:=(Array.getElem?_eq_some_iff.1 hb).1;omega
 unfold PutE at h
 split at h
 ·obtain⟨rfl,hp,ve',hb',ho',⟨vs',ht'⟩,_⟩:=h
  have hty:∀k,k=K.kb∨some k=ve.ownBlock->K.B0<=k/\∃c t,A.heap[k]?=some (.cells c t (0,0))/\(t=113∨t=231):=fun k hk=>by
   rcases hk with rfl | hk
   ·exact⟨g.base.2.1,_,_,hb,.inl rfl⟩
   ·obtain⟨h1,_,c,hc⟩:=GG.own_block ho hk.symm
    exact⟨h1,c,_,hc,.inr rfl⟩
  have hno:∀(k:Nat) (c:Array Value) (t:TypeId) (fr:Nat × Nat),A.heap[k]?=some (.cells c t fr)->t≠113->t≠231->¬(k=K.kb∨some k=ve.ownBlock):=fun k c t fr hc h1 h2 hk=>by
   obtain⟨_,c',t',hc',ht'⟩:=hty k hk
   rw[hc] at hc'
   cases hc'
   rcases ht' with e | e
   ·exact h1 e
   ·exact h2 e
  have hc:Chg (fun b=>b=K.kb∨some b=ve.ownBlock) A B:=⟨hp.os,hp.tape,hp.output,hp.size,fun b o eb hx _=>(hp.block b (Array.getElem?_eq_some_iff.1 eb).1 (fun e=>hx (.inl e)) (fun e=>hx (.inr e))).trans eb,fun b c fr eb=>⟨c,by
   have hx:=hno b c _ fr eb (by decide) (by decide)
   exact(hp.block b (Array.getElem?_eq_some_iff.1 eb).1 (fun e=>hx (.inl e)) (fun e=>hx (.inr e))).trans eb,rfl,fun _ z h=>⟨z,h⟩⟩⟩
  have hbl:Below K.B0 A B:=⟨hp.os,hp.tape,hp.output,hp.size,fun k hk=>hp.block k (by omega) (fun e=>by have:=(hty k (.inl e)).1;omega) (fun e=>by have:=(hty k (.inr e)).1;omega)⟩
  have hap:Apart K (fun b=>b=K.kb∨some b=ve.ownBlock) A:=fun k c t hk ht=>by
   refine hno k c t _ hk (fun e=>?_) (fun e=>?_) <;> subst e <;> rcases ht with ht | ht
   ·exact od ht
   ·exact absurd ht.1 (by decide)
   ·exact ll ht
   ·exact absurd ht.1 (by decide)
  obtain⟨frv,hr,hO⟩:=g.run
  refine⟨⟨_,rfl⟩,⟨g.core.chg hc hbl hap,⟨frv,hc.rest _ _ hr (hno _ _ _ _ hr (by decide) (by decide)) (aO (by decide)),hc.own (by decide) hO (fun k hk=>by obtain⟨_,_,c',hc'⟩:=GG.own_block hO hk;exact hno k c' _ _ hc' (by decide) (by decide))⟩,fun i f e=>(g.frm i f e).chg hc (hno _ _ _ _ (g.frm i f e) (by decide) (by decide)),g.dis,g.pl,⟨ve',es ++ [x],vs',rows,hb',ht',ho',by simp;omega⟩,g.base⟩,⟨hc.wide (fun b hb=>(hty b hb).2),hbl,hB⟩⟩
 ·obtain⟨rfl,hb⟩:=h
  exact⟨⟨_,rfl⟩,(g.on hb).more (by omega),(Kept.refl hB).on hb⟩
theorem Mach.puts{K:Kst}{mf m:Nat}{W0 A:World}{fs:List FrS}{st:Int}(g:Mach K mf W0 A fs st m)(hm:m<=2000000)(k r v f a:Int):Calls Tryz.prog 130 #[.pointer (some ⟨K.kb,0,none⟩),.agg #[.int .u8 k,.int .i64 r,.int .i64 v,.int .i64 f,.int .i64 a]] A fun e w'=>(∃z:Int,e=.returned (.int .i64 z))/\Mach K mf W0 w' fs st (m+1)/\Kept K (PutX A) A w':=by
 obtain⟨ve,es,vs,rows,hb,ht,ho,he⟩:=g.box
 exact(qput_any ⟨k,r,v,f,a⟩ A hb ht ho (by omega) g.base.2.1).mono fun e w' h=>g.put hb ht ho he h
theorem Mach.takes{K:Kst}{mf m:Nat}{W0 A:World}{fs:List FrS}{st:Int}(g:Mach K mf W0 A fs st m)(hn:K.ni<=1000)(i:Int):∃(z k:Int),(k=0∨k=1∨k=23)/\Calls Tryz.prog 129 #[.pointer (some ⟨K.kb,0,none⟩),.int .i64 i] A fun e w'=>e=.returned (.tuple #[.int .i64 z,.int .i64 k])/\Mach K mf W0 w' fs st m/\Kept K (fun b=>b=K.rb) A w':=by
 obtain⟨ve,es,vs,rows,hb,ht,ho,hm⟩:=g.box
 have hc:=take_any i A hb ht (by omega)
 have hB:K.B0<=A.heap.size:=by have:=g.base.2.1;have:=(Array.getElem?_eq_some_iff.1 hb).1;omega
 by_cases h1:0<=i/\i<K.ni
 ·by_cases h2:(rows i.toNat).length=0
  ·refine⟨0,23,.inr (.inr rfl),hc.mono fun e w' h=>?_⟩
   unfold iu at h
   rw[if_pos h1,if_pos h2] at h
   obtain⟨rfl,rfl⟩:=h
   exact⟨rfl,g,Kept.refl hB⟩
  ·refine⟨(rows i.toNat)[0]?.getD 0,0,.inl rfl,hc.mono fun e w' h=>?_⟩
   unfold iu at h
   rw[if_pos h1,if_neg h2] at h
   obtain⟨rfl,hg,_,hb',vs',ht'⟩:=h
   obtain⟨c,hcr,_⟩:=ht.tab
   refine⟨rfl,g.took ht ho hm hg hb' ht',⟨Chg.but hg.os hg.tape hg.output hg.size (fun b hb hne=>hg.block b hb (fun e=>hne (Option.some.inj e))) (fun o e=>by rw[hcr] at e;cases e;exact aO (by decide)),⟨hg.os,hg.tape,hg.output,hg.size,fun k hk=>hg.block k (by omega) (fun e=>by have:=Option.some.inj e;have:=g.base.2.2.2.1;omega)⟩,hB⟩⟩
 ·refine⟨0,1,.inr (.inl rfl),hc.mono fun e w' h=>?_⟩
  unfold iu at h
  rw[if_neg h1] at h
  obtain⟨rfl,rfl⟩:=h
  exact⟨rfl,g,Kept.refl hB⟩
end
section
open Go.RowKit
open CD (OpP BodyP CodeP ae blAt fnAt)
theorem way_yes(a bl fi bl' fi':Nat)(va ua:Option Addr)(vn vc un uc:Nat)(z:Int)(w:World)(hz:(z != 0)=true):Calls Tryz.prog 133 #[.agg #[.int .i64 a,.int .i64 bl,.int .i64 fi,.slice va vn vc,.int .i64 bl',.int .i64 fi',.slice ua un uc],.int .i64 z] w fun r w'=>r=.returned (.agg #[.int .i64 bl,.int .i64 fi,.slice va vn vc])/\Below w.heap.size w w':=by
 go_enter Tryz.func133,Tryz.ntmps133
 go_wp2_with fail
 have h3:=heap_alloc_new (w.alloc (.cells #[.int .i64 a,.int .i64 bl,.int .i64 fi,.slice va vn vc,.int .i64 bl',.int .i64 fi',.slice ua un uc] 218)) (.cells #[.int .i64 bl,.int .i64 fi,.slice va vn vc] 147)
 obtain⟨y0,y1,y2⟩:=obj3 h3
 rw[World.size_alloc] at y0 y1 y2
 refine bodyPost_ret (v:=.agg #[.int .i64 bl,.int .i64 fi,.slice va vn vc]) (by simp [results,Tryz.results133,go_sem,y0,y1,y2]) rfl ?_
 exact⟨rfl,((Below.refl _ _).alloc (Nat.le_refl _) _).alloc (by simp) _⟩
theorem way_no(a bl fi bl' fi':Nat)(va ua:Option Addr)(vn vc un uc:Nat)(z:Int)(w:World)(hz:(z != 0)=false):Calls Tryz.prog 133 #[.agg #[.int .i64 a,.int .i64 bl,.int .i64 fi,.slice va vn vc,.int .i64 bl',.int .i64 fi',.slice ua un uc],.int .i64 z] w fun r w'=>r=.returned (.agg #[.int .i64 bl',.int .i64 fi',.slice ua un uc])/\Below w.heap.size w w':=by
 go_enter Tryz.func133,Tryz.ntmps133
 go_wp2_with fail
 have h3:=heap_alloc_new (w.alloc (.cells #[.int .i64 a,.int .i64 bl,.int .i64 fi,.slice va vn vc,.int .i64 bl',.int .i64 fi',.slice ua un uc] 218)) (.cells #[.int .i64 bl',.int .i64 fi',.slice ua un uc] 147)
 obtain⟨y0,y1,y2⟩:=obj3 h3
 rw[World.size_alloc] at y0 y1 y2
 refine bodyPost_ret (v:=.agg #[.int .i64 bl',.int .i64 fi',.slice ua un uc]) (by simp [results,Tryz.results133,go_sem,y0,y1,y2]) rfl ?_
 exact⟨rfl,((Below.refl _ _).alloc (Nat.le_refl _) _).alloc (by simp) _⟩
theorem pZ{W:World}{B n c:Nat}{a:Option Addr}{zs:List Int}(h:W.ownsRow B 2 1 (.slice a n c) n (ao zs)):0<n->∃ad,a=some ad/\∀j,j<n->∃z:Int,W.cell? (ad.add j)=some (.int .i64 z):=fun h0=>by
 have hl:zs.length=n:=by have:=h.1;simpa [ao] using this
 rcases h.2 with⟨_,e⟩ | ⟨g,cap,cur,e,_⟩
 ·omega
 ·cases e
  refine⟨_,rfl,fun j hj=>?_⟩
  rw[Addr.add_lit,Nat.zero_add,h.cellAt j (by omega)]
  exact⟨zs[j]?.getD 0,fk (by omega)⟩
theorem iQ{K:Kst}{mf m:Nat}{W0 W:World}{fs:List FrS}{f:FrS}{st:Int}(g:Mach K mf W0 W (fs ++ [f]) st m)(hK:KOk K)(r:Nat)(hr:r<K.nf)(hck:fQ K f r){sa:Option Addr}{sc n B:Nat}{zs:List Int}(ho:W.ownsRow B 2 1 (.slice sa n sc) n (ao zs))(hD:¬fs.length+1=K.D) :
 Calls Tryz.prog 29 #[.pointer (some ⟨K.Rb,0,none⟩),.int .i64 r,.slice sa n sc] W fun e w'=>e=.returned (.tuple #[])/\∃gs,Mach K mf W0 w' gs st m :=
 (jN g r hr hK.D hK.most (fun e=>absurd e (by simp)) (fun x hx=>by simp at hx;subst hx;exact hck) sa n sc (pZ ho)).mono fun e w' h=>by
  rcases h with⟨h1,_⟩ | ⟨_,h2,fb,h3⟩
  ·simp at h1;omega
  ·exact⟨h2,_,h3⟩
theorem iR{K:Kst}{mf m:Nat}{W0 W:World}{fs:List FrS}{f:FrS}{st:Int}(g:Mach K mf W0 W (fs ++ [f]) st m)(hK:KOk K)(r:Nat)(hr:r<K.nf)(hck:fQ K f r){sa:Option Addr}{sc n B:Nat}{zs:List Int}(ho:W.ownsRow B 2 1 (.slice sa n sc) n (ao zs))(hD:fs.length+1=K.D) :
 Calls Tryz.prog 29 #[.pointer (some ⟨K.Rb,0,none⟩),.int .i64 r,.slice sa n sc] W fun e w'=>e=Over 22/\Mach K mf W0 w' (fs ++ [f]) st m :=
 (jN g r hr hK.D hK.most (fun e=>absurd e (by simp)) (fun x hx=>by simp at hx;subst hx;exact hck) sa n sc (pZ ho)).mono fun e w' h=>by
  rcases h with⟨_,h2,h3⟩ | ⟨h1,_⟩
  ·exact⟨h2,h3⟩
  ·simp at h1;omega
set_option maxRecDepth 100000 in
set_option maxHeartbeats 1600000 in
theorem do_jump{K:Kst}{mf m:Nat}{W0 W:World}{fs:List FrS}{f:FrS}{st:Int}(h:Doing K mf W0 W fs f st m)(bl fi:Nat)(xa:Option Addr)(n xc:Nat)(hw:WayV (K.va f.num) (K.nb f.num) W bl fi (.slice xa n xc))(hi:insK K f=.iface 216 (.agg #[.int .i64 bl,.int .i64 fi,.slice xa n xc])) :
 Calls Tryz.prog 82 #[.pointer (some ⟨K.Rb,0,none⟩),.pointer (some ⟨f.fb,0,none⟩)] W fun e w'=>DoE K mf W0 fs f st m e w':=by
 obtain⟨q,cap,ht,_⟩:=h.g.top
 obtain⟨b1,b2,b3,b4⟩:=h.bounds
 have HI:=zH hi
 have G:=zH h.g
 have HT:=zH ht
 have HH:=zH h
 have HY:=zH hw
 clear hw
 have n_constant:=@bC 216 (by decide) (.agg #[.int .i64 bl,.int .i64 fi,.slice xa n xc])
 have n_binary:=@cw 216 (by decide) (.agg #[.int .i64 bl,.int .i64 fi,.slice xa n xc])
 have n_load:=@dQ 216 (by decide) (.agg #[.int .i64 bl,.int .i64 fi,.slice xa n xc])
 have n_wrap:=@eV 216 (by decide) (.agg #[.int .i64 bl,.int .i64 fi,.slice xa n xc])
 have n_store:=@eH 216 (by decide) (.agg #[.int .i64 bl,.int .i64 fi,.slice xa n xc])
 have n_input:=@fD 216 (by decide) (.agg #[.int .i64 bl,.int .i64 fi,.slice xa n xc])
 have n_output:=@fE 216 (by decide) (.agg #[.int .i64 bl,.int .i64 fi,.slice xa n xc])
 have n_release:=@fX 216 (by decide) (.agg #[.int .i64 bl,.int .i64 fi,.slice xa n xc])
 have n_call:=@ox 216 (by decide) (.agg #[.int .i64 bl,.int .i64 fi,.slice xa n xc])
 have y_jump:=yes_jump (.agg #[.int .i64 bl,.int .i64 fi,.slice xa n xc])
 clear h hi ht
 go_enter Tryz.func82,Tryz.ntmps82
 go_upto_region 31 with(go_at_call 124;refine(ck HT.out ⟨b2,b3⟩).mono ?_;rintro e w1 ⟨rfl,d1,hw1⟩;rw[HI.out];have HW:=zH hw1;clear hw1)
 obtain⟨w2,ew2⟩:∃w2,w2=w1.alloc (.cells #[.int .i64 bl,.int .i64 fi,.slice xa n xc] 216):=⟨_,rfl⟩
 rw[<-ew2]
 obtain⟨g2,ho2,hb2,hB2⟩:=G.out.held HW.out ew2
 have HO2:=zH ho2
 have G2:=zH g2
 obtain⟨y0,y1,y2⟩:=obj3 ho2
 have HY2:=zH (HY.out.chg (X:=fun _=>False) (Chg.of_below hb2) (fun _ _ _ e=>e))
 clear g2 ho2 ew2
 go_wp2_with (go_at_call 132;refine(iP G2.out HH.out.ok.most bl fi _ HY2.out).mono ?_;rintro e w3 ⟨rfl,hg3⟩)
 first | go_end0 | refine bodyPost_ret (results_none rfl _ _ _) rfl ?_
 exact .inl ⟨rfl,_,hg3.more (by omega)⟩
set_option maxRecDepth 100000 in
set_option maxHeartbeats 6400000 in
theorem do_branch{K:Kst}{mf m:Nat}{W0 W:World}{fs:List FrS}{f:FrS}{st:Int}(h:Doing K mf W0 W fs f st m)(a bl fi bl' fi':Nat)(xa:Option Addr)(n xc:Nat)(xa':Option Addr)(n' xc':Nat)(ha:a<K.va f.num)(hw:WayV (K.va f.num) (K.nb f.num) W bl fi (.slice xa n xc))(hw':WayV (K.va f.num) (K.nb f.num) W bl' fi' (.slice xa' n' xc'))(hi:insK K f=.iface 218 (.agg #[.int .i64 a,.int .i64 bl,.int .i64 fi,.slice xa n xc,.int .i64 bl',.int .i64 fi',.slice xa' n' xc'])) :
 Calls Tryz.prog 82 #[.pointer (some ⟨K.Rb,0,none⟩),.pointer (some ⟨f.fb,0,none⟩)] W fun e w'=>DoE K mf W0 fs f st m e w':=by
 obtain⟨q,cap,ht,_⟩:=h.g.top
 obtain⟨b1,b2,b3,b4⟩:=h.bounds
 have HI:=zH hi
 have G:=zH h.g
 have HT:=zH ht
 have HH:=zH h
 have HY:=zH (And.intro hw hw')
 clear hw hw'
 have HD:=zH ha
 clear ha
 have n_constant:=@bC 218 (by decide) (.agg #[.int .i64 a,.int .i64 bl,.int .i64 fi,.slice xa n xc,.int .i64 bl',.int .i64 fi',.slice xa' n' xc'])
 have n_binary:=@cw 218 (by decide) (.agg #[.int .i64 a,.int .i64 bl,.int .i64 fi,.slice xa n xc,.int .i64 bl',.int .i64 fi',.slice xa' n' xc'])
 have n_load:=@dQ 218 (by decide) (.agg #[.int .i64 a,.int .i64 bl,.int .i64 fi,.slice xa n xc,.int .i64 bl',.int .i64 fi',.slice xa' n' xc'])
 have n_wrap:=@eV 218 (by decide) (.agg #[.int .i64 a,.int .i64 bl,.int .i64 fi,.slice xa n xc,.int .i64 bl',.int .i64 fi',.slice xa' n' xc'])
 have n_store:=@eH 218 (by decide) (.agg #[.int .i64 a,.int .i64 bl,.int .i64 fi,.slice xa n xc,.int .i64 bl',.int .i64 fi',.slice xa' n' xc'])
 have n_input:=@fD 218 (by decide) (.agg #[.int .i64 a,.int .i64 bl,.int .i64 fi,.slice xa n xc,.int .i64 bl',.int .i64 fi',.slice xa' n' xc'])
 have n_output:=@fE 218 (by decide) (.agg #[.int .i64 a,.int .i64 bl,.int .i64 fi,.slice xa n xc,.int .i64 bl',.int .i64 fi',.slice xa' n' xc'])
 have n_release:=@fX 218 (by decide) (.agg #[.int .i64 a,.int .i64 bl,.int .i64 fi,.slice xa n xc,.int .i64 bl',.int .i64 fi',.slice xa' n' xc'])
 have n_call:=@ox 218 (by decide) (.agg #[.int .i64 a,.int .i64 bl,.int .i64 fi,.slice xa n xc,.int .i64 bl',.int .i64 fi',.slice xa' n' xc'])
 have n_jump:=@no_jump 218 (by decide) (.agg #[.int .i64 a,.int .i64 bl,.int .i64 fi,.slice xa n xc,.int .i64 bl',.int .i64 fi',.slice xa' n' xc'])
 have y_branch:=rT (.agg #[.int .i64 a,.int .i64 bl,.int .i64 fi,.slice xa n xc,.int .i64 bl',.int .i64 fi',.slice xa' n' xc'])
 clear h hi ht
 go_enter Tryz.func82,Tryz.ntmps82
 go_upto_region 34 with(go_at_call 124;refine(ck HT.out ⟨b2,b3⟩).mono ?_;rintro e w1 ⟨rfl,d1,hw1⟩;rw[HI.out];have HW:=zH hw1;clear hw1)
 obtain⟨w2,ew2⟩:∃w2,w2=w1.alloc (.cells #[.int .i64 a,.int .i64 bl,.int .i64 fi,.slice xa n xc,.int .i64 bl',.int .i64 fi',.slice xa' n' xc'] 218):=⟨_,rfl⟩
 rw[<-ew2]
 obtain⟨g2,ho2,hb2,hB2⟩:=G.out.held HW.out ew2
 have HO2:=zH ho2
 have G2:=zH g2
 have HD2:=HD.out
 have y0:=cell_of_row _ _ 0 _ _ _ ho2
 have y1:=cell_of_row _ _ 1 _ _ _ ho2
 have y2:=cell_of_row _ _ 2 _ _ _ ho2
 have y3:=cell_of_row _ _ 3 _ _ _ ho2
 have y4:=cell_of_row _ _ 4 _ _ _ ho2
 have y5:=cell_of_row _ _ 5 _ _ _ ho2
 have y6:=cell_of_row _ _ 6 _ _ _ ho2
 obtain⟨vg,c2,hva,hvB,hnv,hv,hfz,hset⟩:=g2.vals
 have ha:=HD.out
 have hm:=HH.out.ok.most
 have i_a:(0:Int)<=a/\(a:Int)<K.most:=by omega
 obtain⟨za,hza⟩:=hv a ha
 have HY2:=zH (And.intro (HY.out.1.chg (X:=fun _=>False) ((Chg.of_below hb2).trans (Chg.drew w2)) (fun _ _ _ e=>e)) (HY.out.2.chg (X:=fun _=>False) ((Chg.of_below hb2).trans (Chg.drew w2)) (fun _ _ _ e=>e)))
 have G3:=zH (g2.drewN 1)
 change Hid (Mach _ _ _ (World.drew w2) _ _ _) at G3
 clear g2 ho2 ew2 hv hfz hset hnv
 have HHM:=HH.out.ok.most
 cases hz:za != 0
 ·have HZ9:=zH hz
  clear hz
  go_region_with (first | (go_at_call 133;refine(way_no _ _ _ _ _ _ _ _ _ _ _ _ _ HZ9.out).mono ?_;rintro e w3 ⟨rfl,hb3⟩;have G4:=zH (G3.out.on hb3);have HY3:=zH (HY2.out.2.chg (X:=fun _=>False) (Chg.of_below hb3) (fun _ _ _ e=>e));clear hb3) | (go_at_call 132;refine(iP G4.out HHM _ _ _ HY3.out).mono ?_;rintro e w4 ⟨rfl,hg4⟩))
  all_goals (
   go_wp2_with fail
   first | go_end0 | refine bodyPost_ret (results_none rfl _ _ _) rfl ?_
   exact .inl ⟨rfl,_,hg4.more (by omega)⟩)
 ·have HZ9:=zH hz
  clear hz
  go_region_with (first | (go_at_call 133;refine(way_yes _ _ _ _ _ _ _ _ _ _ _ _ _ HZ9.out).mono ?_;rintro e w3 ⟨rfl,hb3⟩;have G4:=zH (G3.out.on hb3);have HY3:=zH (HY2.out.1.chg (X:=fun _=>False) (Chg.of_below hb3) (fun _ _ _ e=>e));clear hb3) | (go_at_call 132;refine(iP G4.out HHM _ _ _ HY3.out).mono ?_;rintro e w4 ⟨rfl,hg4⟩))
  all_goals (
   go_wp2_with fail
   first | go_end0 | refine bodyPost_ret (results_none rfl _ _ _) rfl ?_
   exact .inl ⟨rfl,_,hg4.more (by omega)⟩)
end
end Go.Proofs.YtjngffgkllakaaaGreatDoor.IP
