/- A part of a proof: laws that the last text uses. -/
import Derived.Test.YtjngffgkllakaaaGreatDoorZ02
import Derived.Test.YtjngffgkllakaaaGreatDoorZ05
import Derived.StillTailTactics
import Derived.Laws.OwnMore
set_option linter.unusedSimpArgs false
set_option linter.unusedVariables false
namespace Go.Proofs.YtjngffgkllakaaaGreatDoor
open List renaming getElem_toArray → zA, getElem_cons_succ → zB, getElem_cons_zero → zC, setIfInBounds_toArray → zD, set_cons_zero → zE, set_cons_succ → zF
open Lib renaming hid → zH
section
open Go.RowKit
structure NewRow (wr w1:World) (v:Value) (row:List Int):Prop where
 below:Below wr.heap.size wr w1
 own:w1.ownsRow wr.heap.size 3 1 v row.length (ap row)
theorem NewRow.first{wr w1:World}{o:Obj}{o2:Obj}{v:Value}{x:Int}(ho:w1.ownsRow wr.heap.size 3 1 v (0+1) ([] ++ [.int .i64 x]))(hg:((wr.alloc o).alloc o2).grownBy w1 (Value.slice none 0 0).ownBlock):NewRow wr w1 v [x] :=
 ⟨(((Below.refl _ _).alloc (Nat.le_refl _) _).alloc (by simp) _).grown hg (by simp;omega) (fun k e=>by cases e),ho⟩
theorem NewRow.next{wr w1 w2:World}{o:Obj}{v v2:Value}{x y:Int}(h:NewRow wr w1 v [x])(ho:w2.ownsRow wr.heap.size 3 1 v2 (1+1) ([.int .i64 x] ++ [.int .i64 y]))(hg:(w1.alloc o).grownBy w2 v.ownBlock):NewRow wr w2 v2 [x,y] :=
 ⟨(h.below.alloc h.below.size _).grown hg (by have:=h.below.size;simp;omega) (fun k e=>(h.own.lt k e).1),ho⟩
theorem NewRow.none{wr:World}(o:Obj):NewRow wr (wr.alloc o) (.slice none 0 0) []:=⟨(Below.refl _ _).alloc (Nat.le_refl _) _,World.ownsRow_nil _ _ _ _⟩
theorem NewRow.out{B n:Nat}{wr w1:World}{v u:Value}{row:List Int}{vs:List Value}(h:NewRow wr w1 v row)(hO:wr.ownsRow B 54 1 u n vs):w1.ownsRow B 54 1 u n vs :=
 hO.kept (row:=Option.none) ⟨h.below.os,h.below.tape,h.below.output,h.below.size,fun k hk _=>h.below.block k hk⟩ (own_em0 _)
theorem NewRow.app{B n:Nat}{W wr w1 w2:World}{u v2:Value}{row:List Int}{vs:List Value}{to:List (List Int)}{a:Option Addr}{cap:Nat}{o:Obj}(h:NewRow wr w1 (.slice a row.length cap) row)(hB:Below B W wr)(hs:B<=wr.heap.size)(hR:GG.Rows B wr vs to)(hO:wr.ownsRow B 54 1 u n vs)
 (ho:w2.ownsRow B 54 1 v2 (n+1) (vs ++ [.slice a row.length cap])) (hg:(w1.alloc o).grownBy w2 u.ownBlock) :
 w2.ownsRow B 54 1 v2 (n+1) (vs ++ [.slice a row.length cap])/\GG.Rows B w2 (vs ++ [.slice a row.length cap]) (to ++ [row])/\Below B W w2 :=
 qm (hB.trans (h.below.mono hs)) (Nat.le_trans hs h.below.size) (GG.Rows.grown hR (b:=Option.none) ⟨h.below.os,h.below.tape,h.below.output,h.below.size,fun k hk _=>h.below.block k hk⟩ (fun k e=>by cases e)) (h.out hO) (dQ hs h.own) ho hg
theorem gQ(w:World)(v:Value)(t:TypeId){b:Nat}(h:w.heap.size=b):∀(j:Nat) (u:Value),[v][j]?=some u->(w.alloc (.cells #[v] t)).cell? ((⟨b,0,Option.none⟩:Addr).add j)=some u:=by
 subst h;exact GG.aW w v t
theorem eK{wr w1:World}{o o2:Obj}(hg:((wr.alloc o).alloc o2).grownBy w1 (Value.slice none 0 0).ownBlock)(c:Nat){u:Value}(h:(wr.alloc o).cell? ⟨wr.heap.size,c,Option.none⟩=some u):w1.cell? ⟨wr.heap.size,c,Option.none⟩=some u:=by
 rw[<-h]
 unfold World.cell?
 rw[hg.block wr.heap.size (by simp;omega) (by intro e;cases e),heap_alloc_old _ _ (by simp)]
set_option maxRecDepth 100000 in
set_option maxHeartbeats 3200000 in
theorem rof_any{v:Value}{bs:List (List OpV)}(x y:Int)(W:World)(hv:cl W.heap.size W v bs)(hl:bs.length<=4294967296)(hll:∀b∈bs,b.length<=17592186044416) :
 Calls Tryz.prog 67 #[.agg #[.int .i64 x,.int .i64 y,v]] W fun e W'=>OfP bs e W W':=by
 have hz:=fun(w:World)=>lP w
 obtain⟨va,vc,rfl⟩:=hv.form
 obtain⟨j0,hj0,hy0,hy1,hy2⟩:=info_parts Tryz.infoGRow
 obtain⟨i0,hi0,hz0,hz1,hz2⟩:=info_parts Tryz.infoGInt
 obtain⟨W0,eW0⟩:∃W0,W0=W.alloc (.cells #[.int .i64 x,.int .i64 y,.slice va bs.length vc] 52):=⟨_,rfl⟩
 have HB0:=zH (show Below W.heap.size W W0 by rw[eW0];exact(Below.refl _ _).alloc (Nat.le_refl _) _)
 have HV0:=zH (hv.on HB0.out HB0.out.size)
 have HC0:=zH (show W0.cell? ⟨W.heap.size,2,none⟩=some (.slice va bs.length vc) by rw[eW0];simp only[World.cell?,heap_alloc_new];rfl)
 have HW0:=zH (show W.heap.size<W0.heap.size by rw[eW0];simp)
 have HLL:=zH (fun i (hi:i<bs.length)=>hll _ (GG.bn (d:=[]) hi))
 have EW0:=zH eW0
 clear hv hll eW0
 go_enter Tryz.func67,Tryz.ntmps67
 go_wp2_with fail
 rw[<-EW0.out]
 go_loopw [4,5] (fun o k wr=>∃(i:Nat) (vs:List Value),i<=bs.length/\k=.int .i64 (i:Int)/\wr.ownsRow W0.heap.size 54 1 o i vs/\GG.Rows W0.heap.size wr vs (cN bs i)/\Below W0.heap.size W0 wr/\RowKit.Hid (∀j,j<i->(bu (bs[j]?.getD [])).isSome=true)) (fun _ k _=>bs.length-(intOf k).toNat)
 case atStart=>exact⟨0,[],Nat.zero_le _,rfl,World.ownsRow_nil _ _ _ _,GG.Rows.nil _ _,Below.refl _ _,zH (fun j hj=>absurd hj (Nat.not_lt_zero _))⟩
 case round =>
  obtain⟨i,vs,hi,rfl,hO,hR,hB,HOK⟩:=hrel
  have HO:=zH hO
  have HR:=zH hR
  have HB:=zH hB
  have hx0:wr.cell? ⟨W.heap.size,2,none⟩=some (.slice va bs.length vc):=(HB.out.cell (p:=⟨W.heap.size,2,none⟩) HW0.out).trans HC0.out
  clear hO hR hB
  by_cases hlt:i<bs.length
  ·obtain⟨vb,vo,ba,bc,e1,hvb,hx1,hops⟩:=(HV0.out.below HB.out).at hlt
   subst e1
   have i1:(0:Int)<=i/\(i:Int)<bs.length:=by omega
   have b1:=HLL.out i hlt
   have HWS:=zH (lO hlt)
   have HNO:=zH (fun h=>okI_no hlt h)
   obtain⟨r,er⟩:∃r,r=bs[i]?.getD []:=⟨_,rfl⟩
   rw[<-er] at hx1 hops b1 HWS HNO
   have HER:=zH er
   by_cases h0:r.length=0
   ·have HN:=zH (oZ (HNO.out (by rw[List.length_eq_zero_iff.1 h0];rfl)))
    clear er hops
    go_wp2_with fail
    go_ret2
    exact⟨_,by rw[HN.out.1];rfl,by rw[HN.out.2];exact eD _ _,HB0.out.trans (HB.out.mono HB0.out.size)⟩
   ·obtain⟨p,hp⟩:∃p,r.length=p+1:=⟨r.length-1,by omega⟩
    obtain⟨blk,off,cap,q,e2,hbk,hlast,hc⟩:=hops.last hp
    rw[hp] at e2 hx1
    cases e2
    have hbw:=hbk
    have HL:=zH (iz hlast)
    have HC:=zH hc
    have h1:=iV wr q 0 rfl
    have h2:=iV wr q 3 rfl
    have h3:=iV wr q 4 rfl
    have HQ2:=zH h2
    have HQ3:=zH h3
    have HQ1:=zH h1
    have hpb:p<=17592186044416:=by omega
    have HS:=zH (show (bu r).isSome=true->∀j,j<i+1->(bu (bs[j]?.getD [])).isSome=true from fun hs j hj=>(Nat.lt_succ_iff_lt_or_eq.1 hj).elim (HOK.out j) (fun e=>by rw[e,<-HER.out];exact hs))
    clear hc hlast h0 er hops hbw
    by_cases klo:q.k<11
    ·have HN:=zH (oZ (HNO.out (by rw[HL.out,if_neg (by omega),if_neg (by omega),if_neg (by omega)])))
     go_wp2_with (first
      | (refine bD rfl (.tmp 31) rfl blk (off+p*9) rfl q (fun c u hu=>HC.out c u hu) ?_)
      | (refine wpList_store_row rfl 56 (.tmp 7) (.tmp 32) rfl _ (aF q).toArray rfl rfl 56 zop (heap_alloc_new _ _) (by kernel_rfl) rfl (fj q) ?_
         rw[bF]))
     go_ret2
     exact⟨_,by rw[HN.out.1];rfl,by rw[HN.out.2];exact eD _ _,HB0.out.trans ((HB.out.alloc HB.out.size _).mono HB0.out.size)⟩
    ·by_cases khi:13<q.k
     ·have HN:=zH (oZ (HNO.out (by rw[HL.out,if_neg (by omega),if_neg (by omega),if_neg (by omega)])))
      go_wp2_with (first
       | (refine bD rfl (.tmp 31) rfl blk (off+p*9) rfl q (fun c u hu=>HC.out c u hu) ?_)
       | (refine wpList_store_row rfl 56 (.tmp 7) (.tmp 32) rfl _ (aF q).toArray rfl rfl 56 zop (heap_alloc_new _ _) (by kernel_rfl) rfl (fj q) ?_
          rw[bF]))
      go_ret2
      exact⟨_,by rw[HN.out.1];rfl,by rw[HN.out.2];exact eD _ _,HB0.out.trans ((HB.out.alloc HB.out.size _).mono HB0.out.size)⟩
     ·have hko:q.k=13∨q.k=11∨q.k=12:=by omega
      rcases hko with k13 | k11 | k12
      ·have HE:=zH (show bu r=some [] by rw[HL.out,if_pos k13])
       have HF:=zH (NewRow.none (wr:=wr) (.cells (aF q).toArray 56))
       go_wp2_with (first
        | (refine bD rfl (.tmp 31) rfl blk (off+p*9) rfl q (fun c u hu=>HC.out c u hu) ?_)
        | (refine wpList_store_row rfl 56 (.tmp 7) (.tmp 32) rfl _ (aF q).toArray rfl rfl 56 zop (heap_alloc_new _ _) (by kernel_rfl) rfl (fj q) ?_
           rw[bF])
        | (at_builtin
           refine GG.wpList_append_any rfl _ _ 32 rfl W0.heap.size 54 j0 (.slice none 0 0) 1 24 Tryz.underlying32 hj0 hy0 hy1 hy2 rfl (by decide) u4 i vs rfl ((HF.out.out HO.out).alloc _) (.slice (some ⟨_,0,none⟩) 1 1) 1 [.slice none 0 0] rfl rfl (.inr ⟨_,_,rfl,gQ _ _ _ (by simp)⟩) (by intro u hu;rw[List.mem_singleton.1 hu];rfl) (by unfold maxLen;omega) (by omega) (by have h1:=HB.out.size;have h2:=HF.out.below.size;simp at h2 ⊢;omega) ?_
           intro v2 w2 ho hg
           have HD:=zH (HF.out.app (row:=[]) HB.out HB.out.size HR.out HO.out ho hg)
           clear ho hg))
       go_roundw
       case rel=>exact⟨i+1,_,by omega,by go_num,HD.out.1,by rw[<-HWS.out,HE.out];exact HD.out.2.1,HD.out.2.2,zH (HS.out (by rw[HE.out];rfl))⟩
       case measure=>simp [intOf];omega
      ·have HE:=zH (show bu r=some [q.r] by rw[HL.out,if_neg (by omega),if_pos k11])
       go_wp2_with (first
        | (refine bD rfl (.tmp 31) rfl blk (off+p*9) rfl q (fun c u hu=>HC.out c u hu) ?_)
        | (refine wpList_store_row rfl 56 (.tmp 7) (.tmp 32) rfl _ (aF q).toArray rfl rfl 56 zop (heap_alloc_new _ _) (by kernel_rfl) rfl (fj q) ?_
           rw[bF])
        | (at_builtin
           refine GG.wpList_append_any rfl _ _ 54 rfl wr.heap.size 3 i0 (.int .i64 0) 1 8 Tryz.underlying54 hi0 hz0 hz1 hz2 rfl (by decide) (.slice none 0 0) 0 [] rfl (World.ownsRow_nil _ _ _ _) (.slice (some ⟨_,0,none⟩) 1 1) 1 [.int .i64 q.r] rfl rfl (.inr ⟨_,_,rfl,gQ _ _ _ (by simp)⟩) (by intro u hu;rw[List.mem_singleton.1 hu];rfl) (by unfold maxLen;omega) (by omega) (by simp;omega) ?_
           intro v1 w1 ho hg
           obtain⟨a1,c1,rfl⟩:=GG.aI ho
           have HF:=zH (NewRow.first ho hg)
           have g1:=eK hg 0 HQ1.out
           clear ho hg)
        | (at_builtin
           refine GG.wpList_append_any rfl _ _ 32 rfl W0.heap.size 54 j0 (.slice none 0 0) 1 24 Tryz.underlying32 hj0 hy0 hy1 hy2 rfl (by decide) u4 i vs rfl ((HF.out.out HO.out).alloc _) (.slice (some ⟨_,0,none⟩) 1 1) 1 [.slice a1 1 c1] rfl rfl (.inr ⟨_,_,rfl,GG.aW _ _ _⟩) (by intro u hu;rw[List.mem_singleton.1 hu];rfl) (by unfold maxLen;omega) (by omega) (by have h1:=HB.out.size;have h2:=HF.out.below.size;simp at h2 ⊢;omega) ?_
           intro v2 w2 ho hg
           have HD:=zH (HF.out.app (row:=[q.r]) HB.out HB.out.size HR.out HO.out ho hg)
           clear ho hg))
       go_roundw
       case rel=>exact⟨i+1,_,by omega,by go_num,HD.out.1,by rw[<-HWS.out,HE.out];exact HD.out.2.1,HD.out.2.2,zH (HS.out (by rw[HE.out];rfl))⟩
       case measure=>simp [intOf];omega
      ·have LD:=zH HL.out
       by_cases hra:q.r=q.a
       ·have HE:=zH (show bu r=some [q.r] by rw[HL.out,if_neg (by omega),if_neg (by omega),if_pos k12,if_pos hra])
        have t4:(q.a == q.r)=true:=beq_iff_eq.2 hra.symm
        clear hra
        go_wp2_with (first
         | (refine bD rfl (.tmp 31) rfl blk (off+p*9) rfl q (fun c u hu=>HC.out c u hu) ?_)
         | (refine wpList_store_row rfl 56 (.tmp 7) (.tmp 32) rfl _ (aF q).toArray rfl rfl 56 zop (heap_alloc_new _ _) (by kernel_rfl) rfl (fj q) ?_
            rw[bF])
         | (at_builtin
            refine GG.wpList_append_any rfl _ _ 54 rfl wr.heap.size 3 i0 (.int .i64 0) 1 8 Tryz.underlying54 hi0 hz0 hz1 hz2 rfl (by decide) (.slice none 0 0) 0 [] rfl (World.ownsRow_nil _ _ _ _) (.slice (some ⟨_,0,none⟩) 1 1) 1 [.int .i64 q.r] rfl rfl (.inr ⟨_,_,rfl,gQ _ _ _ (by simp)⟩) (by intro u hu;rw[List.mem_singleton.1 hu];rfl) (by unfold maxLen;omega) (by omega) (by simp;omega) ?_
            intro v1 w1 ho hg
            obtain⟨a1,c1,rfl⟩:=GG.aI ho
            have HF:=zH (NewRow.first ho hg)
            have g1:=eK hg 0 HQ1.out
            have g2:=eK hg 3 HQ2.out
            have g3:=eK hg 4 HQ3.out
            clear ho hg)
         | (at_builtin
            refine GG.wpList_append_any rfl _ _ 32 rfl W0.heap.size 54 j0 (.slice none 0 0) 1 24 Tryz.underlying32 hj0 hy0 hy1 hy2 rfl (by decide) u4 i vs rfl ((HF.out.out HO.out).alloc _) (.slice (some ⟨_,0,none⟩) 1 1) 1 [.slice a1 1 c1] rfl rfl (.inr ⟨_,_,rfl,GG.aW _ _ _⟩) (by intro u hu;rw[List.mem_singleton.1 hu];rfl) (by unfold maxLen;omega) (by omega) (by have h1:=HB.out.size;have h2:=HF.out.below.size;simp at h2 ⊢;omega) ?_
            intro v2 w2 ho hg
            have HD:=zH (HF.out.app (row:=[q.r]) HB.out HB.out.size HR.out HO.out ho hg)
            clear ho hg))
        go_roundw
        case rel=>exact⟨i+1,_,by omega,by go_num,HD.out.1,by rw[<-HWS.out,HE.out];exact HD.out.2.1,HD.out.2.2,zH (HS.out (by rw[HE.out];rfl))⟩
        case measure=>simp [intOf];omega
       ·have hra2:¬q.a=q.r:=fun e=>hra e.symm
        have HE:=zH (show bu r=some [q.r,q.a] by rw[HL.out,if_neg (by omega),if_neg (by omega),if_pos k12,if_neg hra])
        go_wp2_with (first
         | (refine bD rfl (.tmp 31) rfl blk (off+p*9) rfl q (fun c u hu=>HC.out c u hu) ?_)
         | (refine wpList_store_row rfl 56 (.tmp 7) (.tmp 32) rfl _ (aF q).toArray rfl rfl 56 zop (heap_alloc_new _ _) (by kernel_rfl) rfl (fj q) ?_
            rw[bF])
         | (at_builtin
            refine GG.wpList_append_any rfl _ _ 54 rfl wr.heap.size 3 i0 (.int .i64 0) 1 8 Tryz.underlying54 hi0 hz0 hz1 hz2 rfl (by decide) (.slice none 0 0) 0 [] rfl (World.ownsRow_nil _ _ _ _) (.slice (some ⟨_,0,none⟩) 1 1) 1 [.int .i64 q.r] rfl rfl (.inr ⟨_,_,rfl,gQ _ _ _ (by simp)⟩) (by intro u hu;rw[List.mem_singleton.1 hu];rfl) (by unfold maxLen;omega) (by omega) (by simp;omega) ?_
            intro v1 w1 ho hg
            obtain⟨a1,c1,rfl⟩:=GG.aI ho
            have HF:=zH (NewRow.first ho hg)
            have g1:=eK hg 0 HQ1.out
            have g2:=eK hg 3 HQ2.out
            have g3:=eK hg 4 HQ3.out
            clear ho hg)
         | (at_builtin
            refine GG.wpList_append_any rfl _ _ 54 rfl wr.heap.size 3 i0 (.int .i64 0) 1 8 Tryz.underlying54 hi0 hz0 hz1 hz2 rfl (by decide) (.slice a1 1 c1) 1 [.int .i64 q.r] rfl (HF.out.own.alloc _) (.slice (some ⟨_,0,none⟩) 1 1) 1 [.int .i64 q.a] rfl rfl (.inr ⟨_,_,rfl,GG.aW _ _ _⟩) (by intro u hu;rw[List.mem_singleton.1 hu];rfl) (by unfold maxLen;omega) (by omega) (by have h2:=HF.out.below.size;simp at h2 ⊢;omega) ?_
            intro v3 w3 ho hg
            obtain⟨a3,c3,rfl⟩:=GG.aI ho
            have HF2:=zH (HF.out.next ho hg)
            clear ho hg)
         | (at_builtin
            refine GG.wpList_append_any rfl _ _ 32 rfl W0.heap.size 54 j0 (.slice none 0 0) 1 24 Tryz.underlying32 hj0 hy0 hy1 hy2 rfl (by decide) u4 i vs rfl ((HF2.out.out HO.out).alloc _) (.slice (some ⟨_,0,none⟩) 1 1) 1 [.slice a3 2 c3] rfl rfl (.inr ⟨_,_,rfl,GG.aW _ _ _⟩) (by intro u hu;rw[List.mem_singleton.1 hu];rfl) (by unfold maxLen;omega) (by omega) (by have h1:=HB.out.size;have h2:=HF2.out.below.size;simp at h2 ⊢;omega) ?_
            intro v2 w2 ho hg
            have HD:=zH (HF2.out.app (row:=[q.r,q.a]) HB.out HB.out.size HR.out HO.out ho hg)
            clear ho hg))
        go_roundw
        case rel=>exact⟨i+1,_,by omega,by go_num,HD.out.1,by rw[<-HWS.out,HE.out];exact HD.out.2.1,HD.out.2.2,zH (HS.out (by rw[HE.out];rfl))⟩
        case measure=>simp [intOf];omega
  ·have hie:i=bs.length:=by omega
   have HOKB:=zH (pd (oX fun j hj=>HOK.out j (by omega)))
   have HG:=zH (show aq wr.heap.size wr u4 (cN bs bs.length) by
    have h1:=HR.out
    have h2:=HO.out
    rw[hie] at h1 h2
    have h3:(cN bs bs.length).length=bs.length:=kB (Nat.le_refl _)
    exact h1.graph (by rw[h3];exact h2))
   have HSM:=zH (ld (Nat.le_refl bs.length) (by omega))
   clear HO HR
   cases hr:GG.al (cN bs bs.length)
   ·have HRI:=zH hr
    have HF:=zH (show ofB bs=false/\ofL bs=[] from⟨by rw[HOKB.out,hr],by unfold ofL;rw[if_neg (by rw[HOKB.out,hr];simp)]⟩)
    clear hr hie
    go_wp2_with (go_at_call 47;refine(dJ _ (cN bs bs.length) _ _ HG.out HSM.out).mono ?_;rintro e w' ⟨rfl,d,rfl⟩;rw[HRI.out])
    go_ret2
    exact⟨_,by rw[HF.out.1];rfl,by rw[HF.out.2];exact eD _ _,HB0.out.trans ((gI HB.out d).mono HB0.out.size)⟩
   ·have HRI:=zH hr
    have HF:=zH (show ofB bs=true/\ofL bs=cN bs bs.length from⟨by rw[HOKB.out,hr],by unfold ofL;rw[if_pos (by rw[HOKB.out,hr])]⟩)
    clear hr hie
    go_wp2_with (go_at_call 47;refine(dJ _ (cN bs bs.length) _ _ HG.out HSM.out).mono ?_;rintro e w' ⟨rfl,d,rfl⟩;have HG1:=zH (HG.out.on (gI (Below.refl wr.heap.size wr) d) (Nat.le_refl _));rw[HRI.out])
    go_ret2
    exact⟨_,by rw[HF.out.1];rfl,by rw[HF.out.2];exact HG1.out,HB0.out.trans ((gI HB.out d).mono HB0.out.size)⟩
end
section
open Go.RowKit
open CD (OpP BodyP CodeP aj blAt fnAt)
set_option maxHeartbeats 1600000 in
theorem sort_own(zs:List Int)(B:Nat)(va:Option Addr)(vc:Nat)(w1:World)(ho:w1.ownsRow B 3 1 (.slice va zs.length vc) zs.length (ap zs))(hl:zs.length<=100000)(hB:B<=w1.heap.size) :
 Calls Tryz.prog 33 #[.slice va zs.length vc] w1 fun e w2=>e=.returned (.tuple #[])/\w2.ownsRow B 3 1 (.slice va zs.length vc) zs.length (ap (dX zs))/\Below B w1 w2:=by
 rcases ho.2 with⟨h0,hz⟩ | ⟨g,cap,cur,h0,hbase,hgb,r1,r2,r3,r4⟩
 ·have e0:zs=[]:=List.eq_nil_of_length_eq_zero hz
  subst e0
  refine(show Calls Tryz.prog 33 #[.slice va ([]:List Int).length vc] w1 fun e w'=>e=.returned (.tuple #[])/\w'=w1 from Tryz.slices_Sort_int_none va vc w1).mono ?_
  rintro e w2 ⟨rfl,rfl⟩
  exact⟨rfl,by rw[show dX []=[] from List.eq_nil_of_length_eq_zero (eI [])];exact ho,Below.refl _ _⟩
 ·cases h0
  refine(Tryz.slices_Sort_int g 0 vc zs w1 (holds_of_blockI hgb (by simpa [ap] using r4)) (Array.getElem?_eq_some_iff.1 hgb).1 (by omega)).mono ?_
  rintro e w2 ⟨rfl,nn,os,rfl⟩
  exact⟨rfl,ownsRow_sortedI (by simp) hbase hgb r1 r2 r3,(Below.refl B w1).grown (grownBy_sortedI _) hB (fun j hj=>by cases hj;exact hbase)⟩
theorem te{W:World}{B e g n m cap:Nat}{xs ys:List Value}(h:W.ownsRow B e 1 (.slice (some ⟨g,0,none⟩) n cap) n (xs ++ ys))(hm:xs.length=m)(hmn:m<=n):W.ownsRow B e 1 (.slice (some ⟨g,0,none⟩) m cap) m xs:=by
 rcases h.2 with⟨h0,_⟩ | ⟨g',cap',cur,h0,hbase,hgb,r1,r2,r3,r4⟩
 ·cases h0
 ·cases h0
  refine⟨by rw[hm,Nat.mul_one],.inr ⟨g,cap,cur,rfl,hbase,hgb,by omega,r2,r3,?_⟩⟩
  have h1:cur.toList.take (n*1)=xs ++ ys:=r4
  have h2:cur.toList.take m=(cur.toList.take (n*1)).take m:=by rw[List.take_take,Nat.min_eq_left (by omega)]
  rw[Nat.mul_one,h2,h1,<-hm,List.take_left]
theorem qQ(zs:List Int)(B:Nat)(va:Option Addr)(vc:Nat)(w1:World)(ho:w1.ownsRow B 3 1 (.slice va zs.length vc) zs.length (ap zs))(hl:zs.length<=100000)(hB:B<=w1.heap.size) :
 Calls Tryz.prog 34 #[.slice va zs.length vc] w1 fun e w2=>∃v,e=.returned v/\w2.ownsRow B 3 1 v (Go.Lib.compact zs).length (ap (Go.Lib.compact zs))/\Below B w1 w2:=by
 rcases ho.2 with⟨h0,hz⟩ | ⟨g,cap,cur,h0,hbase,hgb,r1,r2,r3,r4⟩
 ·have e0:zs=[]:=List.eq_nil_of_length_eq_zero hz
  subst e0
  refine(show Calls Tryz.prog 34 #[.slice va ([]:List Int).length vc] w1 fun e w'=>e=.returned (.slice va 0 vc)/\w'=w1 from Tryz.slices_Compact_int_empty va vc w1).mono ?_
  rintro e w2 ⟨rfl,rfl⟩
  exact⟨_,rfl,ho,Below.refl _ _⟩
 ·cases h0
  refine(Tryz.slices_Compact_int g 0 vc zs w1 (holds_of_blockI hgb (by simpa [ap] using r4)) (by omega) r1).mono ?_
  rintro e w2 ⟨rfl,nn,hw2⟩
  have hle:(Go.Lib.compact zs).length<=zs.length:=Go.Lib.compact_length_le zs
  have h1:w2.ownsRow B 3 1 (.slice (some ⟨g,0,none⟩) zs.length vc) zs.length ((Go.Lib.compact zs ++ List.replicate (zs.length-(Go.Lib.compact zs).length) 0).map (Value.int .i64)):=by
   have h2:=ownsRow_sortedI (n:=nn) (os:=#[]) (ss:=zs) (ts:=Go.Lib.compact zs ++ List.replicate (zs.length-(Go.Lib.compact zs).length) 0) (base:=B) (e:=3) (by simp;omega) hbase hgb r1 r2 r3
   rw[Go.Sort.grow_empty] at h2
   rw[hw2]
   exact h2
  rw[List.map_append] at h1
  refine⟨_,rfl,te (m:=(Go.Lib.compact zs).length) h1 (List.length_map _) hle,?_⟩
  have h3:=grownBy_sortedI (w:=w1) (g:=g) (n:=nn) (os:=#[]) (Go.Lib.compact zs ++ List.replicate (zs.length-(Go.Lib.compact zs).length) 0).toArray
  rw[Go.Sort.grow_empty] at h3
  rw[hw2]
  exact(Below.refl B w1).grown h3 hB (fun j hj=>by cases hj;exact hbase)
set_option maxRecDepth 100000 in
set_option maxHeartbeats 6400000 in
theorem tg{n₀:Nat}(b:BodyP)(hk:∀k,k<b.bs.length->(blAt b k).length<=300)(hbl:b.bs.length<=100)(ba:Option Addr)(bc:Nat)(w:World)(hn:n₀<=w.heap.size)(hM:aU n₀ w (.slice ba b.bs.length bc) b.bs) :
 Calls Tryz.prog 17 #[.agg #[.int .i64 b.pa,.int .i64 b.va,.slice ba b.bs.length bc]] w fun e w'=>∃v,e=.returned v/\w'.ownsRow w.heap.size 3 1 v (ic b).length (ap (ic b))/\Below w.heap.size w w':=by
 have HM:=zH hM
 have HK:=zH hk
 have HN:=zH hn
 obtain⟨i0,hi0,hy0,hy1,hy2⟩:=info_parts Tryz.infoGInt
 obtain⟨w1,ew1⟩:∃w1,w1=w.alloc (.cells #[.int .i64 b.pa,.int .i64 b.va,.slice ba b.bs.length bc] 52):=⟨_,rfl⟩
 have HB1:=zH (show Below w.heap.size w w1 by rw[ew1];exact(Below.refl _ _).alloc (Nat.le_refl _) _)
 have EW:=zH ew1
 have hsz:w1.heap.size=w.heap.size+1:=by rw[ew1,World.size_alloc]
 have HSZ:=zH hsz
 have HM1:=zH (hM.below (HB1.out.mono hn))
 have hgo:∀(a:Option Addr) (c:Nat),ba=a->bc=c->True:=fun _ _ _ _=>trivial
 clear hM hk hn ew1 hgo hsz
 go_enter Tryz.func17,Tryz.ntmps17
 go_wp2_with fail
 rw[<-EW.out]
 go_loopw [3,11] (fun s3 s11 wr=>∃i:Nat,i<=b.bs.length/\s11=.int .i64 (i:Int)/\RowKit.Hid (wr.ownsRow w1.heap.size 3 1 s3 (dx b i).length (ap (dx b i))/\Below w1.heap.size w1 wr)) (fun _ s11 _=>b.bs.length-(intOf s11).toNat)
 case atStart=>exact⟨0,Nat.zero_le _,rfl,zH ⟨World.ownsRow_nil _ _ _ _,Below.refl _ _⟩⟩
 case round =>
  obtain⟨w5,rfl⟩:∃w5,w5=wr:=⟨_,rfl⟩
  obtain⟨i,hi,rfl,HI⟩:=hrel
  obtain⟨oa,oc,rfl⟩:=GG.aI HI.out.1
  have HRL:=zH (nN b HK.out i hi)
  by_cases hlt:i<b.bs.length
  ·obtain⟨bb,bo,la,lc,eba,hbb,hcell,hops⟩:=(HM1.out.below (HI.out.2.mono (Nat.le_trans HN.out HB1.out.size))).at hlt
   subst eba
   have HOPS:=zH hops
   have hln:=HK.out i hlt
   have HLT:=zH hlt
   have i1:(0:Int)<=i/\(i:Int)<b.bs.length:=by omega
   have HBA:=zH (show b.bs[i]?.getD []=blAt b i from rfl)
   rw[HBA.out] at hcell HOPS
   have HRS:=zH (ju hlt)
   obtain⟨l,el⟩:∃l,l=blAt b i:=⟨_,rfl⟩
   rw[<-el] at hcell HOPS hln HRS
   have HEL:=zH el
   obtain⟨rs,ers⟩:∃rs,rs=dx b i:=⟨_,rfl⟩
   rw[<-ers] at HI HRS HRL ⊢
   clear el hops hlt ers
   go_wp2_with fail
   clear hcell
   go_loopw [3,17] (fun s3 s17 wr=>∃j:Nat,j<=l.length/\s17=.int .i64 (j:Int)/\RowKit.Hid (wr.ownsRow w1.heap.size 3 1 s3 (rs ++ dr l j).length (ap (rs ++ dr l j))/\Below w1.heap.size w5 wr)) (fun _ s17 _=>l.length-(intOf s17).toNat)
   case atStart=>exact⟨0,Nat.zero_le _,rfl,zH ⟨by rw[show dr l 0=[] from rfl,List.append_nil];exact HI.out.1,Below.refl _ _⟩⟩
   case round =>
    obtain⟨w6,rfl⟩:∃w6,w6=wr:=⟨_,rfl⟩
    obtain⟨j,hj,rfl,HJ⟩:=hrel
    obtain⟨pa,pc,rfl⟩:=GG.aI HJ.out.1
    have hlj:=nM l j
    have hrl:=HRL.out
    by_cases hjt:j<l.length
    ·obtain⟨blk,off,xa,xc,ya,yc,ela,hblk,⟨x0,x1,x2,x3,x4,x5,x6,x7,x8⟩,_,_⟩:=dK (HOPS.out.below (HJ.out.2.mono (Nat.le_trans HN.out HB1.out.size))) hjt
     subst ela
     have HJT:=zH hjt
     have HLS:=zH (mh hjt)
     have i2:(0:Int)<=j/\(j:Int)<l.length:=by omega
     have HO:=zH HJ.out.1
     have HB:=zH HJ.out.2
     have HSB:=zH (show w1.heap.size<=w6.heap.size from Nat.le_trans HI.out.2.size HJ.out.2.size)
     have hnl:(rs ++ dr l j).length<=40000:=by rw[List.length_append];omega
     obtain⟨xs,exs⟩:∃xs,xs=rs ++ dr l j:=⟨_,rfl⟩
     rw[<-exs] at HO hnl ⊢
     have HXS:=zH exs
     clear exs hjt hlj hrl
     by_cases h7:(aj l j).k=7
     ·have t1:((aj l j).k == 7)=true:=beq_iff_eq.2 h7
      have HNX:=zH (show rs ++ dr l (j+1)=xs ++ [(aj l j).r] by rw[HLS.out,if_pos h7,HXS.out,List.append_assoc])
      clear h7
      go_wp2_with (at_builtin
                   refine GG.wpList_append_any rfl _ _ 54 rfl w1.heap.size 3 i0 (.int .i64 0) 1 8 Tryz.underlying54 hi0 hy0 hy1 hy2 rfl (by decide) (.slice pa xs.length pc) xs.length (ap xs) rfl ((HO.out.alloc _).alloc _) (.slice (some ⟨_,0,none⟩) 1 1) 1 [.int .i64 (aj l j).r] rfl rfl (.inr ⟨_,_,rfl,gQ _ _ _ (by simp)⟩) (by intro u hu;rw[List.mem_singleton.1 hu];rfl) (by unfold maxLen;omega) (by omega) (by have:=HSB.out;simp;omega) ?_
                   intro v1 w9 ho hg
                   have HO9:=zH ho
                   have HB9:=zH (((HB.out.alloc HSB.out (.cells #[.int .u8 (aj l j).k,.int .u8 (aj l j).o,.int .i64 (aj l j).d,.int .i64 (aj l j).r,.int .i64 (aj l j).a,.slice xa (aj l j).xs.length xc,.slice ya (aj l j).ys.length yc,.int .i64 (aj l j).n,.int .i64 (aj l j).t] 56)).alloc (by have:=HSB.out;simp;omega) (.cells #[.int .i64 (aj l j).r] 3)).grown hg (by have:=HSB.out;simp;omega) (fun k e=>(HO.out.lt k e).1))
                   clear ho hg)
      go_roundw
      case rel=>exact⟨j+1,HJT.out,by go_num,zH ⟨by rw[HNX.out,List.length_append,ap,List.map_append];exact HO9.out,HB9.out⟩⟩
      case measure=>have:=HJT.out;simp [intOf];omega
     ·have t1:((aj l j).k == 7)=false:=beq_eq_false_iff_ne.2 h7
      have HNX:=zH (show rs ++ dr l (j+1)=xs by rw[HLS.out,if_neg h7,HXS.out,List.append_nil])
      have HO9:=zH (HO.out.alloc (.cells #[.int .u8 (aj l j).k,.int .u8 (aj l j).o,.int .i64 (aj l j).d,.int .i64 (aj l j).r,.int .i64 (aj l j).a,.slice xa (aj l j).xs.length xc,.slice ya (aj l j).ys.length yc,.int .i64 (aj l j).n,.int .i64 (aj l j).t] 56))
      have HB9:=zH (HB.out.alloc HSB.out (.cells #[.int .u8 (aj l j).k,.int .u8 (aj l j).o,.int .i64 (aj l j).d,.int .i64 (aj l j).r,.int .i64 (aj l j).a,.slice xa (aj l j).xs.length xc,.slice ya (aj l j).ys.length yc,.int .i64 (aj l j).n,.int .i64 (aj l j).t] 56))
      clear h7
      go_wp2_with fail
      go_roundw
      case rel=>exact⟨j+1,HJT.out,by go_num,zH ⟨by rw[HNX.out];exact HO9.out,HB9.out⟩⟩
      case measure=>have:=HJT.out;simp [intOf];omega
    ·have ej:j=l.length:=by omega
     subst ej
     have HO:=zH HJ.out.1
     have HB:=zH (HI.out.2.trans HJ.out.2)
     rw[<-HRS.out] at HO ⊢
     clear hjt hlj hrl
     go_wp2_with fail
     go_roundw
     case rel=>exact⟨i+1,HLT.out,by go_num,zH ⟨HO.out,HB.out⟩⟩
     case measure=>have:=HLT.out;simp [intOf];omega
  ·have ei:i=b.bs.length:=by omega
   subst ei
   have hrl:=HRL.out
   have HO:=zH (show w5.ownsRow w1.heap.size 3 1 (.slice oa (dN b).length oc) (dN b).length (ap (dN b)) from HI.out.1)
   have hrb:(dN b).length<=30000:=by show (dx b b.bs.length).length<=30000;omega
   have HRB:=zH (show (dx b b.bs.length).length=(dN b).length from rfl)
   rw[HRB.out]
   have HS:=zH (sort_own (dN b) w1.heap.size oa oc w5 HO.out (by omega) HI.out.2.size)
   clear hlt hi hrl
   go_wp2_with (first
    | (go_at_call 33;refine HS.out.mono ?_;rintro e w6 ⟨rfl,ho6,hb6⟩;have HO6:=zH ho6;have HB6:=zH (HI.out.2.trans hb6);clear ho6 hb6)
    | (go_at_call 34;refine(show Calls Tryz.prog 34 #[.slice oa (dN b).length oc] w6 _ from by have h:=qQ (dX (dN b)) w1.heap.size oa oc w6 (by rw[eI];exact HO6.out) (by rw[eI];omega) HB6.out.size;rw[eI] at h;exact h).mono ?_;rintro e w7 ⟨v,rfl,ho7,hb7⟩;have HO7:=zH ho7;have HB7:=zH (HB6.out.trans hb7);obtain⟨va,vc,rfl⟩:=GG.aI ho7;clear ho7 hb7))
   go_ret
   exact⟨_,rfl,CC.eJ (by have:=HSZ.out;omega) HO7.out,HB1.out.trans (HB7.out.mono HB1.out.size)⟩
end
section
open Go.RowKit
open CD (OpP BodyP CodeP aj blAt fnAt)
theorem OwnG.up{W0 W W2:World}{n:Nat}{rows:Nat->List Int}(h:OwnG W0 n rows W)(hb:Below W.heap.size W W2):OwnG W0 n rows W2:=by
 obtain⟨vs,h1,h2,h3,h4,h5⟩:=h
 refine⟨vs,h1.of_block (hb.block _ (by omega)),fun j hj=>CC.own_of_block (h2 j hj) (fun k e=>hb.block k ((h2 j hj).lt k e).2),h3,h4.trans (hb.mono (by omega)),Nat.le_trans h5 hb.size⟩
def rowT(p:Nat->Bool)(m:Nat):List Int:=((List.range m).filter p).map Int.ofNat
theorem rowT_zero(p:Nat->Bool):rowT p 0=[]:=rfl
theorem nU(p:Nat->Bool)(m:Nat):rowT p (m+1)=rowT p m ++ if p m=true then [(m:Int)] else []:=by
 unfold rowT
 rw[List.range_succ,List.filter_append,List.map_append]
 by_cases e:p m=true
 ·simp [e]
 ·simp [e]
theorem rowT_len(p:Nat->Bool)(m:Nat):(rowT p m).length<=m:=by
 unfold rowT
 rw[List.length_map]
 have:=List.length_filter_le p (List.range m)
 simpa using this
def callP(c:CodeP)(i f:Nat):Bool:=decide ((f:Int)∈dN (fnAt c i))
def toC(c:CodeP):List (List Int):=(List.range c.fs.length).map fun i=>rowC (dN (fnAt c i)) c.fs.length
theorem lC(c:CodeP):(toC c).length=c.fs.length:=by simp [toC]
def toAt(c:CodeP)(i k:Nat)(j:Nat):List Int:=rowT (callP c j) (if j<i then c.fs.length else if j=i then k else 0)
theorem toAt_yes{c:CodeP}{i k:Nat}(h:callP c i k=true)(j:Nat):(if j=i then toAt c i k i ++ [(k:Int)] else toAt c i k j)=toAt c i (k+1) j:=by
 unfold toAt
 by_cases e:j=i
 ·subst e
  simp only[Nat.lt_irrefl,if_false,if_true]
  rw[nU,if_pos h]
 ·rw[if_neg e,if_neg e,if_neg e]
theorem toAt_no{c:CodeP}{i k:Nat}(h:callP c i k=false)(j:Nat):toAt c i k j=toAt c i (k+1) j:=by
 unfold toAt
 by_cases e:j=i
 ·subst e
  simp only[Nat.lt_irrefl,if_false,if_true]
  rw[nU,if_neg (by rw[h];simp),List.append_nil]
 ·rw[if_neg e,if_neg e]
theorem toAt_next(c:CodeP)(i:Nat)(j:Nat):toAt c i c.fs.length j=toAt c (i+1) 0 j:=by
 unfold toAt
 by_cases e:j<i
 ·rw[if_pos e,if_pos (by omega)]
 ·by_cases e2:j=i
  ·rw[if_neg e,if_pos e2,if_pos (by omega)]
  ·rw[if_neg e,if_neg e2,if_neg (by omega)]
   split <;> rfl
theorem toAt_all(c:CodeP):(List.range c.fs.length).map (toAt c c.fs.length 0)=toC c:=by
 unfold toC
 refine List.map_congr_left fun j hj=>?_
 unfold toAt rowC rowT callP
 rw[if_pos (List.mem_range.1 hj)]
set_option maxRecDepth 100000 in
set_option maxHeartbeats 6400000 in
theorem nV(av fv:Value)(c:CodeP)(w:World)(ha:bA w.heap.size w av c.ar)(hf:bh w.heap.size w fv c.fs)(hfew:CD.Few c) :
 Calls Tryz.prog 14 #[.agg #[av,fv,.int .i64 c.mn0]] w fun e w'=>∃v,e=.returned v/\aq w'.heap.size w' v (toC c)/\Below w.heap.size w w':=by
 have HF:=zH hf
 have HFEW:=zH hfew
 obtain⟨aa,ac,rfl⟩:=ha.form
 obtain⟨fa,fc,rfl⟩:=hf.form
 obtain⟨i0,hi0,hz0,hz1,hz2⟩:=info_parts Tryz.infoGInt
 have hfl:c.fs.length<=100:=hfew.f
 have hmk:=run_make_row' (P:=Tryz.prog) 32 54 (.slice none 0 0) 24 (by kernel_rfl) Tryz.infoGRow rfl .i64 .i64 c.fs.length (by omega) (by omega)
 obtain⟨w1,ew1⟩:∃w1,w1=w.alloc (.cells #[.slice aa c.ar.length ac,.slice fa c.fs.length fc,.int .i64 c.mn0] 30):=⟨_,rfl⟩
 have HB1:=zH (show Below w.heap.size w w1 by rw[ew1];exact(Below.refl _ _).alloc (Nat.le_refl _) _)
 have hbx:w1.heap[w.heap.size]?=some (.cells #[.slice aa c.ar.length ac,.slice fa c.fs.length fc,.int .i64 c.mn0] 30):=by rw[ew1];exact heap_alloc_new _ _
 have HBX:=zH hbx
 have hs1:w1.heap.size=w.heap.size+1:=by rw[ew1,World.size_alloc]
 have H0:=zH (qi w1 c.fs.length)
 have HSZ:=zH hs1
 have EW:=zH ew1
 obtain⟨q0,q1,q2⟩:=box3 hbx
 clear ha hf hfew ew1 hbx hs1
 go_enter Tryz.func14,Tryz.ntmps14
 go_wp2_with fail
 rw[<-EW.out]
 clear hmk q0 q1 q2
 go_loopw [4] (fun s wr=>∃i:Nat,i<=c.fs.length/\s=.int .i64 (i:Int)/\RowKit.Hid (OwnG w1 c.fs.length (toAt c i 0) wr)) (fun s _=>c.fs.length-(intOf s).toNat)
 case atStart=>exact⟨0,Nat.zero_le _,rfl,zH (H0.out.congr fun j _=>by unfold toAt;rw[if_neg (Nat.not_lt_zero _)];split <;> exact(rowT_zero _).symm)⟩
 case round =>
  obtain⟨w3,rfl⟩:∃w3,w3=wr:=⟨_,rfl⟩
  obtain⟨i,hi,rfl,HO⟩:=hrel
  clear H0
  have HB13:=zH (show Below w1.heap.size w1 w3 from HO.out.choose_spec.below)
  obtain⟨q0,q1,q2⟩:=box3 (az HB13.out HBX.out)
  by_cases hlt:i<c.fs.length
  ·have HLT :=zH hlt
   go_wp2_with fail
   clear q0 q1 q2 hlt
   go_loopw [5] (fun s wr=>∃f:Nat,f<=c.fs.length/\s=.int .i64 (f:Int)/\RowKit.Hid (OwnG w1 c.fs.length (toAt c i f) wr)) (fun s _=>c.fs.length-(intOf s).toNat)
   case atStart=>exact⟨0,Nat.zero_le _,rfl,HO⟩
   case round =>
    obtain⟨w4,rfl⟩:∃w4,w4=wr:=⟨_,rfl⟩
    obtain⟨f,hf,rfl,HO4⟩:=hrel
    clear HO HB13
    have HB4:=zH (show Below w1.heap.size w1 w4 from HO4.out.choose_spec.below)
    obtain⟨q0,q1,q2⟩:=box3 (az HB4.out HBX.out)
    by_cases hft:f<c.fs.length
    ·have HFT :=zH hft
     obtain⟨blk,off,ba,bc,efa,hblk,f0,f1,f2,hbs⟩:=(HF.out.below (HB1.out.trans (HB4.out.mono HB1.out.size))).at HLT.out
     have HFN:=zH (show c.fs[i]?.getD CD.b0=fnAt c i from rfl)
     rw[HFN.out] at f2 hbs
     have hbl:=HFEW.out.b i HLT.out
     have HK:=zH (HFEW.out.l i HLT.out)
     obtain⟨b,eb⟩:∃b,b=fnAt c i:=⟨_,rfl⟩
     rw[<-eb] at f2 hbs hbl HK
     have HEB:=zH eb
     have HBS:=zH hbs
     have HF2:=zH f2
     subst efa
     have hb4:blk<w4.heap.size:=Nat.lt_of_lt_of_le hblk (HB1.out.trans (HB4.out.mono HB1.out.size)).size
     have HBK:=zH hb4
     have i1:(0:Int)<=i/\(i:Int)<c.fs.length:=by have:=HLT.out;omega
     clear eb hft hbs hblk f0 f1 hb4
     go_wp2_with fail
     clear f2 q0 q1 q2
     go_loopw [6,7] (fun s6 s7 wr=>∃k:Nat,k<=b.bs.length/\s7=.int .i64 (k:Int)/\∃z:Bool,s6=.bool z/\RowKit.Hid (z=decide ((f:Int)∈dx b k)/\Below w4.heap.size w4 wr)) (fun _ s7 _=>b.bs.length-(intOf s7).toNat)
     case atStart=>exact⟨0,Nat.zero_le _,rfl,false,rfl,zH ⟨by simp [dx],Below.refl _ _⟩⟩
     case round =>
      obtain⟨w5,rfl⟩:∃w5,w5=wr:=⟨_,rfl⟩
      obtain⟨k,hk,rfl,z,rfl,HI⟩:=hrel
      have H15:=zH (HB4.out.trans (HI.out.2.mono HB4.out.size))
      obtain⟨q0,q1,q2⟩:=box3 (az H15.out HBX.out)
      have f2:w5.cell? ⟨blk,off+i*3+2,none⟩=some (.slice ba b.bs.length bc):=(HI.out.2.cell (p:=⟨blk,off+i*3+2,none⟩) HBK.out).trans HF2.out
      by_cases hkt:k<b.bs.length
      ·obtain⟨bb,bo,la,lc,eba,hbb,hcell,hops⟩:=(HBS.out.below (HI.out.2.mono (HB1.out.trans (HB4.out.mono HB1.out.size)).size)).at hkt
       subst eba
       have HOPS:=zH hops
       have hln:=HK.out k hkt
       have HKT:=zH hkt
       have i2:(0:Int)<=k/\(k:Int)<b.bs.length:=by omega
       have HBA:=zH (show b.bs[k]?.getD []=blAt b k from rfl)
       rw[HBA.out] at hcell HOPS
       have HRS:=zH (ju hkt)
       obtain⟨l,el⟩:∃l,l=blAt b k:=⟨_,rfl⟩
       rw[<-el] at hcell HOPS hln HRS
       have HCL:=zH hcell
       have hb5:bb<w5.heap.size:=Nat.lt_of_lt_of_le hbb (HB1.out.trans (H15.out.mono HB1.out.size)).size
       have HBB:=zH hb5
       clear el hops hkt hbb hb5
       go_wp2_with fail
       clear hcell f2 q0 q1 q2
       go_loopw [6,8] (fun s6 s8 wr=>∃j:Nat,j<=l.length/\s8=.int .i64 (j:Int)/\∃z:Bool,s6=.bool z/\RowKit.Hid (z=decide ((f:Int)∈dx b k ++ dr l j)/\Below w5.heap.size w5 wr)) (fun _ s8 _=>l.length-(intOf s8).toNat)
       case atStart=>exact⟨0,Nat.zero_le _,rfl,z,rfl,zH ⟨by rw[show dr l 0=[] from rfl,List.append_nil];exact HI.out.1,Below.refl _ _⟩⟩
       case round =>
        obtain⟨w6,rfl⟩:∃w6,w6=wr:=⟨_,rfl⟩
        obtain⟨j,hj,rfl,z6,rfl,HJ⟩:=hrel
        have H46:=zH (HI.out.2.trans (HJ.out.2.mono HI.out.2.size))
        have H16:=zH (HB4.out.trans (H46.out.mono HB4.out.size))
        obtain⟨q0,q1,q2⟩:=box3 (az H16.out HBX.out)
        have f2:w6.cell? ⟨blk,off+i*3+2,none⟩=some (.slice (some ⟨bb,bo,none⟩) b.bs.length bc):=(H46.out.cell (p:=⟨blk,off+i*3+2,none⟩) HBK.out).trans HF2.out
        have hcell:w6.cell? ⟨bb,bo+k,none⟩=some (.slice la l.length lc):=(HJ.out.2.cell (p:=⟨bb,bo+k,none⟩) HBB.out).trans HCL.out
        have i2:(0:Int)<=k/\(k:Int)<b.bs.length:=by have:=HKT.out;omega
        by_cases hjt:j<l.length
        ·obtain⟨xb,xo,xa,xc,ya,yc,ela,hxb,⟨x0,x1,x2,x3,x4,x5,x6,x7,x8⟩,_,_⟩:=dK (HOPS.out.below (HJ.out.2.mono (HB1.out.trans (H15.out.mono HB1.out.size)).size)) hjt
         subst ela
         have HJT:=zH hjt
         have HLS:=zH (mh hjt)
         have i3:(0:Int)<=j/\(j:Int)<l.length:=by omega
         obtain⟨p,ep⟩:∃p,p=aj l j:=⟨_,rfl⟩
         rw[<-ep] at x0 x1 x2 x3 x4 x5 x6 x7 x8 HLS
         have HB7:=zH (HJ.out.2.alloc HJ.out.2.size (.cells #[.int .u8 p.k,.int .u8 p.o,.int .i64 p.d,.int .i64 p.r,.int .i64 p.a,.slice xa p.xs.length xc,.slice ya p.ys.length yc,.int .i64 p.n,.int .i64 p.t] 56))
         clear ep hjt hxb
         cases z6
         ·by_cases h7:p.k=7
          ·have t1:(p.k == 7)=true:=beq_iff_eq.2 h7
           by_cases hr:p.r=(f:Int)
           ·have t2:(p.r == (f:Int))=true:=beq_iff_eq.2 hr
            have HN:=zH (show true=decide ((f:Int)∈dx b k ++ dr l (j+1)) by
             rw[HLS.out,if_pos h7,hr]
             exact(decide_eq_true (by simp)).symm)
            clear h7 hr
            go_wp2_with fail
            go_roundw
            case rel=>exact⟨j+1,HJT.out,by go_num,true,rfl,zH ⟨HN.out,HB7.out⟩⟩
            case measure=>have:=HJT.out;simp [intOf];omega
           ·have t2:(p.r == (f:Int))=false:=beq_eq_false_iff_ne.2 hr
            have HN:=zH (show false=decide ((f:Int)∈dx b k ++ dr l (j+1)) by
             rw[HLS.out,if_pos h7]
             have h1:=of_decide_eq_false HJ.out.1.symm
             refine(decide_eq_false (fun g=>?_)).symm
             rw[<-List.append_assoc] at g
             rcases List.mem_append.1 g with g | g
             ·exact h1 g
             ·exact hr (List.mem_singleton.1 g).symm)
            clear h7 hr
            go_wp2_with fail
            go_roundw
            case rel=>exact⟨j+1,HJT.out,by go_num,false,rfl,zH ⟨HN.out,HB7.out⟩⟩
            case measure=>have:=HJT.out;simp [intOf];omega
          ·have t1:(p.k == 7)=false:=beq_eq_false_iff_ne.2 h7
           have HN:=zH (show false=decide ((f:Int)∈dx b k ++ dr l (j+1)) by
            rw[HLS.out,if_neg h7,List.append_nil]
            exact HJ.out.1)
           clear h7
           go_wp2_with fail
           go_roundw
           case rel=>exact⟨j+1,HJT.out,by go_num,false,rfl,zH ⟨HN.out,HB7.out⟩⟩
           case measure=>have:=HJT.out;simp [intOf];omega
         ·have HN:=zH (show true=decide ((f:Int)∈dx b k ++ dr l (j+1)) by
           have h1:=of_decide_eq_true HJ.out.1.symm
           rw[HLS.out,<-List.append_assoc]
           exact(decide_eq_true (List.mem_append_left _ h1)).symm)
          go_wp2_with fail
          go_roundw
          case rel=>exact⟨j+1,HJT.out,by go_num,true,rfl,zH ⟨HN.out,HB7.out⟩⟩
          case measure=>have:=HJT.out;simp [intOf];omega
        ·have ej:j=l.length:=by omega
         subst ej
         have HZ:=zH (show z6=decide ((f:Int)∈dx b (k+1)) by rw[HRS.out];exact HJ.out.1)
         clear hjt
         go_wp2_with fail
         go_roundw
         case rel=>exact⟨k+1,HKT.out,by go_num,z6,rfl,zH ⟨HZ.out,H46.out⟩⟩
         case measure=>have:=HKT.out;simp [intOf];omega
      ·have ek:k=b.bs.length:=by omega
       subst ek
       have HZ:=zH (show callP c i f=z by rw[HI.out.1,<-show dN b=dx b b.bs.length from rfl,HEB.out];rfl)
       have HO5:=zH (HO4.out.up HI.out.2)
       clear hkt
       cases z
       ·have HN:=zH (show OwnG w1 c.fs.length (toAt c i (f+1)) w5 from HO5.out.congr fun j _=>toAt_no HZ.out j)
        go_wp2_with fail
        go_roundw
        case rel=>exact⟨f+1,HFT.out,by go_num,HN⟩
        case measure=>have:=HFT.out;simp [intOf];omega
       ·obtain⟨vs,hT⟩:=HO5.out
        have HT:=zH hT
        have HST:=zH (fun j=>toAt_yes HZ.out j)
        have hcj:=World.rowIs.cell hT.tab HLT.out
        rw[HSZ.out] at hcj
        have HLN:=zH (show (toAt c i f i).length<=c.fs.length from Nat.le_trans (rowT_len _ _) (by split <;> (try split) <;> omega))
        obtain⟨sa,sc,hsv⟩:=GG.aI (hT.own i HLT.out)
        have HSV:=zH hsv
        have i4:(0:Int)<=i/\(i:Int)<c.fs.length:=by have:=HLT.out;omega
        clear hT hsv
        go_wp2_with (at_builtin
                     refine wpList_append_lies _ rfl _ _ 54 rfl (w1.heap.size+1) 3 i0 (.int .i64 0) 1 8 Tryz.underlying54 hi0 hz0 hz1 hz2 rfl (by decide) (vs i) _ _ rfl ((HT.out.own i HLT.out).alloc _) ⟨w5.heap.size,0,none⟩ 1 1 [.int .i64 (f:Int)] rfl rfl (GG.aW _ _ _) (by intro u hu;rw[List.mem_singleton.1 hu];rfl) (by decide) (by have:=HLN.out;unfold maxLen;omega) (by have:=HLN.out;omega) (by have:=HT.out.size;simp;omega) (w5.heap.size+1) (by simp) ?_
                     intro g cap w7 ho hg hat _
                     have HA:=zH (HT.out.app HLT.out ho hg hat)
                     have hcw:=HA.out.2.1
                     have hfw:=HA.out.2.2
                     rw[HSZ.out] at hcw hfw
                     clear ho hg hat)
        go_roundw
        case rel=>exact⟨f+1,HFT.out,by go_num,zH (by have h:=HA.out.1.congr (rows':=toAt c i (f+1)) fun j _=>HST.out j;rw[HSZ.out] at h;exact h)⟩
        case measure=>have:=HFT.out;simp [intOf];omega
    ·have HN:=zH (show OwnG w1 c.fs.length (toAt c (i+1) 0) w4 from HO4.out.congr fun j _=>by rw[<-toAt_next];rw[show f=c.fs.length by omega])
     have ef:f=c.fs.length:=by omega
     subst ef
     clear hft
     go_wp2_with fail
     go_roundw
     case rel=>exact⟨i+1,HLT.out,by go_num,HN⟩
     case measure=>have:=HLT.out;simp [intOf];omega
  ·have HE:=zH (show aq w3.heap.size w3 (.slice (some ⟨w1.heap.size,0,none⟩) c.fs.length c.fs.length) (toC c) by
    have h1:=HO.out
    rw[show i=c.fs.length by omega] at h1
    have h2:=h1.graph
    rw[toAt_all] at h2
    exact h2)
   have ei:i=c.fs.length:=by omega
   subst ei
   clear hlt
   go_wp2_with fail
   go_ret
   exact⟨_,rfl,by rw[<-HSZ.out];exact HE.out,HB1.out.trans (HB13.out.mono HB1.out.size)⟩
end
section
open Go.RowKit CC
theorem info36:(Tryz.prog.info? 97).map (fun i=>(i.zero,i.size))=some (some (.agg falses),256):=by kernel_rfl
theorem th(w:World):(zeroValue 97).run Tryz.prog w=.ok (.agg falses) w:=by
 have h:=info36
 cases hi:Tryz.prog.info? 97 with
 | none=>rw[hi] at h;cases h
 | some i =>
   rw[hi] at h
   simp only[Option.map_some,Option.some.injEq,Prod.mk.injEq] at h
   simp [zeroValue,typeInfo,hi,h.1]
def gsI(gs:List (List Nat)):List (List Int):=gs.map (fun g=>g.map Int.ofNat)
theorem lD(gs:List (List Nat)):(gsI gs).length=gs.length:=by simp [gsI]
def NewRows(B:Nat)(l:List (List Int))(e:Ending)(W W':World):Prop:=∃v vs,e=.returned v/\W'.ownsRow B 54 1 v l.length vs/\GG.Rows B W' vs l/\Below B W W'
theorem grp_new{w2:World}{xb cb n:Nat}{L:Nat->Nat->Bool}{va:Option Addr}{vc:Nat}(hx:w2.heap[xb]?=some (.cells #[.slice va n vc] 32))(hl:LeadM w2.heap.size w2 cb n L)(W5:World)
 (e:W5=((((w2.alloc (.cells #[.func (.func 74) #[] #[.pointer (some ⟨cb,0,none⟩)]] 95)).alloc (.cells #[.func (.func 43) #[] #[.pointer (some ⟨w2.heap.size,0,none⟩)]] 95)).alloc (.cells falses 97)).alloc (.cells #[.func (.func 44) #[] #[.pointer (some ⟨xb,0,none⟩),.pointer (some ⟨w2.heap.size,0,none⟩),.pointer (some ⟨w2.heap.size+1+1,0,none⟩),.pointer (some ⟨w2.heap.size+1,0,none⟩)]] 98))) :
 GrpM w2.heap.size W5 xb w2.heap.size (w2.heap.size+1) (w2.heap.size+1+1+1) (w2.heap.size+1+1) cb n L (fun _=>false)/\W5.heap.size=w2.heap.size+4/\Below w2.heap.size w2 W5:=by
 have hlt:=co hx
 have hb:Below w2.heap.size w2 W5:=by rw[e];exact((((Below.refl _ _).alloc (Nat.le_refl _) _).alloc (by simp) _).alloc (by simp;omega) _).alloc (by simp;omega) _
 have hT:W5.rowIs (w2.heap.size+1+1) 97 256 (fun _=>.bool false):=by
  have h:=World.rowIs_alloc ((w2.alloc (.cells #[.func (.func 74) #[] #[.pointer (some ⟨cb,0,none⟩)]] 95)).alloc (.cells #[.func (.func 43) #[] #[.pointer (some ⟨w2.heap.size,0,none⟩)]] 95)) falses 97 (fun _=>.bool false) (fun i hi=>by unfold falses at hi ⊢;rw[Array.size_replicate] at hi;simp [hi])
  have e1:falses.size=256:=by simp [falses]
  rw[e1] at h
  rw[e]
  refine World.rowIs.of_block (by simpa using h) ?_
  exact heap_alloc_old _ _ (by simp)
 refine⟨⟨⟨va,vc,cell_of_one ((hb.block _ hlt).trans hx)⟩,?_,?_,?_,hl.below hb,hT⟩,by rw[e];simp,hb⟩
 ·refine cell_of_one (t:=95) ?_
  rw[e,heap_alloc_old _ _ (by simp;omega),heap_alloc_old _ _ (by simp;omega),heap_alloc_old _ _ (by simp)]
  exact dF rfl
 ·refine cell_of_one (t:=95) ?_
  rw[e,heap_alloc_old _ _ (by simp),heap_alloc_old _ _ (by simp)]
  exact dF (by simp)
 ·refine cell_of_one (t:=98) ?_
  rw[e]
  exact dF (by simp)
structure Kept (tb:Nat) (A V:World):Prop where
 os:V.os=A.os
 tape:V.tape=A.tape
 output:V.output=A.output
 size:A.heap.size<=V.heap.size
 block:∀k,k<A.heap.size->k≠tb->V.heap[k]?=A.heap[k]?
theorem Kept.refl(tb:Nat)(A:World):Kept tb A A:=⟨rfl,rfl,rfl,Nat.le_refl _,fun _ _ _=>rfl⟩
theorem Kept.trans{tb:Nat}{A V Z:World}(h:Kept tb A V)(g:Kept tb V Z):Kept tb A Z :=
 ⟨g.os.trans h.os,g.tape.trans h.tape,g.output.trans h.output,Nat.le_trans h.size g.size,fun k hk hn=>(g.block k (Nat.lt_of_lt_of_le hk h.size) hn).trans (h.block k hk hn)⟩
theorem Kept.alloc{tb:Nat}{A V:World}(h:Kept tb A V)(o:Obj):Kept tb A (V.alloc o) :=
 ⟨h.os,h.tape,h.output,by have:=h.size;simp;omega,fun k hk hn=>(heap_alloc_old _ _ (Nat.lt_of_lt_of_le hk h.size)).trans (h.block k hk hn)⟩
theorem Kept.set{tb:Nat}{A V:World}(h:Kept tb A V)(i:Nat)(u:Value):Kept tb A (V.setCell ⟨tb,i,none⟩ u) :=
 ⟨h.os,h.tape,h.output,by simpa using h.size,fun k hk hn=>(Below.heap_setCell _ _ _ _ hn).trans (h.block k hk hn)⟩
theorem Kept.grown{tb:Nat}{A V Z:World}{row:Option Nat}(h:Kept tb A V)(hg:V.grownBy Z row)(hr:∀k,row=some k->A.heap.size<=k):Kept tb A Z :=
 ⟨hg.os.trans h.os,hg.tape.trans h.tape,hg.output.trans h.output,Nat.le_trans h.size hg.size,fun k hk hn=>(hg.block k (Nat.lt_of_lt_of_le hk h.size) (fun e=>by have:=hr k e.symm;omega)).trans (h.block k hk hn)⟩
theorem Kept.below{tb B:Nat}{W A V:World}(h:Kept tb A V)(hb:Below B W A)(h1:B<=tb)(h2:B<=A.heap.size):Below B W V :=
 hb.trans ⟨h.os,h.tape,h.output,h.size,fun k hk=>h.block k (by omega) (by omega)⟩
theorem Kept.own{tb:Nat}{A V:World}(h:Kept tb A V){B e size n:Nat}{v:Value}{xs:List Value}(g:A.ownsRow B e size v n xs)(hB:tb<B):V.ownsRow B e size v n xs :=
 own_of_block g (fun k e=>h.block k (g.lt k e).2 (by have:=(g.lt k e).1;omega))
theorem Kept.rows{tb:Nat}{A V:World}(h:Kept tb A V){B:Nat}{vs:List Value}{to:List (List Int)}(g:GG.Rows B A vs to)(hB:tb<B):GG.Rows B V vs to :=
 ⟨g.1,fun j hj=>by obtain⟨r,e,q⟩:=g.2 j hj;exact⟨r,e,h.own q hB⟩⟩
theorem mr{V:World}{tb:Nat}{f:Nat->Value}(h:V.rowIs tb 97 256 f)(o:Obj):(V.alloc o).rowIs tb 97 256 f:=World.rowIs.of_block h (heap_alloc_old _ _ (World.rowIs.lt h))
theorem mt{V Z:World}{tb:Nat}{f:Nat->Value}{row:Option Nat}(h:V.rowIs tb 97 256 f)(hg:V.grownBy Z row)(hr:∀k,row=some k->tb<k):Z.rowIs tb 97 256 f :=
 World.rowIs.of_block h (hg.block _ (World.rowIs.lt h) (fun e=>by have:=hr tb e.symm;omega))
theorem GrpM.kept{W5 V:World}{n₀ xb cb n:Nat}{L:Nat->Nat->Bool}{T0 T:Nat->Bool}(G:GrpM n₀ W5 xb n₀ (n₀+1) (n₀+1+1+1) (n₀+1+1) cb n L T0)(hx:xb<n₀)(hs:W5.heap.size=n₀+4)(h:Kept (n₀+1+1) W5 V)(hT:V.rowIs (n₀+1+1) 97 256 (fun i=>.bool (T i))) :
 GrpM n₀ V xb n₀ (n₀+1) (n₀+1+1+1) (n₀+1+1) cb n L T:=by
 have c:∀k,k<W5.heap.size->k≠n₀+1+1->V.cell? ⟨k,0,none⟩=W5.cell? ⟨k,0,none⟩:=fun k h1 h2=>World.cell?_of_block (w:=W5) (h.block k h1 h2)
 have hb:Below n₀ W5 V:=h.below (Below.refl _ _) (by omega) (by omega)
 obtain⟨va,vc,q⟩:=G.size
 exact⟨⟨va,vc,(c xb (by omega) (by omega)).trans q⟩,(c _ (by omega) (by omega)).trans G.lead,(c _ (by omega) (by omega)).trans G.toge,(c _ (by omega) (by omega)).trans G.wait,G.tab.below hb,hT⟩
def numC(o:Option Nat):Nat:=o.getD 0
def isO(o:Option Nat):Bool:=o.isSome
theorem nW(o:Option Nat):firstE o=.returned (.tuple #[.int .i64 (numC o:Int),.bool (isO o)]):=by cases o <;> rfl
def grpI(L:Nat->Nat->Bool)(a m:Nat):List Int:=((List.range m).filter (CC.tog L a)).map Int.ofNat
theorem grpI_yes{L:Nat->Nat->Bool}{a m:Nat}(h:CC.tog L a m=true):grpI L a (m+1)=grpI L a m ++ [(m:Int)]:=by simp [grpI,List.range_succ,List.filter_append,h]
theorem grpI_no{L:Nat->Nat->Bool}{a m:Nat}(h:CC.tog L a m=false):grpI L a (m+1)=grpI L a m:=by simp [grpI,List.range_succ,List.filter_append,h]
theorem qR(L:Nat->Nat->Bool)(a m:Nat):(grpI L a m).length<=m:=by
 unfold grpI
 rw[List.length_map]
 have:=List.length_filter_le (CC.tog L a) (List.range m)
 simpa using this
theorem gsI_snoc(L:Nat->Nat->Bool)(n a:Nat)(gs:List (List Nat)):gsI gs ++ [grpI L a n]=gsI (gs ++ [CC.grp L n a]):=by simp [gsI,grpI,CC.grp]
theorem putM_yes{L:Nat->Nat->Bool}{T:Nat->Bool}{a m:Nat}(h:CC.tog L a m=true)(i:Nat):GG.setB (CC.putM L T a m) m i=CC.putM L T a (m+1) i:=by
 rw[Bool.eq_iff_iff,GG.db,CC.dY,CC.dY]
 constructor
 ·rintro (e | e | ⟨e,g⟩)
  ·rw[e];exact .inr ⟨by omega,h⟩
  ·exact .inl e
  ·exact .inr ⟨by omega,g⟩
 ·rintro (e | ⟨e,g⟩)
  ·exact .inr (.inl e)
  ·by_cases q:i=m
   ·exact .inl q
   ·exact .inr (.inr ⟨by omega,g⟩)
theorem putM_no{L:Nat->Nat->Bool}{T:Nat->Bool}{a m:Nat}(h:CC.tog L a m=false)(i:Nat):CC.putM L T a m i=CC.putM L T a (m+1) i:=by
 rw[Bool.eq_iff_iff,CC.dY,CC.dY]
 constructor
 ·rintro (e | ⟨e,g⟩)
  ·exact .inl e
  ·exact .inr ⟨by omega,g⟩
 ·rintro (e | ⟨e,g⟩)
  ·exact .inl e
  ·by_cases q:i=m
   ·rw[q,h] at g;cases g
   ·exact .inr ⟨by omega,g⟩
theorem putM_zero(L:Nat->Nat->Bool)(T:Nat->Bool)(a i:Nat):CC.putM L T a 0 i=T i:=by simp [CC.putM]
structure GSt (W5:World) (tb:Nat) (L:Nat->Nat->Bool) (n f:Nat) (all:List (List Nat)) (T:Nat->Bool) (g:Value) (V:World):Prop where
 kept:Kept tb W5 V
 told:V.rowIs tb 97 256 (fun i=>.bool (T i))
 closed:CC.Closed L n T
 fuel:GG.unv n T<=f
 own:∃gs vs,gs ++ CC.bI L n f T=all/\V.ownsRow W5.heap.size 54 1 g gs.length vs/\GG.Rows W5.heap.size V vs (gsI gs)/\gs.length+GG.unv n T<=n
theorem CC.groups_less{n:Nat}{L:Nat->Nat->Bool}(h:CC.Pre n L){T:Nat->Bool}{f:Nat}(hf:GG.unv n T<=f){a:Nat}(e:CC.ct L n T=some a):GG.unv n (CC.putM L T a n)<=f-1/\f-1<f/\CC.bI L n f T=CC.grp L n a :: CC.bI L n (f-1) (CC.putM L T a n):=by
 have:=CC.jV h e
 obtain⟨f',rfl⟩:∃f',f=f'+1:=⟨f-1,by omega⟩
 refine⟨by omega,by omega,?_⟩
 show (match CC.ct L n T with | none=>[] | some a=>CC.grp L n a :: CC.bI L n f' (CC.putM L T a n))=_
 rw[e]
 rfl
theorem GSt.next{W5:World}{tb:Nat}{L:Nat->Nat->Bool}{n f:Nat}{all:List (List Nat)}{T:Nat->Bool}{g gv g':Value}{wr V Z:World}{a:Nat}(hp:CC.Pre n L)(h:GSt W5 tb L n f all T g wr)(hs:tb<W5.heap.size)(e:CC.ct L n T=some a)
 (k:Kept tb wr V) (hT:V.rowIs tb 97 256 (fun i=>.bool (CC.putM L T a n i))) (hg:V.ownsRow wr.heap.size 3 1 gv (grpI L a n).length (ap (grpI L a n))) {gs:List (List Nat)} {vs:List Value} (h1:gs ++ CC.bI L n f T=all) (h3:GG.Rows W5.heap.size wr vs (gsI gs)) (h2:wr.ownsRow W5.heap.size 54 1 g gs.length vs) (h4:gs.length+GG.unv n T<=n)
 (ho:Z.ownsRow W5.heap.size 54 1 g' (gs.length+1) (vs ++ [gv])) {ob:Obj} (hgr:(V.alloc ob).grownBy Z g.ownBlock):GSt W5 tb L n (f-1) all (CC.putM L T a n) g' Z:=by
 obtain⟨q1,q2,q3⟩:=CC.groups_less hp h.fuel e
 have hrow:∀k,g.ownBlock=some k->W5.heap.size<=k:=fun k e=>(h2.lt k e).1
 refine⟨(h.kept.trans (k.alloc ob)).grown hgr hrow,mt (mr hT ob) hgr (fun k e=>by have:=hrow k e;omega),CC.jv hp h.closed e,q1,gs ++ [CC.grp L n a],vs ++ [gv],?_,by rw[List.length_append];exact ho,?_,?_⟩
 ·rw[<-h1,q3];simp
 ·rw[<-gsI_snoc]
  exact(((k.rows h3 hs).snoc (eJ h.kept.size hg)).alloc ob).kept ((k.own h2 hs).alloc ob) (by decide) hgr
 ·have:=CC.jV hp e
  rw[List.length_append];simp;omega
set_option maxRecDepth 100000 in
set_option maxHeartbeats 6400000 in
theorem ll{v:Value}{to:List (List Int)}(W:World)(hv:aq W.heap.size W v to)(hx:cQ to) :
 Calls Tryz.prog 20 #[v] W fun e W'=>NewRows W.heap.size (gsI (bw to)) e W W':=by
 have HV:=zH hv
 have HX:=zH hx
 obtain⟨va,vc,rfl⟩:=hv.form
 clear hv hx
 obtain⟨W0,eW0⟩:∃W0,W0=W.alloc (.cells #[.slice va to.length vc] 32):=⟨_,rfl⟩
 have HB0:=zH (show Below W.heap.size W W0 by rw[eW0];exact(Below.refl _ _).alloc (Nat.le_refl _) _)
 have HC0:=zH (show W0.heap[W.heap.size]?=some (.cells #[.slice va to.length vc] 32) by rw[eW0];exact dF rfl)
 have EW0:=zH eW0
 clear eW0
 cases hr:GG.al to
 ·have HR:=zH hr
  have HE:=zH (show bw to=[] by unfold bw;rw[if_neg (by rw[hr];decide)])
  have x0:=cell_of_one HC0.out
  rw[EW0.out] at x0
  clear hr
  go_enter Tryz.func20,Tryz.ntmps20
  go_wp2_with (go_at_call 35;rw[<-EW0.out];refine(aT _ to _ (HV.out.on HB0.out HB0.out.size) HX.out).mono ?_;rintro e w1 ⟨rfl,hb⟩;rw[HR.out];have HB1:=zH (HB0.out.trans (hb.mono HB0.out.size));clear hb)
  go_ret
  refine⟨_,[],rfl,?_,?_,HB1.out⟩
  ·rw[HE.out];exact World.ownsRow_nil _ _ _ _
  ·rw[HE.out];exact GG.Rows.nil _ _
 ·have HR:=zH hr
  have hlen:=GG.aC hr
  have x0:=cell_of_one HC0.out
  rw[EW0.out] at x0
  have hz:=fun(w:World)=>th w
  clear hr
  go_enter Tryz.func20,Tryz.ntmps20
  go_wp2_with fail
  rw[<-EW0.out]
  refine(aT _ to _ (HV.out.on HB0.out HB0.out.size) HX.out).mono ?_
  rintro e w1 ⟨rfl,hb⟩
  rw[HR.out]
  have HB1:=zH (HB0.out.trans (hb.mono HB0.out.size))
  have HC1:=zH ((hb.block _ (co HC0.out)).trans HC0.out)
  clear hb x0
  have x0:=cell_of_one HC1.out
  go_wp2_with fail
  refine(qP (to:=to) w1 (HV.out.on HB1.out HB1.out.size) HX.out HR.out).mono ?_
  rintro e w2 ⟨rfl,hl2,hb2⟩
  have HL2:=zH hl2
  have HB2:=zH (HB1.out.trans (hb2.mono HB1.out.size))
  have HC2:=zH ((hb2.block _ (co HC1.out)).trans HC1.out)
  clear hl2 hb2 x0
  have x0:=cell_of_one HC2.out
  obtain⟨W5,eW5⟩:∃W5,W5=((((w2.alloc (.cells #[.func (.func 74) #[] #[.pointer (some ⟨w1.heap.size,0,none⟩)]] 95)).alloc (.cells #[.func (.func 43) #[] #[.pointer (some ⟨w2.heap.size,0,none⟩)]] 95)).alloc (.cells falses 97)).alloc (.cells #[.func (.func 44) #[] #[.pointer (some ⟨W.heap.size,0,none⟩),.pointer (some ⟨w2.heap.size,0,none⟩),.pointer (some ⟨w2.heap.size+1+1,0,none⟩),.pointer (some ⟨w2.heap.size+1,0,none⟩)]] 98)):=⟨_,rfl⟩
  have HG:=zH (grp_new HC2.out HL2.out W5 eW5)
  have HC5:=zH ((HG.out.2.2.block _ (co HC2.out)).trans HC2.out)
  have x5:=cell_of_one HC5.out
  rw[eW5] at x5
  have EW5:=zH eW5
  clear eW5
  go_wp2_with fail
  rw[<-EW5.out]
  refine(mp HG.out.1 hlen.2).mono ?_
  rintro e w6 ⟨rfl,rfl⟩
  obtain⟨o,ho⟩:∃o,o=CC.ct (aB to) to.length (fun _=>false):=⟨_,rfl⟩
  rw[nW,<-ho]
  obtain⟨z,hz1⟩:∃z,z=numC o:=⟨_,rfl⟩
  obtain⟨y,hz2⟩:∃y,y=isO o:=⟨_,rfl⟩
  rw[<-hz1,<-hz2]
  have HP:=zH (iE HR.out)
  have hcb:=co HC2.out
  have HS5:=zH (show o=CC.ct (aB to) to.length (fun _=>false)/\z=numC o/\y=isO o/\GSt w6 (w2.heap.size+1+1) (aB to) to.length to.length (bw to) (fun _=>false) (.slice none 0 0) w6 from⟨ho,hz1,hz2,Kept.refl _ _,HG.out.1.told,(fun a b _ h=>by cases h),GG.ir _ _,[],[],by unfold bw;rw[if_pos HR.out];rfl,World.ownsRow_nil _ _ _ _,GG.Rows.nil _ _,by have:=GG.ir to.length (fun _=>false);simpa using this⟩)
  obtain⟨i0,hi0,hy0,hy1,hy2⟩:=info_parts Tryz.infoGInt
  obtain⟨j0,hj0,hw0,hw1,hw2⟩:=info_parts Tryz.infoGRow
  have hsz:=HG.out.2.1
  clear ho hz1 hz2 hz x5 x0
  go_wp2_with fail
  go_loopg [8,9,10] to.length (fun gn g a ok wr=>∃(T:Nat->Bool) (z:Nat) (y:Bool) ,a=.int .i64 (z:Int)/\ok=.bool y/\RowKit.Hid (∃o,o=CC.ct (aB to) to.length T/\z=numC o/\y=isO o/\GSt w6 (w2.heap.size+1+1) (aB to) to.length gn (bw to) T g wr))
  case atStart=>exact⟨_,z,y,rfl,rfl,zH ⟨_,HS5.out⟩⟩
  case round =>
   obtain⟨T,z,y,rfl,rfl,HH⟩:=hrel
   clear HS5
   cases y
   ·have HE:=zH (show ∃vs,wr.ownsRow W.heap.size 54 1 u8 (gsI (bw to)).length vs/\GG.Rows W.heap.size wr vs (gsI (bw to))/\Below W.heap.size W wr by
     obtain⟨o,h1,h2,h3,h4⟩:=HH.out
     have hn:CC.ct (aB to) to.length T=none:=by
      rw[<-h1]
      cases o with
      | none=>rfl
      | some x=>cases h3
     obtain⟨gs,vs,q1,q2,q3,q4⟩:=h4.own
     rw[CC.gu _ hn,List.append_nil] at q1
     rw[<-q1,lD]
     have hle:W.heap.size<=w6.heap.size:=by omega
     exact⟨vs,eJ hle q2,⟨q3.1,fun j hj=>by obtain⟨r,e1,e2⟩:=q3.2 j hj;exact⟨r,e1,eJ hle e2⟩⟩,h4.kept.below (HB2.out.trans (HG.out.2.2.mono HB2.out.size)) (by omega) (by omega)⟩)
    obtain⟨vs,HE1,HE2,HE3⟩:=HE.out
    go_wp2_with fail
    go_ret
    exact⟨_,vs,rfl,HE1,HE2,HE3⟩
   ·obtain⟨w7,rfl⟩:∃w7,w7=wr:=⟨_,rfl⟩
    obtain⟨o,ho,hz,hy,hS⟩:=HH.out
    have hn:CC.ct (aB to) to.length T=some z:=by
     rw[<-ho,hz]
     cases o with
     | none=>cases hy
     | some x=>rfl
    have HN:=zH hn
    have hzn:=(CC.jc hn).1
    have HS:=zH hS
    have HF:=zH (CC.groups_less HP.out hS.fuel hn)
    have hx6:w7.cell? ⟨W.heap.size,0,none⟩=some (.slice va to.length vc):=cell_of_one ((hS.kept.block _ (co HC5.out) (by omega)).trans HC5.out)
    have HX6:=zH ((hS.kept.block _ (co HC5.out) (by omega)).trans HC5.out)
    obtain⟨gs,vs,q1,q2,q3,q4⟩:=hS.own
    have Q1:=zH q1
    have Q2:=zH q2
    have Q3:=zH q3
    have Q4:=zH q4
    have hgs:gs.length<=256:=by omega
    obtain⟨ga,gc,rfl⟩:=CC.iG q2
    have hts:w2.heap.size+1+1<w7.heap.size:=by have:=hS.kept.size;omega
    clear hz hy hn ho hS HH q1 q2 q3 q4
    go_wp2_with fail
    go_loopw [11,38] (fun gv k V=>∃b:Nat,b<=to.length/\k=.int .i64 (b:Int)/\RowKit.Hid (Kept (w2.heap.size+1+1) w7 V/\V.rowIs (w2.heap.size+1+1) 97 256 (fun i=>.bool (CC.putM (aB to) T z b i))/\V.ownsRow w7.heap.size 3 1 gv (grpI (aB to) z b).length (ap (grpI (aB to) z b)))) (fun _ k _=>to.length-(intOf k).toNat)
    case atStart=>exact⟨0,by omega,rfl,zH ⟨Kept.refl _ _,World.rowIs.congr HS.out.told (fun i _=>by rw[putM_zero]),World.ownsRow_nil _ _ _ _⟩⟩
    case round =>
     obtain⟨b,hb,rfl,HM⟩:=hrel
     obtain⟨hk,ht,hg⟩:=HM.out
     have HK:=zH hk
     have HT:=zH ht
     have HGR:=zH hg
     clear HM hk ht hg
     obtain⟨gva,gvc,rfl⟩:=CC.iG HGR.out
     have hsw:=HK.out.size
     by_cases hlt:b<to.length
     ·have j1:decide ((b:Int)<(to.length:Int))=true:=decide_eq_true (by omega)
      have HM:=zH (HG.out.1.kept hcb hsz (HS.out.kept.trans HK.out) HT.out)
      have ht4:=HM.out.toge
      cases hc:CC.tog (aB to) z b
      ·have HC:=zH hc
       have HR1:=zH (show Kept (w2.heap.size+1+1) w7 wr/\wr.rowIs (w2.heap.size+1+1) 97 256 (fun i=>.bool (CC.putM (aB to) T z (b+1) i))/\wr.ownsRow w7.heap.size 3 1 (.slice gva (grpI (aB to) z b).length gvc) (grpI (aB to) z (b+1)).length (ap (grpI (aB to) z (b+1))) from⟨HK.out,World.rowIs.congr HT.out (fun i _=>by rw[putM_no hc]),by rw[grpI_no hc];exact HGR.out⟩)
       clear hc
       go_wp2_with (go_at_call 43;refine(jX z b HM.out.tab HM.out.lead hzn hlt).mono ?_;rintro e w8 ⟨rfl,e8⟩;rw[e8,HC.out];clear e8)
       go_roundw
       case rel=>exact⟨b+1,by omega,by go_num,HR1⟩
       case measure=>simp [intOf];omega
      ·have HC:=zH hc
       have hcT:=World.rowIs.cell HT.out (show b<256 by omega)
       have hfT:=World.rowIs.frozen HT.out b
       have i1:(0:Int)<=b/\(b:Int)<256:=by omega
       have hgl:=qR (aB to) z b
       have HT1:=zH (show (wr.setCell ⟨(w2.heap.size+1+1),b,none⟩ (.bool true)).rowIs (w2.heap.size+1+1) 97 256 (fun i=>.bool (CC.putM (aB to) T z (b+1) i)) from World.rowIs.congr (World.rowIs.set HT.out b (.bool true)) (fun i _=>by
        rw[<-putM_yes hc]
        unfold GG.setB
        by_cases e:i=b <;> simp [e]))
       have HK1:=zH (HK.out.set b (.bool true))
       have HY:=zH (grpI_yes hc)
       have HS1:=zH (show (wr.setCell ⟨(w2.heap.size+1+1),b,none⟩ (.bool true)).heap.size=wr.heap.size by simp)
       clear hc
       obtain⟨L1,hL1⟩:∃L1,L1=grpI (aB to) z b:=⟨_,rfl⟩
       rw[<-hL1] at hgl HGR HY
       rw[<-hL1]
       clear hL1
       go_wp2_with (first
        | (at_builtin
           refine GG.wpList_append_any rfl _ _ 54 rfl w7.heap.size 3 i0 (.int .i64 0) 1 8 Tryz.underlying54 hi0 hy0 hy1 hy2 rfl (by decide) (.slice gva L1.length gvc) L1.length (ap L1) rfl (((Kept.refl (w2.heap.size+1+1) wr).set b (.bool true)).own HGR.out hts |>.alloc _) (.slice (some ⟨wr.heap.size,0,none⟩) 1 1) 1 [.int .i64 (b:Int)] rfl rfl (.inr ⟨_,_,rfl,by have h1:=GG.aW (wr.setCell ⟨(w2.heap.size+1+1),b,none⟩ (.bool true)) (.int .i64 (b:Int)) 3;rw[HS1.out] at h1;exact h1⟩) (by intro u hu;rw[List.mem_singleton.1 hu];rfl) (by unfold maxLen;omega) (by omega) (by simp;omega) ?_
           intro v1 w9 ho hg
           have HR1:=zH (show Kept (w2.heap.size+1+1) w7 w9/\w9.rowIs (w2.heap.size+1+1) 97 256 (fun i=>.bool (CC.putM (aB to) T z (b+1) i))/\w9.ownsRow w7.heap.size 3 1 v1 (grpI (aB to) z (b+1)).length (ap (grpI (aB to) z (b+1))) from⟨(HK1.out.alloc _).grown hg (fun k e=>(HGR.out.lt k e).1),mt (mr HT1.out _) hg (fun k e=>by have:=(HGR.out.lt k e).1;omega),by rw[HY.out,List.length_append];simpa [ap] using ho⟩)
           clear ho hg)
        | (go_at_call 43;refine(jX z b HM.out.tab HM.out.lead hzn hlt).mono ?_;rintro e w8 ⟨rfl,e8⟩;rw[e8,HC.out];clear e8))
       go_roundw
       case rel=>exact⟨b+1,by omega,by go_num,HR1⟩
       case measure=>simp [intOf];omega
     ·have hbn:b=to.length:=by omega
      subst hbn
      have hgl:=qR (aB to) z to.length
      have HGN:=zH (fun(Z:World) (g':Value) (ob:Obj) (ho:Z.ownsRow w6.heap.size 54 1 g' (gs.length+1) (vs ++ [.slice gva (grpI (aB to) z to.length).length gvc])) (hgr:(wr.alloc ob).grownBy Z (Value.slice ga gs.length gc).ownBlock)=>HS.out.next HP.out (by omega) HN.out HK.out HT.out HGR.out Q1.out Q3.out Q2.out Q4.out ho hgr)
      have HOW:=zH (HK.out.own Q2.out (by omega))
      obtain⟨L1,hL1⟩:∃L1,L1=grpI (aB to) z to.length:=⟨_,rfl⟩
      rw[<-hL1] at hgl HGR HGN
      rw[<-hL1]
      clear hL1
      go_wp2_with (at_builtin
                   refine GG.wpList_append_any rfl _ _ 32 rfl w6.heap.size 54 j0 (.slice none 0 0) 1 24 Tryz.underlying32 hj0 hw0 hw1 hw2 rfl (by decide) (.slice ga gs.length gc) gs.length vs rfl (HOW.out.alloc _) (.slice (some ⟨wr.heap.size,0,none⟩) 1 1) 1 [.slice gva L1.length gvc] rfl rfl (.inr ⟨_,_,rfl,GG.aW _ _ _⟩) (by intro u hu;rw[List.mem_singleton.1 hu];rfl) (by unfold maxLen;omega) (by omega) (by have:=HS.out.kept.size;simp;omega) ?_
                   intro v1 w9 ho hg
                   have HS9:=zH (HGN.out w9 v1 _ ho hg)
                   have x9:w9.cell? ⟨W.heap.size,0,none⟩=some (.slice va to.length vc):=cell_of_one ((HS9.out.kept.block _ (co HC5.out) (by omega)).trans HC5.out)
                   have HM9:=zH (HG.out.1.kept hcb hsz HS9.out.kept HS9.out.told)
                   clear ho hg)
      refine(mp HM9.out hlen.2).mono ?_
      rintro e w8 ⟨rfl,e8⟩
      rw[e8,nW]
      clear e8
      obtain⟨o,ho⟩:∃o,o=CC.ct (aB to) to.length (CC.putM (aB to) T z to.length):=⟨_,rfl⟩
      rw[<-ho]
      obtain⟨z1,hz1⟩:∃z1,z1=numC o:=⟨_,rfl⟩
      obtain⟨y1,hy1⟩:∃y1,y1=isO o:=⟨_,rfl⟩
      rw[<-hz1,<-hy1]
      have HN9:=zH (show _/\_/\_ from⟨ho,hz1,hy1⟩)
      clear ho hz1 hy1
      go_wp2_with fail
      go_roundg (gk-1)
      case measure=>exact HF.out.2.1
      case rel=>exact⟨_,z1,y1,rfl,rfl,zH ⟨o,HN9.out.1,HN9.out.2.1,HN9.out.2.2,HS9.out⟩⟩
end
section
open Go.RowKit CC
def bE(W:World)(g n:Nat)(f:Nat->Int):Prop:=W.rowIs g 3 n (fun i=>.int .i64 (f i))
theorem bE.set{W:World}{g n:Nat}{f f':Nat->Int}(h:bE W g n f)(i:Nat)(c:Int)(e:∀j,f' j=if j=i then c else f j):bE (W.setCell ⟨g,i,none⟩ (.int .i64 c)) g n f':=by
 refine World.rowIs.congr (World.rowIs.set h i (.int .i64 c)) (fun j _=>?_)
 rw[e]
 by_cases q:j=i <;> simp [q]
theorem bE.of{W W':World}{g n:Nat}{f:Nat->Int}(h:bE W g n f)(e:W'.heap[g]?=W.heap[g]?):bE W' g n f:=World.rowIs.of_block h e
theorem nh{n₀:Nat}{W:World}{u:Value}{xs:List Int}(x:Int)(h:Row n₀ W u xs)(hl:xs.length<=9223372036854775807) :
 Calls Tryz.prog 62 #[u,.int .i64 x] W fun e w'=>e=.returned (.bool (xs.contains x))/\w'=W:=by
 by_cases h0:0<xs.length
 ·obtain⟨b,off,cap,rfl,_,hc⟩:=h.at h0
  have:=Tryz.slices_Contains_int b off xs.length cap xs x W (Nat.le_refl _) hl (fun j hj=>by rw[hc j hj,List.getD_eq_getElem?_getD])
  rwa [List.take_length] at this
 ·have e:xs=[]:=List.eq_nil_of_length_eq_zero (by omega)
  subst e
  obtain⟨a,cap,rfl⟩:=h.form
  exact Tryz.slices_Contains_int_empty a cap x W
theorem pG{n₀:Nat}{W:World}{u:Value}{xs:List Int}{x:Int}{t:Bool}(h:RowKit.Hid (Row n₀ W u xs))(hl:xs.length<=9223372036854775807)(ht:RowKit.Hid (xs.contains x=t))(d:Nat) :
 Calls Tryz.prog 62 #[u,.int .i64 x] (W.drewN d) fun e w'=>e=.returned (.bool t)/\∃k,w'=W.drewN k:=by
 refine(nh x (h.out.drewN d) hl).mono ?_
 rintro e w' ⟨rfl,rfl⟩
 exact⟨by rw[ht.out],d,rfl⟩
set_option maxRecDepth 100000 in
set_option maxHeartbeats 3200000 in
theorem qS{v gv:Value}{to:List (List Int)}{g:List Nat}(W:World)(hv:aq W.heap.size W v to)(hr:GG.al to=true)(hg:Row W.heap.size W gv (g.map Int.ofNat))(h0:0<g.length)(h2:g.length<=256)(h1:∀x∈g,x<to.length) :
 Calls Tryz.prog 37 #[v,gv] W fun e w'=>e=.returned (.bool (CC.gd (GG.am to) g))/\∃d,w'=W.drewN d:=by
 have hlen:=GG.aC hr
 obtain⟨gb,gf,gc,rfl,_,hgc⟩:=hg.at (by rw[List.length_map];exact h0)
 obtain⟨va,vc,rfl⟩:=hv.form
 have hg0:=hgc 0 (by rw[List.length_map];exact h0)
 rw[List.length_map]
 clear hgc hg
 by_cases hl:1<g.length
 ·have HE:=zH (show CC.gd (GG.am to) g=true by unfold CC.gd;rw[decide_eq_true hl];rfl)
  have hd:decide ((1:Int)<(g.length:Int))=true:=decide_eq_true (by omega)
  have hd2:decide (1<g.length)=true:=decide_eq_true hl
  clear hg0
  go_enter Tryz.func37,Tryz.ntmps37
  go_wp2_with fail
  go_quiet (fail)
  go_wp2_with fail
  go_ret
  exact⟨af HE.out.symm,_,rfl⟩
 ·obtain⟨x,rfl⟩:∃x,g=[x]:=by
   match g,h0,hl with
   | [x],_,_=>exact⟨x,rfl⟩
   | _ :: _ :: _,_,hl=>exact absurd (by simp) hl
  have hx:=h1 x List.mem_cons_self
  have hc0:W.cell? ⟨gb,gf,none⟩=some (.int .i64 (x:Int)):=hg0
  have hd:decide ((1:Int)<(([x]:List Nat).length:Int))=false:=rfl
  obtain⟨vb,vf,vc',e1⟩:=hv.addr (by omega)
  cases e1
  obtain⟨ra,rac,hx1,hrx⟩:=hv.at hx
  have hrl:=GG.dz (GG.aZ hr hx)
  have HE:=zH (show CC.gd (GG.am to) [x]=(to[x]?.getD []).contains (x:Int) by
   unfold CC.gd
   show (false || decide (x∈GG.am to x))=_
   rw[Bool.false_or,Bool.eq_iff_iff,decide_eq_true_iff,List.contains_iff_mem]
   exact GG.jI hr hx x)
  have i1:(0:Int)<=x/\(x:Int)<to.length:=by omega
  clear hg0
  obtain⟨r,er⟩:∃r,r=to[x]?.getD []:=⟨_,rfl⟩
  rw[<-er] at hx1 hrx hrl HE
  clear er
  have HRX:=zH hrx
  obtain⟨t,ht⟩:∃t,t=r.contains (x:Int):=⟨_,rfl⟩
  have HT:=zH ht.symm
  rw[<-ht] at HE
  clear hrx ht
  go_enter Tryz.func37,Tryz.ntmps37
  go_wp2_with fail
  go_quiet ((go_at_call 62;exact pG HRX (by omega) HT _))
  go_wp2_with fail
  go_ret
  exact⟨af HE.out.symm,_,rfl⟩
theorem Kept.drew{tb:Nat}{A V:World}(h:Kept tb A V):Kept tb A V.drew:=⟨h.os,h.tape,h.output,h.size,h.block⟩
theorem Kept.drewN{tb:Nat}{A V:World}(h:Kept tb A V)(d:Nat):Kept tb A (V.drewN d):=⟨h.os,h.tape,h.output,h.size,h.block⟩
def nzB(e:Nat->Int)(i:Nat):Bool:=decide (e i≠0)
set_option maxRecDepth 100000 in
set_option maxHeartbeats 1600000 in
theorem cnz_any{W:World}{bx eb n:Nat}{e:Nat->Int}(i:Nat)(hi:i<n)(hx:W.cell? ⟨bx,0,none⟩=some (.slice (some ⟨eb,0,none⟩) n n))(h:bE W eb n e) :
 Calls Tryz.prog 64 #[.int .i64 i,.pointer (some ⟨bx,0,none⟩)] W fun e' w'=>e'=.returned (.bool (nzB e i))/\w'=W:=by
 have hc:=World.rowIs.cell h hi
 have i1:(0:Int)<=i/\(i:Int)<n:=by omega
 obtain⟨x,ex⟩:∃x,x=e i:=⟨_,rfl⟩
 rw[<-ex] at hc
 by_cases h0:x=0
 ·have HE:=zH (show nzB e i=false by unfold nzB;rw[<-ex,h0];decide)
  subst h0
  clear ex h
  go_enter Tryz.func64,Tryz.ntmps64
  go_wp2_with fail
  go_ret
  exact⟨by rw[HE.out];rfl,rfl⟩
 ·have HE:=zH (show nzB e i=true by unfold nzB;rw[<-ex];exact decide_eq_true h0)
  have hb:(x != (0:Int))=true:=bne_iff_ne.2 h0
  clear ex h h0
  go_enter Tryz.func64,Tryz.ntmps64
  go_wp2_with fail
  go_ret
  exact⟨by rw[HE.out];first | rfl | simp [hb],rfl⟩
set_option maxRecDepth 100000 in
set_option maxHeartbeats 1600000 in
theorem ti{n₀:Nat}{W:World}{bx eb n:Nat}{e:Nat->Int}{gv:Value}{g:List Nat}(hg:Row n₀ W gv (g.map Int.ofNat))(h2:g.length<=256)(h1:∀x∈g,x<n)(hx:W.cell? ⟨bx,0,none⟩=some (.slice (some ⟨eb,0,none⟩) n n))(h:bE W eb n e) :
 Calls Tryz.prog 106 #[gv,.func (.func 64) #[] #[.pointer (some ⟨bx,0,none⟩)]] W fun e' w'=>(∃z:Int,e'=.returned (.int .i64 z)/\decide (0<=z)=CC.hasB e g)/\w'=W:=by
 obtain⟨ga,gc,rfl⟩:=hg.form
 rw[List.length_map]
 have HG:=zH hg
 have H:=zH h
 have H1:=zH h1
 clear hg h h1
 go_enter Tryz.func106,Tryz.ntmps106
 go_wp2_with fail
 go_loopw [8] (fun k wr=>∃i:Nat,i<=g.length/\k=.int .i64 (i:Int)/\W=wr/\RowKit.Hid (∀j,j<i->nzB e (g[j]?.getD 0)=false)) (fun k _=>g.length-(intOf k).toNat)
 case atStart=>exact⟨0,by omega,rfl,rfl,zH (fun j hj=>absurd hj (Nat.not_lt_zero _))⟩
 case round =>
  obtain⟨i,hi,rfl,rfl,HI⟩:=hrel
  by_cases hlt:i<g.length
  ·have hgl:i<(g.map Int.ofNat).length:=by rw[List.length_map];exact hlt
   obtain⟨gb,gf,e1,hgc⟩:=Row.cellAt (show Row n₀ W (.slice ga g.length gc) (g.map Int.ofNat) by have:=HG.out;rwa [List.length_map] at this) hgl
   cases e1
   obtain⟨x,ex⟩:∃x,x=g[i]?.getD 0:=⟨_,rfl⟩
   have hxv:(g.map Int.ofNat)[i]?.getD 0=(x:Int):=by rw[ex,List.getElem?_map,List.getElem?_eq_getElem hlt];rfl
   rw[hxv] at hgc
   have hxn:x<n:=H1.out x (by rw[ex,List.getElem?_eq_getElem hlt];exact List.getElem_mem hlt)
   have i1:(0:Int)<=i/\(i:Int)<g.length:=by omega
   cases hz:nzB e x
   ·have HZ:=zH hz
    have HN:=zH (show nzB e (g[i]?.getD 0)=false by rw[<-ex];exact hz)
    clear hz hxv ex
    go_wp2_with (go_at_call 64;refine(cnz_any x hxn hx H.out).mono ?_;rintro e' w' ⟨rfl,e8⟩;rw[e8,HZ.out];clear e8)
    go_roundw
    case rel=>exact⟨i+1,by omega,by go_num,by first | rfl | trivial,zH (fun j hj=>by by_cases e2:j=i;rw[e2];exact HN.out;exact HI.out j (by omega))⟩
    case measure=>simp [intOf];omega
   ·have HZ:=zH hz
    have HE:=zH (show CC.hasB e g=true by
     unfold CC.hasB
     rw[List.any_eq_true]
     exact⟨x,by rw[ex,List.getElem?_eq_getElem hlt];exact List.getElem_mem hlt,hz⟩)
    clear hz hxv ex
    go_wp2_with (go_at_call 64;refine(cnz_any x hxn hx H.out).mono ?_;rintro e' w' ⟨rfl,e8⟩;rw[e8,HZ.out];clear e8)
    go_ret
    exact⟨⟨(i:Int),rfl,by rw[HE.out];exact decide_eq_true (by omega)⟩,rfl⟩
  ·have HE:=zH (show CC.hasB e g=false by
    unfold CC.hasB
    rw[List.any_eq_false]
    intro x hx
    obtain⟨j,hj,e2⟩:=List.mem_iff_getElem.1 hx
    have:=HI.out j (by omega)
    rw[List.getElem?_eq_getElem hj,Option.getD_some,e2] at this
    unfold nzB at this
    rw[this]
    decide)
   clear HI
   go_wp2_with fail
   go_ret
   exact⟨⟨-1,rfl,by rw[HE.out];rfl⟩,rfl⟩
set_option maxRecDepth 100000 in
set_option maxHeartbeats 1600000 in
theorem pH{W:World}{eb n:Nat}{e:Nat->Int}{gv:Value}{g:List Nat}(hg:Row W.heap.size W gv (g.map Int.ofNat))(h2:g.length<=256)(h1:∀x∈g,x<n)(h:bE W eb n e) :
 Calls Tryz.prog 38 #[.slice (some ⟨eb,0,none⟩) n n,gv] W fun e' w'=>e'=.returned (.bool (CC.hasB e g))/\Below W.heap.size W w':=by
 obtain⟨W0,eW0⟩:∃W0,W0=W.alloc (.cells #[.slice (some ⟨eb,0,none⟩) n n] 54):=⟨_,rfl⟩
 have HB0:=zH (show Below W.heap.size W W0 by rw[eW0];exact(Below.refl _ _).alloc (Nat.le_refl _) _)
 have HC0:=zH (show W0.heap[W.heap.size]?=some (.cells #[.slice (some ⟨eb,0,none⟩) n n] 54) by rw[eW0];exact dF rfl)
 have HI0:=zH (h.of (HB0.out.block _ (World.rowIs.lt h)))
 have HG0:=zH (hg.below HB0.out)
 have EW0:=zH eW0
 have H1:=zH h1
 clear eW0 hg h h1
 obtain⟨ga,gc,e1⟩:=HG0.out.form
 rw[List.length_map] at e1
 subst e1
 go_enter Tryz.func38,Tryz.ntmps38
 go_wp2_with fail
 rw[<-EW0.out]
 have HCF:=zH (show Calls Tryz.prog 63 #[.slice ga g.length gc,.func (.func 64) #[] #[.pointer (some ⟨W.heap.size,0,none⟩)]] W0 fun e' w'=>e'=.returned (.bool (CC.hasB e g))/\w'=W0 by
  clear EW0 HB0
  go_enter Tryz.func63,Tryz.ntmps63
  go_wp2_with fail
  refine(ti HG0.out h2 H1.out (cell_of_one HC0.out) HI0.out).mono ?_
  rintro e' w' ⟨⟨z,rfl,hz⟩,e8⟩
  rw[e8]
  have HZ:=zH hz
  obtain⟨t,ht⟩:∃t,t=decide (0<=z):=⟨_,rfl⟩
  have HT:=zH (show CC.hasB e g=t by rw[ht];exact hz.symm)
  have ht':=ht.symm
  clear hz e8 ht
  cases t
  ·have hz0:decide (0<=z)=false:=ht'
   clear ht'
   go_wp2_with fail
   go_ret
   exact⟨by rw[HT.out];rfl,rfl⟩
  ·have hz0:decide (0<=z)=true:=ht'
   clear ht'
   go_wp2_with fail
   go_ret
   exact⟨by rw[HT.out];rfl,rfl⟩)
 refine HCF.out.mono ?_
 rintro e' w' ⟨rfl,e8⟩
 rw[e8]
 clear e8
 go_wp2_with fail
 go_ret
 exact⟨rfl,HB0.out⟩
end
section
open Go.RowKit CC
def kF(vs us:List Value)(p:Nat):Prop:=us.length=vs.length/\∀k,k<vs.length->us[k]?=if k<p∨vs.length-p<=k then vs[vs.length-1-k]? else vs[k]?
theorem tj(vs:List Value):kF vs vs 0:=⟨rfl,fun k hk=>by rw[if_neg (by omega)]⟩
theorem turn_step{vs us:List Value}{p:Nat}(h:kF vs us p)(hp:p<vs.length-1-p){x y:Value}(hx:vs[p]?=some x)(hy:vs[vs.length-1-p]?=some y):kF vs ((us.set p y).set (vs.length-1-p) x) (p+1):=by
 obtain⟨hl,h⟩:=h
 refine⟨by simp [hl],fun k hk=>?_⟩
 rw[List.getElem?_set,List.length_set,hl,List.getElem?_set,hl]
 by_cases e1:vs.length-1-p=k
 ·rw[if_pos e1,if_pos (by omega),if_pos (by omega),<-e1,show vs.length-1-(vs.length-1-p)=p by omega,hx]
 ·rw[if_neg e1]
  by_cases e2:p=k
  ·rw[if_pos e2,if_pos (by omega),if_pos (by omega),<-e2,hy]
  ·rw[if_neg e2,h k hk]
   by_cases e3:k<p∨vs.length-p<=k
   ·rw[if_pos e3,if_pos (by omega)]
   ·rw[if_neg e3,if_neg (by omega)]
theorem turn_end{vs us:List Value}{p:Nat}(h:kF vs us p)(hp:vs.length<=2*p+1):us=vs.reverse:=by
 apply List.ext_getElem?
 intro k
 by_cases hk:k<vs.length
 ·rw[h.2 k hk,List.getElem?_reverse hk]
  by_cases e:k<p∨vs.length-p<=k
  ·rw[if_pos e]
  ·rw[if_neg e,show vs.length-1-k=k by omega]
 ·rw[List.getElem?_eq_none (by rw[h.1];omega),List.getElem?_eq_none (by rw[List.length_reverse];omega)]
theorem jY{W:World}{B e n cap g:Nat}{xs:List Value}(h:W.ownsRow B e 1 (.slice (some ⟨g,0,none⟩) n cap) n xs){k:Nat}{u:Value}(hk:xs[k]?=some u):W.cell? ⟨g,k,none⟩=some u:=by
 rcases aS h with⟨⟨a,c,e1,_⟩,e2⟩ | ⟨b,off,c,e1,_,_,hc⟩
 ·rw[e2] at hk;cases hk
 ·cases e1
  simpa using hc k u hk
theorem qT{W:World}{B e size n cap g:Nat}{xs:List Value}(h:W.ownsRow B e size (.slice (some ⟨g,0,none⟩) n cap) n xs)(k:Nat):W.frozen? ⟨g,k,none⟩=false:=by
 rcases h.2 with⟨e1,_⟩ | ⟨g',cap',cur,e1,_,hg,_⟩
 ·cases e1
 ·cases e1
  simp [World.frozen?,hg]
set_option maxRecDepth 100000 in
set_option maxHeartbeats 3200000 in
theorem pI{B n:Nat}{W:World}{v:Value}{vs:List Value}(h:W.ownsRow B 54 1 v n vs)(hn:n<=4294967296)(hv:∀k,k<n->∃a l c,vs[k]?=some (.slice a l c)) :
 Calls Tryz.prog 36 #[v] W fun e W'=>e=.returned (.tuple #[])/\W'.ownsRow B 54 1 v n vs.reverse/\W.grownBy W' v.ownBlock:=by
 have hvl:vs.length=n:=by have:=h.1;omega
 obtain⟨va,vc,rfl⟩:=CC.iG h
 have H:=zH h
 have HV:=zH hv
 have HL:=zH hvl
 clear h hv hvl
 go_enter Tryz.func36,Tryz.ntmps36
 go_wp2_with fail
 go_loopw [2,3] (fun i j wr=>∃(p:Nat) (us:List Value),2*p<=n/\i=.int .i64 (p:Int)/\j=.int .i64 ((n:Int)-1-p)/\RowKit.Hid (wr.ownsRow B 54 1 (.slice va n vc) n us/\W.grownBy wr (Value.slice va n vc).ownBlock/\kF vs us p)) (fun i _ _=>n-(intOf i).toNat)
 case atStart=>exact⟨0,vs,by omega,rfl,by go_num,zH ⟨H.out,⟨rfl,rfl,rfl,Nat.le_refl _,fun _ _ _=>rfl⟩,tj vs⟩⟩
 case round =>
  obtain⟨p,us,hp,rfl,rfl,HH⟩:=hrel
  by_cases hlt:2*p+1<n
  ·have j1:decide ((p:Int)<(n:Int)-1-p)=true:=decide_eq_true (by omega)
   obtain⟨ax,lx,cx,hx⟩:=HV.out p (by omega)
   obtain⟨ay,ly,cy,hy⟩:=HV.out (n-1-p) (by omega)
   have hq:(n:Int)-1-p=((n-1-p:Nat):Int):=by omega
   rw[hq] at j1
   rw[hq]
   obtain⟨q,eq⟩:∃q,q=n-1-p:=⟨_,rfl⟩
   have HQ:=zH eq
   rw[<-eq] at j1 hy
   rw[<-eq]
   have j2:decide (p<q)=true:=decide_eq_true (by omega)
   clear hq
   have hux:us[p]?=some (.slice ax lx cx):=by rw[HH.out.2.2.2 p (by rw[HL.out];omega),if_neg (by rw[HL.out];omega)];exact hx
   have huy:us[q]?=some (.slice ay ly cy):=by rw[HH.out.2.2.2 q (by rw[HL.out];omega),if_neg (by rw[HL.out];omega)];exact hy
   obtain⟨g,e1⟩:∃g,va=some ⟨g,0,none⟩:=by
    rcases HH.out.1.2 with⟨_,e2⟩ | ⟨g,cap,cur,e2,_⟩
    ·omega
    ·cases e2;exact⟨g,rfl⟩
   subst e1
   have hcx:=jY HH.out.1 hux
   have hcy:=jY HH.out.1 huy
   have i1:(0:Int)<=p/\(p:Int)<n:=by omega
   have i2:(0:Int)<=q/\(q:Int)<n:=by omega
   have hf1:=qT HH.out.1 p
   have HS1:=zH (World.ownsRow.stored HH.out.1 p (.slice ay ly cy))
   have HS2:=zH (World.ownsRow.stored HS1.out.1 q (.slice ax lx cx))
   have hf2:=qT HS1.out.1 q
   have HT:=zH (show kF vs ((us.set p (.slice ay ly cy)).set q (.slice ax lx cx)) (p+1) by
    have h1:=turn_step HH.out.2.2 (by rw[HL.out];omega) hx (by rw[HL.out,<-eq];exact hy)
    rwa [HL.out,<-eq] at h1)
   have HR:=zH hux
   have hcq:(wr.setCell ⟨g,p,none⟩ (.slice ay ly cy)).cell? ⟨g,q,none⟩=some (.slice ay ly cy):=jY HS1.out.1 (by rw[List.getElem?_set,if_neg (by omega)];exact huy)
   clear eq hx hy hux huy
   have hfA:wr.drew.frozen? ⟨g,p,none⟩=false:=hf1
   have hfB:(wr.drew.setCell ⟨g,p,none⟩ (.slice ay ly cy)).frozen? ⟨g,q,none⟩=false:=hf2
   have hcA:wr.drew.cell? ⟨g,p,none⟩=some (.slice ax lx cx):=hcx
   have hcB:(wr.drew.setCell ⟨g,p,none⟩ (.slice ay ly cy)).cell? ⟨g,q,none⟩=some (.slice ay ly cy):=hcq
   have HF:=zH (show ((wr.drew.setCell ⟨g,p,none⟩ (.slice ay ly cy)).setCell ⟨g,q,none⟩ (.slice ax lx cx)).ownsRow B 54 1 (.slice (some ⟨g,0,none⟩) n vc) n ((us.set p (.slice ay ly cy)).set q (.slice ax lx cx))/\W.grownBy ((wr.drew.setCell ⟨g,p,none⟩ (.slice ay ly cy)).setCell ⟨g,q,none⟩ (.slice ax lx cx)) (some g) by
    have h0:=HH.out.2.1
    have h1:=HS1.out.2
    have h2:=HS2.out.2
    exact⟨own_of_block HS2.out.1 (fun k e=>rfl),⟨h2.os.trans (h1.os.trans h0.os),h2.tape.trans (h1.tape.trans h0.tape),h2.output.trans (h1.output.trans h0.output),Nat.le_trans h0.size (Nat.le_trans h1.size h2.size),fun k hk hn=>(h2.block k (Nat.lt_of_lt_of_le hk (Nat.le_trans h0.size h1.size)) hn).trans ((h1.block k (Nat.lt_of_lt_of_le hk h0.size) hn).trans (h0.block k hk hn))⟩⟩)
   go_upto_region 3 with fail
   refine wp_region_held_drew (S:=(fun _=>True)) (by kernel_rfl) ?_ (fun hHeld=>?_)
   ·trivial
   refine tkV 0 (.slice (some ⟨g,0,none⟩) n vc) rfl (fun W hSW=>?_) hHeld ?_
   ·((try dsimp only at hSW);go_split_ands;go_simp <;> with_reducible rfl)
   try simp only[zA,zB,zC,Act.put,zD,zE,zF]
   refine tkV 1 (.int .i64 p) rfl (fun W hSW=>?_) hHeld ?_
   ·((try dsimp only at hSW);go_split_ands;go_simp <;> with_reducible rfl)
   try simp only[zA,zB,zC,Act.put,zD,zE,zF]
   refine tkV 2 (.slice (some ⟨g,0,none⟩) n vc) rfl (fun W hSW=>?_) hHeld ?_
   ·((try dsimp only at hSW);go_split_ands;go_simp <;> with_reducible rfl)
   try simp only[zA,zB,zC,Act.put,zD,zE,zF]
   refine tkV 3 (.int .i64 q) rfl (fun W hSW=>?_) hHeld ?_
   ·((try dsimp only at hSW);go_split_ands;go_simp <;> with_reducible rfl)
   try simp only[zA,zB,zC,Act.put,zD,zE,zF]
   refine tkV 4 (.slice (some ⟨g,0,none⟩) n vc) rfl (fun W hSW=>?_) hHeld ?_
   ·((try dsimp only at hSW);go_split_ands;go_simp <;> with_reducible rfl)
   try simp only[zA,zB,zC,Act.put,zD,zE,zF]
   refine tkV 5 (.int .i64 q) rfl (fun W hSW=>?_) hHeld ?_
   ·((try dsimp only at hSW);go_split_ands;go_simp <;> with_reducible rfl)
   try simp only[zA,zB,zC,Act.put,zD,zE,zF]
   refine tkV 6 (.pointer (some ⟨g,q,none⟩)) rfl (fun W hSW=>?_) hHeld ?_
   ·((try dsimp only at hSW);go_split_ands;go_simp <;> with_reducible rfl)
   try simp only[zA,zB,zC,Act.put,zD,zE,zF]
   refine tkV 8 (.slice (some ⟨g,0,none⟩) n vc) rfl (fun W hSW=>?_) hHeld ?_
   ·((try dsimp only at hSW);go_split_ands;go_simp <;> with_reducible rfl)
   try simp only[zA,zB,zC,Act.put,zD,zE,zF]
   refine tkV 9 (.int .i64 p) rfl (fun W hSW=>?_) hHeld ?_
   ·((try dsimp only at hSW);go_split_ands;go_simp <;> with_reducible rfl)
   try simp only[zA,zB,zC,Act.put,zD,zE,zF]
   refine tkV 10 (.pointer (some ⟨g,p,none⟩)) rfl (fun W hSW=>?_) hHeld ?_
   ·((try dsimp only at hSW);go_split_ands;go_simp <;> with_reducible rfl)
   try simp only[zA,zB,zC,Act.put,zD,zE,zF]
   refine wpAnyH_ready (rs:=[7,11]) (by kernel_rfl) (by simp) ?_
   refine AllReadyH.cons rfl (fun K hK=>?_) (AllReadyH.cons rfl (fun K hK=>?_) AllReadyH.nil)
   ·skip
    try simp only[zA,zB,zC]
    go_simp
    try go_wp2_with fail
    refine hK.out _ _ ?_ (fun hHeld=>?_)
    ·trivial
    clear hK K
    try simp only[zA,zB,zC,Act.put,zD,zE,zF]
    refine wpAnyH_ready (rs:=[11]) (by kernel_rfl) (by simp) ?_
    refine AllReadyH.cons rfl (fun K hK=>?_) AllReadyH.nil
    try simp only[zA,zB,zC]
    go_simp
    try go_wp2_with fail
    refine hK.out _ _ ?_ (fun hHeld=>?_)
    ·trivial
    clear hK K
    try simp only[zA,zB,zC,Act.put,zD,zE,zF]
    refine tkV 12 (.pointer (some ⟨g,p,none⟩)) rfl (fun W hSW=>?_) hHeld ?_
    ·((try dsimp only at hSW);go_split_ands;go_simp <;> with_reducible rfl)
    try simp only[zA,zB,zC,Act.put,zD,zE,zF]
    refine wpAnyH_ready (rs:=[13]) (by kernel_rfl) (by simp) ?_
    refine AllReadyH.cons rfl (fun K hK=>?_) AllReadyH.nil
    try simp only[zA,zB,zC]
    go_simp
    try go_wp2_with fail
    refine hK.out _ _ ?_ (fun hHeld=>?_)
    ·trivial
    clear hK K
    try simp only[zA,zB,zC,Act.put,zD,zE,zF]
    refine tkV 14 (.pointer (some ⟨g,q,none⟩)) rfl (fun W hSW=>?_) hHeld ?_
    ·((try dsimp only at hSW);go_split_ands;go_simp <;> with_reducible rfl)
    try simp only[zA,zB,zC,Act.put,zD,zE,zF]
    refine wpAnyH_ready (rs:=[15]) (by kernel_rfl) (by simp) ?_
    refine AllReadyH.cons rfl (fun K hK=>?_) AllReadyH.nil
    try simp only[zA,zB,zC]
    go_simp
    try go_wp2_with fail
    refine hK.out _ _ ?_ (fun hHeld=>?_)
    ·trivial
    clear hK K
    try simp only[zA,zB,zC,Act.put,zD,zE,zF]
    refine wpAnyH_done (by kernel_rfl) ?_ _
    clear hHeld
    go_wp2_with fail
    go_roundw
    case rel=>exact⟨p+1,_,by omega,by go_num,by have:=HQ.out;go_num,zH ⟨HF.out.1,HF.out.2,HT.out⟩⟩
    case measure=>simp [intOf];omega
   ·skip
    try simp only[zA,zB,zC]
    go_simp
    try go_wp2_with fail
    refine hK.out _ _ ?_ (fun hHeld=>?_)
    ·trivial
    clear hK K
    try simp only[zA,zB,zC,Act.put,zD,zE,zF]
    refine wpAnyH_ready (rs:=[7]) (by kernel_rfl) (by simp) ?_
    refine AllReadyH.cons rfl (fun K hK=>?_) AllReadyH.nil
    try simp only[zA,zB,zC]
    go_simp
    try go_wp2_with fail
    refine hK.out _ _ ?_ (fun hHeld=>?_)
    ·trivial
    clear hK K
    try simp only[zA,zB,zC,Act.put,zD,zE,zF]
    refine tkV 12 (.pointer (some ⟨g,p,none⟩)) rfl (fun W hSW=>?_) hHeld ?_
    ·((try dsimp only at hSW);go_split_ands;go_simp <;> with_reducible rfl)
    try simp only[zA,zB,zC,Act.put,zD,zE,zF]
    refine wpAnyH_ready (rs:=[13]) (by kernel_rfl) (by simp) ?_
    refine AllReadyH.cons rfl (fun K hK=>?_) AllReadyH.nil
    try simp only[zA,zB,zC]
    go_simp
    try go_wp2_with fail
    refine hK.out _ _ ?_ (fun hHeld=>?_)
    ·trivial
    clear hK K
    try simp only[zA,zB,zC,Act.put,zD,zE,zF]
    refine tkV 14 (.pointer (some ⟨g,q,none⟩)) rfl (fun W hSW=>?_) hHeld ?_
    ·((try dsimp only at hSW);go_split_ands;go_simp <;> with_reducible rfl)
    try simp only[zA,zB,zC,Act.put,zD,zE,zF]
    refine wpAnyH_ready (rs:=[15]) (by kernel_rfl) (by simp) ?_
    refine AllReadyH.cons rfl (fun K hK=>?_) AllReadyH.nil
    try simp only[zA,zB,zC]
    go_simp
    try go_wp2_with fail
    refine hK.out _ _ ?_ (fun hHeld=>?_)
    ·trivial
    clear hK K
    try simp only[zA,zB,zC,Act.put,zD,zE,zF]
    refine wpAnyH_done (by kernel_rfl) ?_ _
    clear hHeld
    go_wp2_with fail
    go_roundw
    case rel=>exact⟨p+1,_,by omega,by go_num,by have:=HQ.out;go_num,zH ⟨HF.out.1,HF.out.2,HT.out⟩⟩
    case measure=>simp [intOf];omega
  ·have j1:decide ((p:Int)<(n:Int)-1-p)=false:=decide_eq_false (by omega)
   have HE:=zH (turn_end HH.out.2.2 (by rw[HL.out];omega))
   go_wp2_with fail
   go_end0
   exact⟨rfl,by rw[<-HE.out];exact HH.out.1,HH.out.2.1⟩
end
section
open Go.RowKit CC
theorem CC.leadF_snoc(e:Nat->Int)(i:Nat)(l:List Nat)(j:Nat):CC.bC e i (l ++ [j])=CC.dO (CC.bC e i l) i j:=by unfold CC.bC;rw[List.foldl_append];rfl
theorem CC.leadS_bd{e:Nat->Int}{n i j:Nat}{M:Int}(hi:i<n)(h:∀x,x<n->-1<=e x/\e x<=M)(hM:0<=M):∀x,x<n->-1<=CC.dO e i j x/\CC.dO e i j x<=M+1:=by
 intro x hx
 rw[CC.iF]
 have h1:=h x hx
 have h2:=h i hi
 by_cases e1:x=j
 ·rw[if_pos e1,<-e1]
  unfold CC.comb
  by_cases c1:e i=0∨e x = -1
  ·rw[if_pos c1];omega
  ·rw[if_neg c1]
   by_cases c2:e i = -1
   ·rw[if_pos c2];omega
   ·rw[if_neg c2];omega
 ·rw[if_neg e1];omega
theorem CC.leadF_bd{e:Nat->Int}{n i:Nat}{M:Int}(hi:i<n)(hM:0<=M)(h:∀x,x<n->-1<=e x/\e x<=M):∀(l:List Nat) (x:Nat),x<n->-1<=CC.bC e i l x/\CC.bC e i l x<=M+l.length:=by
 intro l
 induction l generalizing e M with
 | nil=>intro x hx;have:=h x hx;show -1<=e x/\e x<=M+(0:Nat);omega
 | cons j t ih =>
   intro x hx
   have:=ih (e:=CC.dO e i j) (M:=M+1) (by omega) (CC.leadS_bd hi h hM) x hx
   rw[List.length_cons]
   show -1<=CC.bC (CC.dO e i j) i t x/\CC.bC (CC.dO e i j) i t x<=M+((t.length+1:Nat):Int)
   omega
set_option maxRecDepth 100000 in
set_option maxHeartbeats 6400000 in
theorem kG{n₀:Nat}{W:World}{eb n i:Nat}{e:Nat->Int}{M:Int}{rv:Value}{row:List Int}(h:bE W eb n e)(hi:i<n)(hrow:Row n₀ W rv row)(hn0:n₀<=eb)(hr:∀x∈row,0<=x/\x<n)(hl:row.length<=256)(hn:n<=256)(hb:∀x,x<n->-1<=e x/\e x<=M)(hM0:0<=M)(hM:M<=1099511627776) :
 Calls Tryz.prog 39 #[.slice (some ⟨eb,0,none⟩) n n,.int .i64 i,rv] W fun e' W'=>e'=.returned (.tuple #[])/\bE W' eb n (CC.bC e i (row.map Int.toNat))/\Kept eb W W':=by
 have HRW:=zH hrow
 have HB:=zH (fun(l:List Nat)=>CC.leadF_bd hi hM0 hb l)
 have HR:=zH hr
 have HI:=zH h
 have heb:=World.rowIs.lt h
 obtain⟨ra,rc,rfl⟩:=hrow.form
 clear h hrow hr hb
 go_enter Tryz.func39,Tryz.ntmps39
 go_wp2_with fail
 go_loopw [10] (fun k wr=>∃q:Nat,q<=row.length/\k=.int .i64 (q:Int)/\RowKit.Hid (bE wr eb n (CC.bC e i ((row.take q).map Int.toNat))/\Kept eb W wr)) (fun k _=>row.length-(intOf k).toNat)
 case atStart=>exact⟨0,by omega,rfl,zH ⟨HI.out,Kept.refl _ _⟩⟩
 case round =>
  obtain⟨q,hq,rfl,HH⟩:=hrel
  by_cases hlt:q<row.length
  ·have HW:=zH (HRW.out.below (HH.out.2.below (Below.refl n₀ W) hn0 (by omega)))
   obtain⟨rb,rf,e1,hrc⟩:=HW.out.cellAt hlt
   cases e1
   have hrin:=HR.out _ (GG.bn (d:=0) hlt)
   have htk:(row.take (q+1)).map Int.toNat=(row.take q).map Int.toNat ++ [(row[q]?.getD 0).toNat]:=by
    rw[List.take_succ_eq_append_getElem hlt,List.map_append,List.getElem?_eq_getElem hlt];rfl
   obtain⟨x,ex⟩:∃x,x=row[q]?.getD 0:=⟨_,rfl⟩
   rw[<-ex] at hrc hrin htk
   obtain⟨j,rfl⟩:∃j:Nat,x=(j:Int):=⟨x.toNat,by omega⟩
   have hjn:j<n:=by omega
   have HN:=zH (show CC.bC e i ((row.take (q+1)).map Int.toNat)=CC.dO (CC.bC e i ((row.take q).map Int.toNat)) i j by rw[htk,CC.leadF_snoc];rfl)
   obtain⟨E,hE⟩:∃E,E=CC.bC e i ((row.take q).map Int.toNat):=⟨_,rfl⟩
   have hbj:=HB.out ((row.take q).map Int.toNat)
   rw[<-hE] at HN HH hbj
   have hbi:=hbj i hi
   have hbj:=hbj j hjn
   rw[List.length_map,List.length_take] at hbi hbj
   clear hE ex htk hrin
   have hci:=World.rowIs.cell HH.out.1 hi
   have hcj:=World.rowIs.cell HH.out.1 hjn
   obtain⟨z,hz⟩:∃z,z=E i:=⟨_,rfl⟩
   obtain⟨y,hy⟩:∃y,y=E j:=⟨_,rfl⟩
   rw[<-hz] at hci hbi
   rw[<-hy] at hcj hbj
   have i1:(0:Int)<=i/\(i:Int)<n:=by omega
   have i2:(0:Int)<=j/\(j:Int)<n:=by omega
   have i3:(0:Int)<=q/\(q:Int)<row.length:=by omega
   by_cases c1:z=0
   ·have HE:=zH (show bE wr eb n (CC.bC e i ((row.take (q+1)).map Int.toNat)) by rw[HN.out];unfold CC.dO;rw[if_pos (.inl (by rw[<-hz];exact c1))];exact HH.out.1)
    subst c1
    clear hz hy
    go_wp2_with fail
    go_roundw
    case rel=>exact⟨q+1,by omega,by go_num,zH ⟨HE.out,HH.out.2⟩⟩
    case measure=>simp [intOf];omega
   ·have t1:(z == (0:Int))=false:=beq_eq_false_iff_ne.2 c1
    by_cases c2:y = -1
    ·have HE:=zH (show bE wr eb n (CC.bC e i ((row.take (q+1)).map Int.toNat)) by rw[HN.out];unfold CC.dO;rw[if_pos (.inr (by rw[<-hy];exact c2))];exact HH.out.1)
     subst c2
     clear hz hy c1
     go_wp2_with fail
     go_roundw
     case rel=>exact⟨q+1,by omega,by go_num,zH ⟨HE.out,HH.out.2⟩⟩
     case measure=>simp [intOf];omega
    ·have t2:(y == (-1:Int))=false:=beq_eq_false_iff_ne.2 c2
     have hfj:=World.rowIs.frozen HH.out.1 j
     by_cases c3:z = -1
     ·have HE:=zH (show bE (wr.setCell ⟨eb,j,none⟩ (.int .i64 (-1))) eb n (CC.bC e i ((row.take (q+1)).map Int.toNat)) from HH.out.1.set j (-1) (fun k=>by
       rw[HN.out];unfold CC.dO
       rw[if_neg (by rw[<-hz,<-hy];omega),if_pos (by rw[<-hz];exact c3)]))
      have HK:=zH (HH.out.2.set j (.int .i64 (-1)))
      subst c3
      clear hz hy c1 c2
      go_wp2_with fail
      go_roundw
      case rel=>exact⟨q+1,by omega,by go_num,zH ⟨HE.out,HK.out⟩⟩
      case measure=>simp [intOf];omega
     ·have t3:(z == (-1:Int))=false:=beq_eq_false_iff_ne.2 c3
      have HE:=zH (show bE (wr.drew.setCell ⟨eb,j,none⟩ (.int .i64 (max y (z+1)))) eb n (CC.bC e i ((row.take (q+1)).map Int.toNat)) from(show bE wr.drew eb n E from HH.out.1.of rfl).set j _ (fun k=>by
       rw[HN.out];unfold CC.dO
       rw[if_neg (by rw[<-hz,<-hy];omega),if_neg (by rw[<-hz];exact c3),<-hz,<-hy]))
      have HK:=zH (HH.out.2.drew.set j (.int .i64 (max y (z+1))))
      have hcA:wr.drew.cell? ⟨eb,i,none⟩=some (.int .i64 z):=hci
      have hcB:wr.drew.cell? ⟨eb,j,none⟩=some (.int .i64 y):=hcj
      have hfA:wr.drew.frozen? ⟨eb,j,none⟩=false:=hfj
      have hw:IntKind.i64.wrap (z+1)=z+1:=by rw[IntKind.wrap_i64];omega
      have hw2:wrap64 (z+1)=z+1:=by unfold wrap64;omega
      clear hz hy c1 c2 c3
      go_upto_region 3 with fail
      refine wp_region_held_drew (S:=(fun _=>True)) (by kernel_rfl) ?_ (fun hHeld=>?_)
      ·trivial
      refine tkV 0 (.slice (some ⟨eb,0,none⟩) n n) rfl (fun W hSW=>?_) hHeld ?_
      ·((try dsimp only at hSW);go_split_ands;go_simp <;> with_reducible rfl)
      try simp only[zA,zB,zC,Act.put,zD,zE,zF]
      refine tkV 1 (.int .i64 j) rfl (fun W hSW=>?_) hHeld ?_
      ·((try dsimp only at hSW);go_split_ands;go_simp <;> with_reducible rfl)
      try simp only[zA,zB,zC,Act.put,zD,zE,zF]
      refine tkV 2 (.slice (some ⟨eb,0,none⟩) n n) rfl (fun W hSW=>?_) hHeld ?_
      ·((try dsimp only at hSW);go_split_ands;go_simp <;> with_reducible rfl)
      try simp only[zA,zB,zC,Act.put,zD,zE,zF]
      refine tkV 3 (.int .i64 j) rfl (fun W hSW=>?_) hHeld ?_
      ·((try dsimp only at hSW);go_split_ands;go_simp <;> with_reducible rfl)
      try simp only[zA,zB,zC,Act.put,zD,zE,zF]
      refine tkV 4 (.pointer (some ⟨eb,j,none⟩)) rfl (fun W hSW=>?_) hHeld ?_
      ·((try dsimp only at hSW);go_split_ands;go_simp <;> with_reducible rfl)
      try simp only[zA,zB,zC,Act.put,zD,zE,zF]
      refine tkV 6 (.slice (some ⟨eb,0,none⟩) n n) rfl (fun W hSW=>?_) hHeld ?_
      ·((try dsimp only at hSW);go_split_ands;go_simp <;> with_reducible rfl)
      try simp only[zA,zB,zC,Act.put,zD,zE,zF]
      refine tkV 7 (.int .i64 i) rfl (fun W hSW=>?_) hHeld ?_
      ·((try dsimp only at hSW);go_split_ands;go_simp <;> with_reducible rfl)
      try simp only[zA,zB,zC,Act.put,zD,zE,zF]
      refine tkV 8 (.pointer (some ⟨eb,i,none⟩)) rfl (fun W hSW=>?_) hHeld ?_
      ·((try dsimp only at hSW);go_split_ands;go_simp <;> with_reducible rfl)
      try simp only[zA,zB,zC,Act.put,zD,zE,zF]
      refine wpAnyH_ready (rs:=[5,9]) (by kernel_rfl) (by simp) ?_
      refine AllReadyH.cons rfl (fun K hK=>?_) (AllReadyH.cons rfl (fun K hK=>?_) AllReadyH.nil)
      ·skip
       try simp only[zA,zB,zC]
       go_simp
       try go_wp2_with fail
       refine hK.out _ _ ?_ (fun hHeld=>?_)
       ·trivial
       clear hK K
       try simp only[zA,zB,zC,Act.put,zD,zE,zF]
       refine wpAnyH_ready (rs:=[9]) (by kernel_rfl) (by simp) ?_
       refine AllReadyH.cons rfl (fun K hK=>?_) AllReadyH.nil
       try simp only[zA,zB,zC]
       go_simp
       try go_wp2_with fail
       refine hK.out _ _ ?_ (fun hHeld=>?_)
       ·trivial
       clear hK K
       try simp only[zA,zB,zC,Act.put,zD,zE,zF]
       refine tkV 10 (.int .i64 (z+1)) rfl (fun W hSW=>?_) hHeld ?_
       ·((try dsimp only at hSW);go_split_ands;go_simp <;> with_reducible rfl)
       try simp only[zA,zB,zC,Act.put,zD,zE,zF]
       refine tkV 11 (.int .i64 (max y (z+1))) rfl (fun W hSW=>?_) hHeld ?_
       ·((try dsimp only at hSW);go_split_ands;go_simp <;> with_reducible rfl)
       try simp only[zA,zB,zC,Act.put,zD,zE,zF]
       refine tkV 12 (.pointer (some ⟨eb,j,none⟩)) rfl (fun W hSW=>?_) hHeld ?_
       ·((try dsimp only at hSW);go_split_ands;go_simp <;> with_reducible rfl)
       try simp only[zA,zB,zC,Act.put,zD,zE,zF]
       refine wpAnyH_ready (rs:=[13]) (by kernel_rfl) (by simp) ?_
       refine AllReadyH.cons rfl (fun K hK=>?_) AllReadyH.nil
       try simp only[zA,zB,zC]
       go_simp
       try go_wp2_with fail
       refine hK.out _ _ ?_ (fun hHeld=>?_)
       ·trivial
       clear hK K
       try simp only[zA,zB,zC,Act.put,zD,zE,zF]
       refine wpAnyH_done (by kernel_rfl) ?_ _
       clear hHeld
       go_wp2_with fail
       go_roundw
       case rel=>exact⟨q+1,by omega,by go_num,zH ⟨HE.out,HK.out⟩⟩
       case measure=>simp [intOf];omega
      ·skip
       try simp only[zA,zB,zC]
       go_simp
       try go_wp2_with fail
       refine hK.out _ _ ?_ (fun hHeld=>?_)
       ·trivial
       clear hK K
       try simp only[zA,zB,zC,Act.put,zD,zE,zF]
       refine tkV 10 (.int .i64 (z+1)) rfl (fun W hSW=>?_) hHeld ?_
       ·((try dsimp only at hSW);go_split_ands;go_simp <;> with_reducible rfl)
       try simp only[zA,zB,zC,Act.put,zD,zE,zF]
       refine wpAnyH_ready (rs:=[5]) (by kernel_rfl) (by simp) ?_
       refine AllReadyH.cons rfl (fun K hK=>?_) AllReadyH.nil
       try simp only[zA,zB,zC]
       go_simp
       try go_wp2_with fail
       refine hK.out _ _ ?_ (fun hHeld=>?_)
       ·trivial
       clear hK K
       try simp only[zA,zB,zC,Act.put,zD,zE,zF]
       refine tkV 11 (.int .i64 (max y (z+1))) rfl (fun W hSW=>?_) hHeld ?_
       ·((try dsimp only at hSW);go_split_ands;go_simp <;> with_reducible rfl)
       try simp only[zA,zB,zC,Act.put,zD,zE,zF]
       refine tkV 12 (.pointer (some ⟨eb,j,none⟩)) rfl (fun W hSW=>?_) hHeld ?_
       ·((try dsimp only at hSW);go_split_ands;go_simp <;> with_reducible rfl)
       try simp only[zA,zB,zC,Act.put,zD,zE,zF]
       refine wpAnyH_ready (rs:=[13]) (by kernel_rfl) (by simp) ?_
       refine AllReadyH.cons rfl (fun K hK=>?_) AllReadyH.nil
       try simp only[zA,zB,zC]
       go_simp
       try go_wp2_with fail
       refine hK.out _ _ ?_ (fun hHeld=>?_)
       ·trivial
       clear hK K
       try simp only[zA,zB,zC,Act.put,zD,zE,zF]
       refine wpAnyH_done (by kernel_rfl) ?_ _
       clear hHeld
       go_wp2_with fail
       go_roundw
       case rel=>exact⟨q+1,by omega,by go_num,zH ⟨HE.out,HK.out⟩⟩
       case measure=>simp [intOf];omega
  ·have HE:=zH (show bE wr eb n (CC.bC e i (row.map Int.toNat)) by
    have h1:=HH.out.1
    rwa [List.take_of_length_le (by omega)] at h1)
   go_wp2_with fail
   go_end0
   exact⟨rfl,HE.out,HH.out.2⟩
end
section
open Go.RowKit CC
theorem CC.groups_grp{L:Nat->Nat->Bool}{n:Nat}:∀(f:Nat) (T:Nat->Bool),∀g∈CC.bI L n f T,∃a,a<n/\g=CC.grp L n a:=by
 intro f
 induction f with
 | zero=>intro T g hg;simp [CC.bI] at hg
 | succ f ih =>
   intro T g hg
   cases e:CC.ct L n T with
   | none=>rw[CC.gu _ e] at hg;simp at hg
   | some a =>
     have e1:CC.bI L n (f+1) T=CC.grp L n a :: CC.bI L n f (CC.putM L T a n):=by
      show (match CC.ct L n T with | none=>[] | some a=>CC.grp L n a :: CC.bI L n f (CC.putM L T a n))=_
      rw[e]
     rw[e1] at hg
     rcases List.mem_cons.1 hg with h | h
     ·exact⟨a,(CC.jc e).1,h⟩
     ·exact ih _ g h
theorem CC.groups_len{L:Nat->Nat->Bool}{n:Nat}(hp:CC.Pre n L):∀(f:Nat) (T:Nat->Bool),(CC.bI L n f T).length<=GG.unv n T:=by
 intro f
 induction f with
 | zero=>intro T;simp [CC.bI]
 | succ f ih =>
   intro T
   cases e:CC.ct L n T with
   | none=>rw[CC.gu _ e];simp
   | some a =>
     have e1:CC.bI L n (f+1) T=CC.grp L n a :: CC.bI L n f (CC.putM L T a n):=by
      show (match CC.ct L n T with | none=>[] | some a=>CC.grp L n a :: CC.bI L n f (CC.putM L T a n))=_
      rw[e]
     have:=ih (CC.putM L T a n)
     have:=CC.jV hp e
     rw[e1,List.length_cons]
     omega
theorem qU{to:List (List Int)}(h:GG.al to=true){g:List Nat}(hg:g∈bw to):0<g.length/\g.length<=256/\∀x∈g,x<to.length:=by
 unfold bw at hg
 rw[if_pos h] at hg
 obtain⟨a,ha,rfl⟩:=CC.groups_grp _ _ g hg
 have hl:=GG.aC h
 refine⟨List.length_pos_of_mem (CC.qN (iE h) ha),?_,fun x hx=>(CC.gt.1 hx).1⟩
 have:=GG.pigeon to.length (CC.grp (aB to) to.length a) (fun x hx=>(CC.gt.1 hx).1) (CC.nQ _ _ _)
 omega
theorem qV{to:List (List Int)}(h:GG.al to=true):(bw to).length<=256:=by
 have hl:=GG.aC h
 unfold bw
 rw[if_pos h]
 have h1:=CC.groups_len (iE h) to.length (fun _=>false)
 have h2:=GG.ir to.length (fun _=>false)
 omega
def entT(to:List (List Int))(main t:Nat):Nat->Int:=((bw to).reverse.take t).foldl (CC.cI (GG.am to)) (CC.ge main)
theorem nX(to:List (List Int))(main:Nat):entT to main 0=CC.ge main:=by simp [entT]
theorem nY{to:List (List Int)}(main:Nat){t:Nat}(ht:t<(bw to).reverse.length):entT to main (t+1)=CC.cI (GG.am to) (entT to main t) ((bw to).reverse[t]?.getD []):=by
 unfold entT
 rw[List.take_succ_eq_append_getElem ht,List.foldl_append,List.getElem?_eq_getElem ht]
 rfl
theorem entT_all(to:List (List Int))(main:Nat){t:Nat}(ht:(bw to).reverse.length<=t):entT to main t=aR to main:=by
 unfold entT
 rw[List.take_of_length_le ht]
 rfl
def inT(adj:Nat->List Nat)(e:Nat->Int)(g:List Nat)(q:Nat):Nat->Int:=(g.take q).foldl (fun e i=>CC.bC e i (adj i)) (if CC.gd adj g && CC.hasB e g then CC.jp e g else e)
theorem mu(adj:Nat->List Nat)(e:Nat->Int){g:List Nat}{q:Nat}(hq:q<g.length):inT adj e g (q+1)=CC.bC (inT adj e g q) (g[q]?.getD 0) (adj (g[q]?.getD 0)):=by
 unfold inT
 rw[List.take_succ_eq_append_getElem hq,List.foldl_append,List.getElem?_eq_getElem hq]
 rfl
theorem lE(adj:Nat->List Nat)(e:Nat->Int){g:List Nat}{q:Nat}(hq:g.length<=q):inT adj e g q=CC.cI adj e g:=by
 unfold inT
 rw[List.take_of_length_le hq]
 rfl
theorem fold_bd{to:List (List Int)}(hr:GG.al to=true){M:Int}(hM:0<=M):∀(l:List Nat) (e:Nat->Int) (k:Nat),(∀x∈l,x<to.length)->(∀x,x<to.length->-1<=e x/\e x<=M+256*k)->∀x,x<to.length->-1<=l.foldl (fun e i=>CC.bC e i (GG.am to i)) e x/\l.foldl (fun e i=>CC.bC e i (GG.am to i)) e x<=M+256*((k+l.length:Nat):Int):=by
 intro l
 induction l with
 | nil=>intro e k _ h x hx;have:=h x hx;show -1<=e x/\e x<=_;rw[List.length_nil];omega
 | cons a t ih =>
   intro e k hl h x hx
   have hlen:=GG.aC hr
   have ha:=hl a List.mem_cons_self
   have hrl:=GG.dz (GG.aZ hr ha)
   have h1:=CC.leadF_bd (n:=to.length) ha (M:=M+256*k) (by omega) h (GG.am to a)
   rw[GG.oP] at h1
   have:=ih (CC.bC e a (GG.am to a)) (k+1) (fun y hy=>hl y (List.mem_cons_of_mem _ hy)) (fun y hy=>by have:=h1 y hy;omega) x hx
   rw[List.length_cons]
   show -1<=t.foldl _ (CC.bC e a (GG.am to a)) x/\t.foldl _ (CC.bC e a (GG.am to a)) x<=_
   omega
theorem inT_bd{to:List (List Int)}(hr:GG.al to=true){e:Nat->Int}{g:List Nat}{M:Int}(hM:0<=M)(hg:∀x∈g,x<to.length)(h:∀x,x<to.length->-1<=e x/\e x<=M)(q:Nat):∀x,x<to.length->-1<=inT (GG.am to) e g q x/\inT (GG.am to) e g q x<=M+256*(q:Int):=by
 intro x hx
 have h0:∀x,x<to.length->-1<=(if CC.gd (GG.am to) g && CC.hasB e g then CC.jp e g else e) x/\(if CC.gd (GG.am to) g && CC.hasB e g then CC.jp e g else e) x<=M+256*((0:Nat):Int):=by
  intro x hx
  have:=h x hx
  split
  ·unfold CC.jp
   split <;> omega
  ·omega
 have:=fold_bd hr hM (g.take q) _ 0 (fun y hy=>hg y (List.mem_of_mem_take hy)) h0 x hx
 have hq:(g.take q).length<=q:=by rw[List.length_take];omega
 unfold inT
 omega
theorem entT_bd{to:List (List Int)}(hr:GG.al to=true)(main:Nat):∀(t:Nat),t<=(bw to).reverse.length->∀x,x<to.length->-1<=entT to main t x/\entT to main t x<=1+65536*(t:Int):=by
 intro t
 induction t with
 | zero =>
   intro _ x hx
   rw[nX]
   unfold CC.ge
   split <;> omega
 | succ t ih =>
   intro ht x hx
   have hg:(bw to).reverse[t]?.getD []∈bw to:=List.mem_reverse.1 (GG.bn (by omega))
   obtain⟨_,h2,h3⟩:=qU hr hg
   rw[nY main (by omega),<-lE (GG.am to) _ (Nat.le_refl _)]
   have:=inT_bd hr (by omega) h3 (ih (by omega)) ((bw to).reverse[t]?.getD []).length x hx
   omega
def entL(to:List (List Int))(main:Int):List Int:=if GG.al to=true/\GG.inB to.length main=true then (List.range to.length).map (aR to main.toNat) else []
theorem bE.row{W:World}{g n:Nat}{f:Nat->Int}(h:bE W g n f):Row W.heap.size W (.slice (some ⟨g,0,none⟩) n n) ((List.range n).map f):=by
 have hl:(ap ((List.range n).map f)).length=n:=by simp [ap]
 refine .inr ⟨g,0,n,by rw[hl],World.rowIs.lt h,by rw[hl];exact Nat.le_refl _,fun j u hj=>?_⟩
 have hjn:j<n:=by
  have:=(List.getElem?_eq_some_iff.1 hj).1
  omega
 have hu:u=.int .i64 (f j):=by
  have:(ap ((List.range n).map f))[j]?=some (.int .i64 (f j)):=by simp [ap,hjn]
  rw[this] at hj
  exact(Option.some.inj hj).symm
 rw[hu,Nat.zero_add]
 exact World.rowIs.cell h hjn
end
end Go.Proofs.YtjngffgkllakaaaGreatDoor
