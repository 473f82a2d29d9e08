/- A part of a proof: laws that the last text uses. -/
import Derived.Test.YtjngffgkllakaaaGreatDoorZ09
import Derived.Test.YtjngffgkllakaaaGreatDoorZ11
set_option linter.unusedSimpArgs false
set_option linter.unusedVariables false
namespace Go.Proofs.YtjngffgkllakaaaGreatDoor
open List renaming getElem_toArray → zA, getElem_cons_succ → zB, getElem_cons_zero → zC, setIfInBounds_toArray → zD, set_cons_zero → zE, set_cons_succ → zF
open Lib renaming hid → zH
section
open Go.RowKit
theorem fS(w:World)(n:Nat):Below w.heap.size w (w.drewN n):=⟨rfl,rfl,rfl,Nat.le_refl _,fun _ _=>rfl⟩
set_option maxRecDepth 100000 in
set_option maxHeartbeats 1600000 in
theorem dl(s:ByteArray)(w:World)(hs:s.size<=140737488351232) :
 Calls Tryz.prog 108 #[.string s] w fun e w'=>e=.returned (.bool (bN s))/\Below w.heap.size w w':=by
 cases hn:fh s
 ·have HN:=zH (show bN s=false by unfold bN;rw[hn];rfl)
  have HNN:=zH hn
  clear hn
  go_enter Tryz.func108,Tryz.ntmps108
  go_wp2_with fail
  refine(oh s _ hs).mono ?_
  rintro e w' ⟨rfl,n,rfl⟩
  rw[HNN.out]
  go_wp2_with fail
  go_ret
  exact⟨af HN.out.symm,fS _ n⟩
 ·have HN:=zH (show bN s = !wordB s by unfold bN;rw[hn];rfl)
  have HNN:=zH hn
  clear hn
  go_enter Tryz.func108,Tryz.ntmps108
  go_wp2_with fail
  refine(oh s _ hs).mono ?_
  rintro e w' ⟨rfl,n,rfl⟩
  rw[HNN.out]
  go_wp2_with fail
  refine(rword_any s _).mono ?_
  rintro e w2 ⟨rfl,hb⟩
  have HB:=zH hb
  clear hb
  go_wp2_with fail
  go_ret
  exact⟨af HN.out.symm,(fS _ n).trans HB.out⟩
end
section
open Go.RowKit
theorem idx_le(p:Nat->Bool):∀f k j,k<=j->j<k+f->p j=true->bU p f k<=(j:Int)
 | 0,k,j,h1,h2,_=>by omega
 | f+1,k,j,h1,h2,h3=>by
   unfold bU
   by_cases hk:p k=true
   ·rw[if_pos hk];omega
   ·rw[if_neg hk]
    have:k≠j:=by intro e;subst e;exact hk h3
    exact idx_le p f (k+1) j (by omega) (by omega) h3
theorem level_le{ss:List ByteArray}{s:ByteArray}{j:Nat}(hj:j<ss.length)(h:(wd6 ss j).toList=s.toList):be ss s<=(j:Int):=by
 unfold be
 refine idx_le _ _ _ j (Nat.zero_le _) (by omega) ?_
 unfold eO
 rw[beq_iff_eq]
 exact h
theorem rO(ss:List ByteArray):∀f k,k+f=ss.length->(∀j,k<=j->j<ss.length->bN (wd6 ss j)=true/\be (ss.take j) (wd6 ss j)<0)->bQ ss f k=true
 | 0,k,_,_=>rfl
 | f+1,k,h,hj=>by
   obtain⟨h1,h2⟩:=hj k (Nat.le_refl _) (by omega)
   rw[mT h1 (by omega)]
   exact rO ss f (k+1) (by omega) (fun j h3 h4=>hj j (by omega) h4)
theorem mX{ss:List ByteArray}(h:∀i,i<ss.length->bN (wd6 ss i)=true/\be ss (wd6 ss i)=(i:Int)):dZ ss=true:=by
 refine rO ss _ _ (by omega) (fun i _ hi=>⟨(h i hi).1,?_⟩)
 apply Classical.byContradiction
 intro hn
 obtain⟨k,hk⟩:∃k:Nat,be (ss.take i) (wd6 ss i)=(k:Int):=⟨(be (ss.take i) (wd6 ss i)).toNat,by omega⟩
 obtain⟨hk1,hk2⟩:=oA hk
 rw[List.length_take] at hk1
 have hki:k<i:=by omega
 rw[take_wd hki] at hk2
 have:=level_le (show k<ss.length by omega) hk2
 rw[(h i hi).2] at this
 omega
theorem names_bad{ss:List ByteArray}{i:Nat}(hi:i<ss.length)(h:¬(bN (wd6 ss i)=true/\be ss (wd6 ss i)=(i:Int))):dZ ss=false:=by
 cases e:dZ ss
 ·rfl
 ·exact absurd ⟨(kR e i hi).1,mR e hi⟩ h
def chOk(N:Int)(cs:List (ByteArray × Int))(i:Nat):Prop:=bN (chAt cs i).1=true/\iH cs (chAt cs i).1=(i:Int)/\0<=(chAt cs i).2/\(chAt cs i).2<N
theorem tL{N:Int}{cs:List (ByteArray × Int)}(h32:cs.length<=32)(h:∀i,i<cs.length->chOk N cs i):bZ N cs=true:=by
 rw[oB h32 (fun k hk=>(h k hk).2.2)]
 refine mX (fun i hi=>?_)
 rw[List.length_map] at hi
 obtain⟨h1,h2,_⟩:=h i hi
 rw[lF hi,<-mS]
 exact⟨h1,h2⟩
theorem chans_bad{N:Int}{cs:List (ByteArray × Int)}{i:Nat}(hi:i<cs.length)(h:¬chOk N cs i):bZ N cs=false:=by
 cases e:bZ N cs
 ·rfl
 ·obtain⟨_,h2,h3⟩:=lu e
  refine absurd ⟨?_,?_,ch_lev h2 hi⟩ h
  ·have:=(kR h3 i (by rw[List.length_map];exact hi)).1
   rwa [lF hi] at this
  ·have:=mR h3 (a:=i) (by rw[List.length_map];exact hi)
   rwa [lF hi,<-mS] at this
theorem tM{st:PSt}{S:List Int}(h:S.length≠st.L.length):bg st S=false:=cM (fun e=>h (bP e).2.1)
end
section
open Go.RowKit
theorem fG{W0 V V':World}{p1 p2 p3:Addr}{x1 x2 x3:Value}(h:Below W0.heap.size W0 V/\V.cell? p1=some x1/\V.cell? p2=some x2/\V.cell? p3=some x3)(hb:Below V.heap.size V V') :
 Below W0.heap.size W0 V'/\V'.cell? p1=some x1/\V'.cell? p2=some x2/\V'.cell? p3=some x3 :=
 ⟨h.1.trans (hb.mono h.1.size),(hb.cell (bY h.2.1)).trans h.2.1,(hb.cell (bY h.2.2.1)).trans h.2.2.1,(hb.cell (bY h.2.2.2)).trans h.2.2.2⟩
theorem rc_at{W0 wr:World}{p1 p2 p3:Addr}{x1 x2 x3:Value}(hb:Below W0.heap.size W0 wr)(h1:W0.cell? p1=some x1)(h2:W0.cell? p2=some x2)(h3:W0.cell? p3=some x3) :
 Below W0.heap.size W0 wr.drew/\wr.drew.cell? p1=some x1/\wr.drew.cell? p2=some x2/\wr.drew.cell? p3=some x3 :=
 ⟨hb.drew,(hb.drew.cell (bY h1)).trans h1,(hb.drew.cell (bY h2)).trans h2,(hb.drew.cell (bY h3)).trans h3⟩
theorem kt{W0 V:World}{v:Value}{cs:List (ByteArray × Int)}{Q:Prop}(h:cT W0.heap.size W0 v cs)(hs:Below W0.heap.size W0 V/\Q):cT V.heap.size V v cs:=cV h hs.1
set_option maxRecDepth 100000 in
set_option maxHeartbeats 12800000 in
theorem gj(v0 v1 v2 v3:Value)(d:Int)(v:Value)(L:List ByteArray)(cs:List (ByteArray × Int))(w:World)(h0:Strs w.heap.size w v0 L)(hl0:L.length*16<=140737488351232)(hv:cT w.heap.size w v cs)(hl:cs.length*24<=140737488351232)(hz:∀j,j<cs.length->(chAt cs j).1.size<=140737488351232) :
 Calls Tryz.prog 110 #[.agg #[v0,v1,v2,v3,.int .i64 d],v] w fun e w'=>e=.returned (.bool (bZ L.length cs))/\Below w.heap.size w w':=by
 obtain⟨a,cap,rfl⟩:=hv.form
 obtain⟨a0,k0,rfl⟩:=h0.form
 have HB0:=zH (show Below w.heap.size w (w.alloc (.cells #[.slice a0 L.length k0,v1,v2,v3,.int .i64 d] 26)) from(Below.refl _ _).alloc (Nat.le_refl _) _)
 have HC0:=zH (kS w (.slice a0 L.length k0) v1 v2 v3 (.int .i64 d) 26 0 _ rfl)
 have HV:=zH (cV hv HB0.out)
 have HZ:=zH hz
 clear hv hz h0
 by_cases h32:cs.length<=32
 ·have H32:=zH h32
  go_enter Tryz.func110,Tryz.ntmps110
  go_wp2_with fail
  generalize w.alloc (.cells #[.slice a0 L.length k0,v1,v2,v3,.int .i64 d] 26)=W0 at HB0 HC0 HV ⊢
  go_loopw [5] (fun k wr=>∃i:Nat,i<=cs.length/\k=.int .i64 (i:Int)/\Below W0.heap.size W0 wr/\RowKit.Hid (∀j,j<i->chOk L.length cs j)) (fun k _=>cs.length-(intOf k).toNat)
  case atStart=>exact⟨0,Nat.zero_le _,rfl,Below.refl _ _,zH (fun j hj=>absurd hj (Nat.not_lt_zero _))⟩
  case round =>
  obtain⟨i,hi,rfl,hb,HK⟩:=hrel
  have HB1:=zH hb
  clear hb
  by_cases hlt:i<cs.length
  ·obtain⟨b,off,ea,hc1,hc2⟩:=HV.out.at hlt
   subst ea
   have i1:(0:Int)<=i/\(i:Int)<cs.length:=by omega
   have hzs:=HZ.out i hlt
   have hnx:chOk L.length cs i->∀j,j<i+1->chOk L.length cs j:=fun h j hj=>(Nat.lt_succ_iff_lt_or_eq.1 hj).elim (HK.out j) (fun e=>by rw[e];exact h)
   unfold chOk at hnx
   obtain⟨s,es⟩:∃s,s=(chAt cs i).1:=⟨_,rfl⟩
   obtain⟨l,el⟩:∃l,l=(chAt cs i).2:=⟨_,rfl⟩
   rw[<-es] at hc1 hzs
   rw[<-el] at hc2
   have hnx:(bN s=true/\iH cs s=(i:Int)/\0<=l/\l<L.length)->∀j,j<i+1->chOk L.length cs j:=fun h=>hnx (by rw[<-es,<-el];exact h)
   have HBAD:=zH (show ¬(bN s=true/\iH cs s=(i:Int)/\0<=l/\l<L.length)->bZ L.length cs=false from fun h=>chans_bad hlt (by unfold chOk;rw[<-es,<-el];exact h))
   clear es el
   have HNXX:=zH hnx
   clear hnx
   have HC1:=zH hc1
   have HC2:=zH hc2
   clear hc1 hc2
   go_wp2_with fail
   cases hp:bN s
   ·have HNM:=zH hp
    have HNO:=zH (HBAD.out (fun h=>by rw[hp] at h;cases h.1))
    clear hp
    refine wp_region_held_drew (S:=(fun V=>Below W0.heap.size W0 V/\V.cell? ⟨b,off+i*2,none⟩=some (.string s)/\V.cell? ⟨b,off+i*2+1,none⟩=some (.int .i64 l)/\V.cell? ⟨w.heap.size,0,none⟩=some (.slice a0 L.length k0))) (by kernel_rfl) ?_ (fun hHeld=>?_)
    ·exact rc_at HB1.out HC1.out HC2.out HC0.out
    refine tkV 0 (.slice (some ⟨b,off,none⟩) cs.length cap) rfl (fun W hSW=>?_) hHeld ?_
    ·((try dsimp only at hSW);go_split_ands;go_simp <;> with_reducible rfl)
    try simp only[zA,zB,zC,Act.put,zD,zE,zF]
    refine tkV 1 (.int .i64 (i:Int)) rfl (fun W hSW=>?_) hHeld ?_
    ·((try dsimp only at hSW);go_split_ands;go_simp <;> with_reducible rfl)
    try simp only[zA,zB,zC,Act.put,zD,zE,zF]
    refine tkV 2 (.pointer (some ⟨b,off+i*2,none⟩)) rfl (fun W hSW=>?_) hHeld ?_
    ·((try dsimp only at hSW);go_split_ands;go_simp <;> with_reducible rfl)
    try simp only[zA,zB,zC,Act.put,zD,zE,zF]
    refine tkV 3 (.pointer (some ⟨b,off+i*2,none⟩)) rfl (fun W hSW=>?_) hHeld ?_
    ·((try dsimp only at hSW);go_split_ands;go_simp <;> with_reducible rfl)
    try simp only[zA,zB,zC,Act.put,zD,zE,zF]
    refine tkV 4 (.string s) rfl (fun W hSW=>?_) hHeld ?_
    ·((try dsimp only at hSW);go_split_ands;go_simp <;> with_reducible rfl)
    try simp only[zA,zB,zC,Act.put,zD,zE,zF]
    refine wpAnyH_ready (rs:=[5]) (by kernel_rfl) (by simp) ?_
    refine AllReadyH.cons rfl (fun K hK=>?_) AllReadyH.nil
    try simp only[zA,zB,zC]
    go_simp
    (go_at_call 108;refine(dl s _ hzs).mono ?_;rintro e w' ⟨rfl,hb⟩;rw[HNM.out])
    try go_wp2_with fail
    refine hK.out _ _ ?_ (fun hHeld=>?_)
    ·exact fG (by assumption) (by assumption)
    clear hK K
    try simp only[zA,zB,zC,Act.put,zD,zE,zF]
    refine tkV 6 (.bool true) rfl (fun W hSW=>?_) hHeld ?_
    ·((try dsimp only at hSW);go_split_ands;go_simp <;> with_reducible rfl)
    try simp only[zA,zB,zC,Act.put,zD,zE,zF]
    refine tkV 7 (.bool true) rfl (fun W hSW=>?_) hHeld ?_
    ·((try dsimp only at hSW);go_split_ands;go_simp <;> with_reducible rfl)
    try simp only[zA,zB,zC,Act.put,zD,zE,zF]
    refine tkU 8 rfl hHeld ?_
    try simp only[zA,zB,zC,Act.put,zD,zE,zF]
    refine tkU 9 rfl hHeld ?_
    try simp only[zA,zB,zC,Act.put,zD,zE,zF]
    refine tkU 10 rfl hHeld ?_
    try simp only[zA,zB,zC,Act.put,zD,zE,zF]
    refine tkU 11 rfl hHeld ?_
    try simp only[zA,zB,zC,Act.put,zD,zE,zF]
    refine tkU 12 rfl hHeld ?_
    try simp only[zA,zB,zC,Act.put,zD,zE,zF]
    refine tkU 13 rfl hHeld ?_
    try simp only[zA,zB,zC,Act.put,zD,zE,zF]
    refine tkU 14 rfl hHeld ?_
    try simp only[zA,zB,zC,Act.put,zD,zE,zF]
    refine tkU 15 rfl hHeld ?_
    try simp only[zA,zB,zC,Act.put,zD,zE,zF]
    refine tkU 16 rfl hHeld ?_
    try simp only[zA,zB,zC,Act.put,zD,zE,zF]
    refine tkV 17 (.bool true) rfl (fun W hSW=>?_) hHeld ?_
    ·((try dsimp only at hSW);go_split_ands;go_simp <;> with_reducible rfl)
    try simp only[zA,zB,zC,Act.put,zD,zE,zF]
    refine tkV 18 (.bool true) rfl (fun W hSW=>?_) hHeld ?_
    ·((try dsimp only at hSW);go_split_ands;go_simp <;> with_reducible rfl)
    try simp only[zA,zB,zC,Act.put,zD,zE,zF]
    refine tkU 19 rfl hHeld ?_
    try simp only[zA,zB,zC,Act.put,zD,zE,zF]
    refine tkU 20 rfl hHeld ?_
    try simp only[zA,zB,zC,Act.put,zD,zE,zF]
    refine tkU 21 rfl hHeld ?_
    try simp only[zA,zB,zC,Act.put,zD,zE,zF]
    refine tkU 22 rfl hHeld ?_
    try simp only[zA,zB,zC,Act.put,zD,zE,zF]
    refine tkU 23 rfl hHeld ?_
    try simp only[zA,zB,zC,Act.put,zD,zE,zF]
    refine tkU 24 rfl hHeld ?_
    try simp only[zA,zB,zC,Act.put,zD,zE,zF]
    refine tkV 25 (.bool true) rfl (fun W hSW=>?_) hHeld ?_
    ·((try dsimp only at hSW);go_split_ands;go_simp <;> with_reducible rfl)
    try simp only[zA,zB,zC,Act.put,zD,zE,zF]
    refine tkV 26 (.bool true) rfl (fun W hSW=>?_) hHeld ?_
    ·((try dsimp only at hSW);go_split_ands;go_simp <;> with_reducible rfl)
    try simp only[zA,zB,zC,Act.put,zD,zE,zF]
    refine tkU 27 rfl hHeld ?_
    try simp only[zA,zB,zC,Act.put,zD,zE,zF]
    refine tkU 28 rfl hHeld ?_
    try simp only[zA,zB,zC,Act.put,zD,zE,zF]
    refine tkU 29 rfl hHeld ?_
    try simp only[zA,zB,zC,Act.put,zD,zE,zF]
    refine tkU 30 rfl hHeld ?_
    try simp only[zA,zB,zC,Act.put,zD,zE,zF]
    refine tkU 31 rfl hHeld ?_
    try simp only[zA,zB,zC,Act.put,zD,zE,zF]
    refine tkU 32 rfl hHeld ?_
    try simp only[zA,zB,zC,Act.put,zD,zE,zF]
    refine tkU 33 rfl hHeld ?_
    try simp only[zA,zB,zC,Act.put,zD,zE,zF]
    refine tkU 34 rfl hHeld ?_
    try simp only[zA,zB,zC,Act.put,zD,zE,zF]
    refine tkU 35 rfl hHeld ?_
    try simp only[zA,zB,zC,Act.put,zD,zE,zF]
    refine tkV 36 (.bool true) rfl (fun W hSW=>?_) hHeld ?_
    ·((try dsimp only at hSW);go_split_ands;go_simp <;> with_reducible rfl)
    try simp only[zA,zB,zC,Act.put,zD,zE,zF]
    refine wpAnyH_done (by kernel_rfl) ?_ _
    obtain⟨hb9,_⟩:=hHeld
    have HB9:=zH hb9
    clear hb9
    go_wp2_with fail
    go_ret
    exact⟨af HNO.out.symm,HB0.out.trans (HB9.out.mono HB0.out.size)⟩
   ·have HNM:=zH hp
    by_cases hc:iH cs s=(i:Int)
    ·have HCI:=zH hc
     have hne:((i:Int) != (i:Int))=false:=by simp
     by_cases h0:l<0
     ·have n0:decide (l<0)=true:=decide_eq_true h0
      have HNO:=zH (HBAD.out (fun h=>by have:=h.2.2.1;omega))
      clear hp hc h0
      refine wp_region_held_drew (S:=(fun V=>Below W0.heap.size W0 V/\V.cell? ⟨b,off+i*2,none⟩=some (.string s)/\V.cell? ⟨b,off+i*2+1,none⟩=some (.int .i64 l)/\V.cell? ⟨w.heap.size,0,none⟩=some (.slice a0 L.length k0))) (by kernel_rfl) ?_ (fun hHeld=>?_)
      ·exact rc_at HB1.out HC1.out HC2.out HC0.out
      refine tkV 0 (.slice (some ⟨b,off,none⟩) cs.length cap) rfl (fun W hSW=>?_) hHeld ?_
      ·((try dsimp only at hSW);go_split_ands;go_simp <;> with_reducible rfl)
      try simp only[zA,zB,zC,Act.put,zD,zE,zF]
      refine tkV 1 (.int .i64 (i:Int)) rfl (fun W hSW=>?_) hHeld ?_
      ·((try dsimp only at hSW);go_split_ands;go_simp <;> with_reducible rfl)
      try simp only[zA,zB,zC,Act.put,zD,zE,zF]
      refine tkV 2 (.pointer (some ⟨b,off+i*2,none⟩)) rfl (fun W hSW=>?_) hHeld ?_
      ·((try dsimp only at hSW);go_split_ands;go_simp <;> with_reducible rfl)
      try simp only[zA,zB,zC,Act.put,zD,zE,zF]
      refine tkV 3 (.pointer (some ⟨b,off+i*2,none⟩)) rfl (fun W hSW=>?_) hHeld ?_
      ·((try dsimp only at hSW);go_split_ands;go_simp <;> with_reducible rfl)
      try simp only[zA,zB,zC,Act.put,zD,zE,zF]
      refine tkV 4 (.string s) rfl (fun W hSW=>?_) hHeld ?_
      ·((try dsimp only at hSW);go_split_ands;go_simp <;> with_reducible rfl)
      try simp only[zA,zB,zC,Act.put,zD,zE,zF]
      refine wpAnyH_ready (rs:=[5]) (by kernel_rfl) (by simp) ?_
      refine AllReadyH.cons rfl (fun K hK=>?_) AllReadyH.nil
      try simp only[zA,zB,zC]
      go_simp
      (go_at_call 108;refine(dl s _ hzs).mono ?_;rintro e w' ⟨rfl,hb⟩;rw[HNM.out])
      try go_wp2_with fail
      refine hK.out _ _ ?_ (fun hHeld=>?_)
      ·exact fG (by assumption) (by assumption)
      clear hK K
      try simp only[zA,zB,zC,Act.put,zD,zE,zF]
      refine tkV 6 (.bool false) rfl (fun W hSW=>?_) hHeld ?_
      ·((try dsimp only at hSW);go_split_ands;go_simp <;> with_reducible rfl)
      try simp only[zA,zB,zC,Act.put,zD,zE,zF]
      refine tkV 7 (.bool false) rfl (fun W hSW=>?_) hHeld ?_
      ·((try dsimp only at hSW);go_split_ands;go_simp <;> with_reducible rfl)
      try simp only[zA,zB,zC,Act.put,zD,zE,zF]
      refine tkV 8 (.slice (some ⟨b,off,none⟩) cs.length cap) rfl (fun W hSW=>?_) hHeld ?_
      ·((try dsimp only at hSW);go_split_ands;go_simp <;> with_reducible rfl)
      try simp only[zA,zB,zC,Act.put,zD,zE,zF]
      refine tkV 9 (.slice (some ⟨b,off,none⟩) cs.length cap) rfl (fun W hSW=>?_) hHeld ?_
      ·((try dsimp only at hSW);go_split_ands;go_simp <;> with_reducible rfl)
      try simp only[zA,zB,zC,Act.put,zD,zE,zF]
      refine tkV 10 (.int .i64 (i:Int)) rfl (fun W hSW=>?_) hHeld ?_
      ·((try dsimp only at hSW);go_split_ands;go_simp <;> with_reducible rfl)
      try simp only[zA,zB,zC,Act.put,zD,zE,zF]
      refine tkV 11 (.pointer (some ⟨b,off+i*2,none⟩)) rfl (fun W hSW=>?_) hHeld ?_
      ·((try dsimp only at hSW);go_split_ands;go_simp <;> with_reducible rfl)
      try simp only[zA,zB,zC,Act.put,zD,zE,zF]
      refine tkV 12 (.pointer (some ⟨b,off+i*2,none⟩)) rfl (fun W hSW=>?_) hHeld ?_
      ·((try dsimp only at hSW);go_split_ands;go_simp <;> with_reducible rfl)
      try simp only[zA,zB,zC,Act.put,zD,zE,zF]
      refine tkV 13 (.string s) rfl (fun W hSW=>?_) hHeld ?_
      ·((try dsimp only at hSW);go_split_ands;go_simp <;> with_reducible rfl)
      try simp only[zA,zB,zC,Act.put,zD,zE,zF]
      refine tkV 15 (.int .i64 (i:Int)) rfl (fun W hSW=>?_) hHeld ?_
      ·((try dsimp only at hSW);go_split_ands;go_simp <;> with_reducible rfl)
      try simp only[zA,zB,zC,Act.put,zD,zE,zF]
      refine wpAnyH_ready (rs:=[14]) (by kernel_rfl) (by simp) ?_
      refine AllReadyH.cons rfl (fun K hK=>?_) AllReadyH.nil
      try simp only[zA,zB,zC]
      go_simp
      (go_at_call 164;refine(jd (.slice (some ⟨b,off,none⟩) cs.length cap) cs s _ _ (Nat.le_refl _) (kt HV.out hHeld) (by omega)).mono ?_;rintro e w' ⟨rfl,hb⟩;rw[HCI.out])
      try go_wp2_with fail
      refine hK.out _ _ ?_ (fun hHeld=>?_)
      ·exact fG (by assumption) (by assumption)
      clear hK K
      try simp only[zA,zB,zC,Act.put,zD,zE,zF]
      refine tkV 16 (.bool false) rfl (fun W hSW=>?_) hHeld ?_
      ·((try dsimp only at hSW);go_split_ands;go_simp <;> with_reducible rfl)
      try simp only[zA,zB,zC,Act.put,zD,zE,zF]
      refine tkV 17 (.bool false) rfl (fun W hSW=>?_) hHeld ?_
      ·((try dsimp only at hSW);go_split_ands;go_simp <;> with_reducible rfl)
      try simp only[zA,zB,zC,Act.put,zD,zE,zF]
      refine tkV 18 (.bool false) rfl (fun W hSW=>?_) hHeld ?_
      ·((try dsimp only at hSW);go_split_ands;go_simp <;> with_reducible rfl)
      try simp only[zA,zB,zC,Act.put,zD,zE,zF]
      refine tkV 19 (.slice (some ⟨b,off,none⟩) cs.length cap) rfl (fun W hSW=>?_) hHeld ?_
      ·((try dsimp only at hSW);go_split_ands;go_simp <;> with_reducible rfl)
      try simp only[zA,zB,zC,Act.put,zD,zE,zF]
      refine tkV 20 (.int .i64 (i:Int)) rfl (fun W hSW=>?_) hHeld ?_
      ·((try dsimp only at hSW);go_split_ands;go_simp <;> with_reducible rfl)
      try simp only[zA,zB,zC,Act.put,zD,zE,zF]
      refine tkV 21 (.pointer (some ⟨b,off+i*2,none⟩)) rfl (fun W hSW=>?_) hHeld ?_
      ·((try dsimp only at hSW);go_split_ands;go_simp <;> with_reducible rfl)
      try simp only[zA,zB,zC,Act.put,zD,zE,zF]
      refine tkV 22 (.pointer (some ⟨b,off+i*2+1,none⟩)) rfl (fun W hSW=>?_) hHeld ?_
      ·((try dsimp only at hSW);go_split_ands;go_simp <;> with_reducible rfl)
      try simp only[zA,zB,zC,Act.put,zD,zE,zF]
      refine tkV 23 (.int .i64 l) rfl (fun W hSW=>?_) hHeld ?_
      ·((try dsimp only at hSW);go_split_ands;go_simp <;> with_reducible rfl)
      try simp only[zA,zB,zC,Act.put,zD,zE,zF]
      refine tkV 24 (.bool true) rfl (fun W hSW=>?_) hHeld ?_
      ·((try dsimp only at hSW);go_split_ands;go_simp <;> with_reducible rfl)
      try simp only[zA,zB,zC,Act.put,zD,zE,zF]
      refine tkV 25 (.bool true) rfl (fun W hSW=>?_) hHeld ?_
      ·((try dsimp only at hSW);go_split_ands;go_simp <;> with_reducible rfl)
      try simp only[zA,zB,zC,Act.put,zD,zE,zF]
      refine tkV 26 (.bool true) rfl (fun W hSW=>?_) hHeld ?_
      ·((try dsimp only at hSW);go_split_ands;go_simp <;> with_reducible rfl)
      try simp only[zA,zB,zC,Act.put,zD,zE,zF]
      refine tkU 27 rfl hHeld ?_
      try simp only[zA,zB,zC,Act.put,zD,zE,zF]
      refine tkU 28 rfl hHeld ?_
      try simp only[zA,zB,zC,Act.put,zD,zE,zF]
      refine tkU 29 rfl hHeld ?_
      try simp only[zA,zB,zC,Act.put,zD,zE,zF]
      refine tkU 30 rfl hHeld ?_
      try simp only[zA,zB,zC,Act.put,zD,zE,zF]
      refine tkU 31 rfl hHeld ?_
      try simp only[zA,zB,zC,Act.put,zD,zE,zF]
      refine tkU 32 rfl hHeld ?_
      try simp only[zA,zB,zC,Act.put,zD,zE,zF]
      refine tkU 33 rfl hHeld ?_
      try simp only[zA,zB,zC,Act.put,zD,zE,zF]
      refine tkU 34 rfl hHeld ?_
      try simp only[zA,zB,zC,Act.put,zD,zE,zF]
      refine tkU 35 rfl hHeld ?_
      try simp only[zA,zB,zC,Act.put,zD,zE,zF]
      refine tkV 36 (.bool true) rfl (fun W hSW=>?_) hHeld ?_
      ·((try dsimp only at hSW);go_split_ands;go_simp <;> with_reducible rfl)
      try simp only[zA,zB,zC,Act.put,zD,zE,zF]
      refine wpAnyH_done (by kernel_rfl) ?_ _
      obtain⟨hb9,_⟩:=hHeld
      have HB9:=zH hb9
      clear hb9
      go_wp2_with fail
      go_ret
      exact⟨af HNO.out.symm,HB0.out.trans (HB9.out.mono HB0.out.size)⟩
     ·have n0:decide (l<0)=false:=decide_eq_false h0
      by_cases h1:(L.length:Int)<=l
      ·have n1:decide ((L.length:Int)<=l)=true:=decide_eq_true h1
       have HNO:=zH (HBAD.out (fun h=>by have:=h.2.2.2;omega))
       clear hp hc h0 h1
       refine wp_region_held_drew (S:=(fun V=>Below W0.heap.size W0 V/\V.cell? ⟨b,off+i*2,none⟩=some (.string s)/\V.cell? ⟨b,off+i*2+1,none⟩=some (.int .i64 l)/\V.cell? ⟨w.heap.size,0,none⟩=some (.slice a0 L.length k0))) (by kernel_rfl) ?_ (fun hHeld=>?_)
       ·exact rc_at HB1.out HC1.out HC2.out HC0.out
       refine tkV 0 (.slice (some ⟨b,off,none⟩) cs.length cap) rfl (fun W hSW=>?_) hHeld ?_
       ·((try dsimp only at hSW);go_split_ands;go_simp <;> with_reducible rfl)
       try simp only[zA,zB,zC,Act.put,zD,zE,zF]
       refine tkV 1 (.int .i64 (i:Int)) rfl (fun W hSW=>?_) hHeld ?_
       ·((try dsimp only at hSW);go_split_ands;go_simp <;> with_reducible rfl)
       try simp only[zA,zB,zC,Act.put,zD,zE,zF]
       refine tkV 2 (.pointer (some ⟨b,off+i*2,none⟩)) rfl (fun W hSW=>?_) hHeld ?_
       ·((try dsimp only at hSW);go_split_ands;go_simp <;> with_reducible rfl)
       try simp only[zA,zB,zC,Act.put,zD,zE,zF]
       refine tkV 3 (.pointer (some ⟨b,off+i*2,none⟩)) rfl (fun W hSW=>?_) hHeld ?_
       ·((try dsimp only at hSW);go_split_ands;go_simp <;> with_reducible rfl)
       try simp only[zA,zB,zC,Act.put,zD,zE,zF]
       refine tkV 4 (.string s) rfl (fun W hSW=>?_) hHeld ?_
       ·((try dsimp only at hSW);go_split_ands;go_simp <;> with_reducible rfl)
       try simp only[zA,zB,zC,Act.put,zD,zE,zF]
       refine wpAnyH_ready (rs:=[5]) (by kernel_rfl) (by simp) ?_
       refine AllReadyH.cons rfl (fun K hK=>?_) AllReadyH.nil
       try simp only[zA,zB,zC]
       go_simp
       (go_at_call 108;refine(dl s _ hzs).mono ?_;rintro e w' ⟨rfl,hb⟩;rw[HNM.out])
       try go_wp2_with fail
       refine hK.out _ _ ?_ (fun hHeld=>?_)
       ·exact fG (by assumption) (by assumption)
       clear hK K
       try simp only[zA,zB,zC,Act.put,zD,zE,zF]
       refine tkV 6 (.bool false) rfl (fun W hSW=>?_) hHeld ?_
       ·((try dsimp only at hSW);go_split_ands;go_simp <;> with_reducible rfl)
       try simp only[zA,zB,zC,Act.put,zD,zE,zF]
       refine tkV 7 (.bool false) rfl (fun W hSW=>?_) hHeld ?_
       ·((try dsimp only at hSW);go_split_ands;go_simp <;> with_reducible rfl)
       try simp only[zA,zB,zC,Act.put,zD,zE,zF]
       refine tkV 8 (.slice (some ⟨b,off,none⟩) cs.length cap) rfl (fun W hSW=>?_) hHeld ?_
       ·((try dsimp only at hSW);go_split_ands;go_simp <;> with_reducible rfl)
       try simp only[zA,zB,zC,Act.put,zD,zE,zF]
       refine tkV 9 (.slice (some ⟨b,off,none⟩) cs.length cap) rfl (fun W hSW=>?_) hHeld ?_
       ·((try dsimp only at hSW);go_split_ands;go_simp <;> with_reducible rfl)
       try simp only[zA,zB,zC,Act.put,zD,zE,zF]
       refine tkV 10 (.int .i64 (i:Int)) rfl (fun W hSW=>?_) hHeld ?_
       ·((try dsimp only at hSW);go_split_ands;go_simp <;> with_reducible rfl)
       try simp only[zA,zB,zC,Act.put,zD,zE,zF]
       refine tkV 11 (.pointer (some ⟨b,off+i*2,none⟩)) rfl (fun W hSW=>?_) hHeld ?_
       ·((try dsimp only at hSW);go_split_ands;go_simp <;> with_reducible rfl)
       try simp only[zA,zB,zC,Act.put,zD,zE,zF]
       refine tkV 12 (.pointer (some ⟨b,off+i*2,none⟩)) rfl (fun W hSW=>?_) hHeld ?_
       ·((try dsimp only at hSW);go_split_ands;go_simp <;> with_reducible rfl)
       try simp only[zA,zB,zC,Act.put,zD,zE,zF]
       refine tkV 13 (.string s) rfl (fun W hSW=>?_) hHeld ?_
       ·((try dsimp only at hSW);go_split_ands;go_simp <;> with_reducible rfl)
       try simp only[zA,zB,zC,Act.put,zD,zE,zF]
       refine tkV 15 (.int .i64 (i:Int)) rfl (fun W hSW=>?_) hHeld ?_
       ·((try dsimp only at hSW);go_split_ands;go_simp <;> with_reducible rfl)
       try simp only[zA,zB,zC,Act.put,zD,zE,zF]
       refine wpAnyH_ready (rs:=[14]) (by kernel_rfl) (by simp) ?_
       refine AllReadyH.cons rfl (fun K hK=>?_) AllReadyH.nil
       try simp only[zA,zB,zC]
       go_simp
       (go_at_call 164;refine(jd (.slice (some ⟨b,off,none⟩) cs.length cap) cs s _ _ (Nat.le_refl _) (kt HV.out hHeld) (by omega)).mono ?_;rintro e w' ⟨rfl,hb⟩;rw[HCI.out])
       try go_wp2_with fail
       refine hK.out _ _ ?_ (fun hHeld=>?_)
       ·exact fG (by assumption) (by assumption)
       clear hK K
       try simp only[zA,zB,zC,Act.put,zD,zE,zF]
       refine tkV 16 (.bool false) rfl (fun W hSW=>?_) hHeld ?_
       ·((try dsimp only at hSW);go_split_ands;go_simp <;> with_reducible rfl)
       try simp only[zA,zB,zC,Act.put,zD,zE,zF]
       refine tkV 17 (.bool false) rfl (fun W hSW=>?_) hHeld ?_
       ·((try dsimp only at hSW);go_split_ands;go_simp <;> with_reducible rfl)
       try simp only[zA,zB,zC,Act.put,zD,zE,zF]
       refine tkV 18 (.bool false) rfl (fun W hSW=>?_) hHeld ?_
       ·((try dsimp only at hSW);go_split_ands;go_simp <;> with_reducible rfl)
       try simp only[zA,zB,zC,Act.put,zD,zE,zF]
       refine tkV 19 (.slice (some ⟨b,off,none⟩) cs.length cap) rfl (fun W hSW=>?_) hHeld ?_
       ·((try dsimp only at hSW);go_split_ands;go_simp <;> with_reducible rfl)
       try simp only[zA,zB,zC,Act.put,zD,zE,zF]
       refine tkV 20 (.int .i64 (i:Int)) rfl (fun W hSW=>?_) hHeld ?_
       ·((try dsimp only at hSW);go_split_ands;go_simp <;> with_reducible rfl)
       try simp only[zA,zB,zC,Act.put,zD,zE,zF]
       refine tkV 21 (.pointer (some ⟨b,off+i*2,none⟩)) rfl (fun W hSW=>?_) hHeld ?_
       ·((try dsimp only at hSW);go_split_ands;go_simp <;> with_reducible rfl)
       try simp only[zA,zB,zC,Act.put,zD,zE,zF]
       refine tkV 22 (.pointer (some ⟨b,off+i*2+1,none⟩)) rfl (fun W hSW=>?_) hHeld ?_
       ·((try dsimp only at hSW);go_split_ands;go_simp <;> with_reducible rfl)
       try simp only[zA,zB,zC,Act.put,zD,zE,zF]
       refine tkV 23 (.int .i64 l) rfl (fun W hSW=>?_) hHeld ?_
       ·((try dsimp only at hSW);go_split_ands;go_simp <;> with_reducible rfl)
       try simp only[zA,zB,zC,Act.put,zD,zE,zF]
       refine tkV 24 (.bool false) rfl (fun W hSW=>?_) hHeld ?_
       ·((try dsimp only at hSW);go_split_ands;go_simp <;> with_reducible rfl)
       try simp only[zA,zB,zC,Act.put,zD,zE,zF]
       refine tkV 25 (.bool false) rfl (fun W hSW=>?_) hHeld ?_
       ·((try dsimp only at hSW);go_split_ands;go_simp <;> with_reducible rfl)
       try simp only[zA,zB,zC,Act.put,zD,zE,zF]
       refine tkV 26 (.bool false) rfl (fun W hSW=>?_) hHeld ?_
       ·((try dsimp only at hSW);go_split_ands;go_simp <;> with_reducible rfl)
       try simp only[zA,zB,zC,Act.put,zD,zE,zF]
       refine tkV 27 (.slice (some ⟨b,off,none⟩) cs.length cap) rfl (fun W hSW=>?_) hHeld ?_
       ·((try dsimp only at hSW);go_split_ands;go_simp <;> with_reducible rfl)
       try simp only[zA,zB,zC,Act.put,zD,zE,zF]
       refine tkV 28 (.int .i64 (i:Int)) rfl (fun W hSW=>?_) hHeld ?_
       ·((try dsimp only at hSW);go_split_ands;go_simp <;> with_reducible rfl)
       try simp only[zA,zB,zC,Act.put,zD,zE,zF]
       refine tkV 29 (.pointer (some ⟨b,off+i*2,none⟩)) rfl (fun W hSW=>?_) hHeld ?_
       ·((try dsimp only at hSW);go_split_ands;go_simp <;> with_reducible rfl)
       try simp only[zA,zB,zC,Act.put,zD,zE,zF]
       refine tkV 30 (.pointer (some ⟨b,off+i*2+1,none⟩)) rfl (fun W hSW=>?_) hHeld ?_
       ·((try dsimp only at hSW);go_split_ands;go_simp <;> with_reducible rfl)
       try simp only[zA,zB,zC,Act.put,zD,zE,zF]
       refine tkV 31 (.int .i64 l) rfl (fun W hSW=>?_) hHeld ?_
       ·((try dsimp only at hSW);go_split_ands;go_simp <;> with_reducible rfl)
       try simp only[zA,zB,zC,Act.put,zD,zE,zF]
       refine tkV 32 (.pointer (some ⟨w.heap.size,0,none⟩)) rfl (fun W hSW=>?_) hHeld ?_
       ·((try dsimp only at hSW);go_split_ands;go_simp <;> with_reducible rfl)
       try simp only[zA,zB,zC,Act.put,zD,zE,zF]
       refine tkV 33 (.slice a0 L.length k0) rfl (fun W hSW=>?_) hHeld ?_
       ·((try dsimp only at hSW);go_split_ands;go_simp <;> with_reducible rfl)
       try simp only[zA,zB,zC,Act.put,zD,zE,zF]
       refine tkV 34 (.int .i64 (L.length:Int)) rfl (fun W hSW=>?_) hHeld ?_
       ·((try dsimp only at hSW);go_split_ands;go_simp <;> with_reducible rfl)
       try simp only[zA,zB,zC,Act.put,zD,zE,zF]
       refine tkV 35 (.bool true) rfl (fun W hSW=>?_) hHeld ?_
       ·((try dsimp only at hSW);go_split_ands;go_simp <;> with_reducible rfl)
       try simp only[zA,zB,zC,Act.put,zD,zE,zF]
       refine tkV 36 (.bool true) rfl (fun W hSW=>?_) hHeld ?_
       ·((try dsimp only at hSW);go_split_ands;go_simp <;> with_reducible rfl)
       try simp only[zA,zB,zC,Act.put,zD,zE,zF]
       refine wpAnyH_done (by kernel_rfl) ?_ _
       obtain⟨hb9,_⟩:=hHeld
       have HB9:=zH hb9
       clear hb9
       go_wp2_with fail
       go_ret
       exact⟨af HNO.out.symm,HB0.out.trans (HB9.out.mono HB0.out.size)⟩
      ·have n1:decide ((L.length:Int)<=l)=false:=decide_eq_false h1
       have HNX:=zH (HNXX.out ⟨hp,hc,by omega,by omega⟩)
       clear hp hc h0 h1
       refine wp_region_held_drew (S:=(fun V=>Below W0.heap.size W0 V/\V.cell? ⟨b,off+i*2,none⟩=some (.string s)/\V.cell? ⟨b,off+i*2+1,none⟩=some (.int .i64 l)/\V.cell? ⟨w.heap.size,0,none⟩=some (.slice a0 L.length k0))) (by kernel_rfl) ?_ (fun hHeld=>?_)
       ·exact rc_at HB1.out HC1.out HC2.out HC0.out
       refine tkV 0 (.slice (some ⟨b,off,none⟩) cs.length cap) rfl (fun W hSW=>?_) hHeld ?_
       ·((try dsimp only at hSW);go_split_ands;go_simp <;> with_reducible rfl)
       try simp only[zA,zB,zC,Act.put,zD,zE,zF]
       refine tkV 1 (.int .i64 (i:Int)) rfl (fun W hSW=>?_) hHeld ?_
       ·((try dsimp only at hSW);go_split_ands;go_simp <;> with_reducible rfl)
       try simp only[zA,zB,zC,Act.put,zD,zE,zF]
       refine tkV 2 (.pointer (some ⟨b,off+i*2,none⟩)) rfl (fun W hSW=>?_) hHeld ?_
       ·((try dsimp only at hSW);go_split_ands;go_simp <;> with_reducible rfl)
       try simp only[zA,zB,zC,Act.put,zD,zE,zF]
       refine tkV 3 (.pointer (some ⟨b,off+i*2,none⟩)) rfl (fun W hSW=>?_) hHeld ?_
       ·((try dsimp only at hSW);go_split_ands;go_simp <;> with_reducible rfl)
       try simp only[zA,zB,zC,Act.put,zD,zE,zF]
       refine tkV 4 (.string s) rfl (fun W hSW=>?_) hHeld ?_
       ·((try dsimp only at hSW);go_split_ands;go_simp <;> with_reducible rfl)
       try simp only[zA,zB,zC,Act.put,zD,zE,zF]
       refine wpAnyH_ready (rs:=[5]) (by kernel_rfl) (by simp) ?_
       refine AllReadyH.cons rfl (fun K hK=>?_) AllReadyH.nil
       try simp only[zA,zB,zC]
       go_simp
       (go_at_call 108;refine(dl s _ hzs).mono ?_;rintro e w' ⟨rfl,hb⟩;rw[HNM.out])
       try go_wp2_with fail
       refine hK.out _ _ ?_ (fun hHeld=>?_)
       ·exact fG (by assumption) (by assumption)
       clear hK K
       try simp only[zA,zB,zC,Act.put,zD,zE,zF]
       refine tkV 6 (.bool false) rfl (fun W hSW=>?_) hHeld ?_
       ·((try dsimp only at hSW);go_split_ands;go_simp <;> with_reducible rfl)
       try simp only[zA,zB,zC,Act.put,zD,zE,zF]
       refine tkV 7 (.bool false) rfl (fun W hSW=>?_) hHeld ?_
       ·((try dsimp only at hSW);go_split_ands;go_simp <;> with_reducible rfl)
       try simp only[zA,zB,zC,Act.put,zD,zE,zF]
       refine tkV 8 (.slice (some ⟨b,off,none⟩) cs.length cap) rfl (fun W hSW=>?_) hHeld ?_
       ·((try dsimp only at hSW);go_split_ands;go_simp <;> with_reducible rfl)
       try simp only[zA,zB,zC,Act.put,zD,zE,zF]
       refine tkV 9 (.slice (some ⟨b,off,none⟩) cs.length cap) rfl (fun W hSW=>?_) hHeld ?_
       ·((try dsimp only at hSW);go_split_ands;go_simp <;> with_reducible rfl)
       try simp only[zA,zB,zC,Act.put,zD,zE,zF]
       refine tkV 10 (.int .i64 (i:Int)) rfl (fun W hSW=>?_) hHeld ?_
       ·((try dsimp only at hSW);go_split_ands;go_simp <;> with_reducible rfl)
       try simp only[zA,zB,zC,Act.put,zD,zE,zF]
       refine tkV 11 (.pointer (some ⟨b,off+i*2,none⟩)) rfl (fun W hSW=>?_) hHeld ?_
       ·((try dsimp only at hSW);go_split_ands;go_simp <;> with_reducible rfl)
       try simp only[zA,zB,zC,Act.put,zD,zE,zF]
       refine tkV 12 (.pointer (some ⟨b,off+i*2,none⟩)) rfl (fun W hSW=>?_) hHeld ?_
       ·((try dsimp only at hSW);go_split_ands;go_simp <;> with_reducible rfl)
       try simp only[zA,zB,zC,Act.put,zD,zE,zF]
       refine tkV 13 (.string s) rfl (fun W hSW=>?_) hHeld ?_
       ·((try dsimp only at hSW);go_split_ands;go_simp <;> with_reducible rfl)
       try simp only[zA,zB,zC,Act.put,zD,zE,zF]
       refine tkV 15 (.int .i64 (i:Int)) rfl (fun W hSW=>?_) hHeld ?_
       ·((try dsimp only at hSW);go_split_ands;go_simp <;> with_reducible rfl)
       try simp only[zA,zB,zC,Act.put,zD,zE,zF]
       refine wpAnyH_ready (rs:=[14]) (by kernel_rfl) (by simp) ?_
       refine AllReadyH.cons rfl (fun K hK=>?_) AllReadyH.nil
       try simp only[zA,zB,zC]
       go_simp
       (go_at_call 164;refine(jd (.slice (some ⟨b,off,none⟩) cs.length cap) cs s _ _ (Nat.le_refl _) (kt HV.out hHeld) (by omega)).mono ?_;rintro e w' ⟨rfl,hb⟩;rw[HCI.out])
       try go_wp2_with fail
       refine hK.out _ _ ?_ (fun hHeld=>?_)
       ·exact fG (by assumption) (by assumption)
       clear hK K
       try simp only[zA,zB,zC,Act.put,zD,zE,zF]
       refine tkV 16 (.bool false) rfl (fun W hSW=>?_) hHeld ?_
       ·((try dsimp only at hSW);go_split_ands;go_simp <;> with_reducible rfl)
       try simp only[zA,zB,zC,Act.put,zD,zE,zF]
       refine tkV 17 (.bool false) rfl (fun W hSW=>?_) hHeld ?_
       ·((try dsimp only at hSW);go_split_ands;go_simp <;> with_reducible rfl)
       try simp only[zA,zB,zC,Act.put,zD,zE,zF]
       refine tkV 18 (.bool false) rfl (fun W hSW=>?_) hHeld ?_
       ·((try dsimp only at hSW);go_split_ands;go_simp <;> with_reducible rfl)
       try simp only[zA,zB,zC,Act.put,zD,zE,zF]
       refine tkV 19 (.slice (some ⟨b,off,none⟩) cs.length cap) rfl (fun W hSW=>?_) hHeld ?_
       ·((try dsimp only at hSW);go_split_ands;go_simp <;> with_reducible rfl)
       try simp only[zA,zB,zC,Act.put,zD,zE,zF]
       refine tkV 20 (.int .i64 (i:Int)) rfl (fun W hSW=>?_) hHeld ?_
       ·((try dsimp only at hSW);go_split_ands;go_simp <;> with_reducible rfl)
       try simp only[zA,zB,zC,Act.put,zD,zE,zF]
       refine tkV 21 (.pointer (some ⟨b,off+i*2,none⟩)) rfl (fun W hSW=>?_) hHeld ?_
       ·((try dsimp only at hSW);go_split_ands;go_simp <;> with_reducible rfl)
       try simp only[zA,zB,zC,Act.put,zD,zE,zF]
       refine tkV 22 (.pointer (some ⟨b,off+i*2+1,none⟩)) rfl (fun W hSW=>?_) hHeld ?_
       ·((try dsimp only at hSW);go_split_ands;go_simp <;> with_reducible rfl)
       try simp only[zA,zB,zC,Act.put,zD,zE,zF]
       refine tkV 23 (.int .i64 l) rfl (fun W hSW=>?_) hHeld ?_
       ·((try dsimp only at hSW);go_split_ands;go_simp <;> with_reducible rfl)
       try simp only[zA,zB,zC,Act.put,zD,zE,zF]
       refine tkV 24 (.bool false) rfl (fun W hSW=>?_) hHeld ?_
       ·((try dsimp only at hSW);go_split_ands;go_simp <;> with_reducible rfl)
       try simp only[zA,zB,zC,Act.put,zD,zE,zF]
       refine tkV 25 (.bool false) rfl (fun W hSW=>?_) hHeld ?_
       ·((try dsimp only at hSW);go_split_ands;go_simp <;> with_reducible rfl)
       try simp only[zA,zB,zC,Act.put,zD,zE,zF]
       refine tkV 26 (.bool false) rfl (fun W hSW=>?_) hHeld ?_
       ·((try dsimp only at hSW);go_split_ands;go_simp <;> with_reducible rfl)
       try simp only[zA,zB,zC,Act.put,zD,zE,zF]
       refine tkV 27 (.slice (some ⟨b,off,none⟩) cs.length cap) rfl (fun W hSW=>?_) hHeld ?_
       ·((try dsimp only at hSW);go_split_ands;go_simp <;> with_reducible rfl)
       try simp only[zA,zB,zC,Act.put,zD,zE,zF]
       refine tkV 28 (.int .i64 (i:Int)) rfl (fun W hSW=>?_) hHeld ?_
       ·((try dsimp only at hSW);go_split_ands;go_simp <;> with_reducible rfl)
       try simp only[zA,zB,zC,Act.put,zD,zE,zF]
       refine tkV 29 (.pointer (some ⟨b,off+i*2,none⟩)) rfl (fun W hSW=>?_) hHeld ?_
       ·((try dsimp only at hSW);go_split_ands;go_simp <;> with_reducible rfl)
       try simp only[zA,zB,zC,Act.put,zD,zE,zF]
       refine tkV 30 (.pointer (some ⟨b,off+i*2+1,none⟩)) rfl (fun W hSW=>?_) hHeld ?_
       ·((try dsimp only at hSW);go_split_ands;go_simp <;> with_reducible rfl)
       try simp only[zA,zB,zC,Act.put,zD,zE,zF]
       refine tkV 31 (.int .i64 l) rfl (fun W hSW=>?_) hHeld ?_
       ·((try dsimp only at hSW);go_split_ands;go_simp <;> with_reducible rfl)
       try simp only[zA,zB,zC,Act.put,zD,zE,zF]
       refine tkV 32 (.pointer (some ⟨w.heap.size,0,none⟩)) rfl (fun W hSW=>?_) hHeld ?_
       ·((try dsimp only at hSW);go_split_ands;go_simp <;> with_reducible rfl)
       try simp only[zA,zB,zC,Act.put,zD,zE,zF]
       refine tkV 33 (.slice a0 L.length k0) rfl (fun W hSW=>?_) hHeld ?_
       ·((try dsimp only at hSW);go_split_ands;go_simp <;> with_reducible rfl)
       try simp only[zA,zB,zC,Act.put,zD,zE,zF]
       refine tkV 34 (.int .i64 (L.length:Int)) rfl (fun W hSW=>?_) hHeld ?_
       ·((try dsimp only at hSW);go_split_ands;go_simp <;> with_reducible rfl)
       try simp only[zA,zB,zC,Act.put,zD,zE,zF]
       refine tkV 35 (.bool false) rfl (fun W hSW=>?_) hHeld ?_
       ·((try dsimp only at hSW);go_split_ands;go_simp <;> with_reducible rfl)
       try simp only[zA,zB,zC,Act.put,zD,zE,zF]
       refine tkV 36 (.bool false) rfl (fun W hSW=>?_) hHeld ?_
       ·((try dsimp only at hSW);go_split_ands;go_simp <;> with_reducible rfl)
       try simp only[zA,zB,zC,Act.put,zD,zE,zF]
       refine wpAnyH_done (by kernel_rfl) ?_ _
       obtain⟨hb9,_⟩:=hHeld
       have HB9:=zH hb9
       clear hb9
       go_wp2_with fail
       go_roundw
       case rel=>exact⟨i+1,by omega,by go_num,HB9.out,HNX.out⟩
       case measure=>simp [intOf];omega
    ·have HNO:=zH (HBAD.out (fun h=>hc h.2.1))
     obtain⟨ci,eci⟩:∃ci,iH cs s=ci:=⟨_,rfl⟩
     rw[eci] at hc
     have HCI:=zH eci
     have hne:(ci != (i:Int))=true:=by rw[bne_iff_ne];exact hc
     clear hp hc eci
     refine wp_region_held_drew (S:=(fun V=>Below W0.heap.size W0 V/\V.cell? ⟨b,off+i*2,none⟩=some (.string s)/\V.cell? ⟨b,off+i*2+1,none⟩=some (.int .i64 l)/\V.cell? ⟨w.heap.size,0,none⟩=some (.slice a0 L.length k0))) (by kernel_rfl) ?_ (fun hHeld=>?_)
     ·exact rc_at HB1.out HC1.out HC2.out HC0.out
     refine tkV 0 (.slice (some ⟨b,off,none⟩) cs.length cap) rfl (fun W hSW=>?_) hHeld ?_
     ·((try dsimp only at hSW);go_split_ands;go_simp <;> with_reducible rfl)
     try simp only[zA,zB,zC,Act.put,zD,zE,zF]
     refine tkV 1 (.int .i64 (i:Int)) rfl (fun W hSW=>?_) hHeld ?_
     ·((try dsimp only at hSW);go_split_ands;go_simp <;> with_reducible rfl)
     try simp only[zA,zB,zC,Act.put,zD,zE,zF]
     refine tkV 2 (.pointer (some ⟨b,off+i*2,none⟩)) rfl (fun W hSW=>?_) hHeld ?_
     ·((try dsimp only at hSW);go_split_ands;go_simp <;> with_reducible rfl)
     try simp only[zA,zB,zC,Act.put,zD,zE,zF]
     refine tkV 3 (.pointer (some ⟨b,off+i*2,none⟩)) rfl (fun W hSW=>?_) hHeld ?_
     ·((try dsimp only at hSW);go_split_ands;go_simp <;> with_reducible rfl)
     try simp only[zA,zB,zC,Act.put,zD,zE,zF]
     refine tkV 4 (.string s) rfl (fun W hSW=>?_) hHeld ?_
     ·((try dsimp only at hSW);go_split_ands;go_simp <;> with_reducible rfl)
     try simp only[zA,zB,zC,Act.put,zD,zE,zF]
     refine wpAnyH_ready (rs:=[5]) (by kernel_rfl) (by simp) ?_
     refine AllReadyH.cons rfl (fun K hK=>?_) AllReadyH.nil
     try simp only[zA,zB,zC]
     go_simp
     (go_at_call 108;refine(dl s _ hzs).mono ?_;rintro e w' ⟨rfl,hb⟩;rw[HNM.out])
     try go_wp2_with fail
     refine hK.out _ _ ?_ (fun hHeld=>?_)
     ·exact fG (by assumption) (by assumption)
     clear hK K
     try simp only[zA,zB,zC,Act.put,zD,zE,zF]
     refine tkV 6 (.bool false) rfl (fun W hSW=>?_) hHeld ?_
     ·((try dsimp only at hSW);go_split_ands;go_simp <;> with_reducible rfl)
     try simp only[zA,zB,zC,Act.put,zD,zE,zF]
     refine tkV 7 (.bool false) rfl (fun W hSW=>?_) hHeld ?_
     ·((try dsimp only at hSW);go_split_ands;go_simp <;> with_reducible rfl)
     try simp only[zA,zB,zC,Act.put,zD,zE,zF]
     refine tkV 8 (.slice (some ⟨b,off,none⟩) cs.length cap) rfl (fun W hSW=>?_) hHeld ?_
     ·((try dsimp only at hSW);go_split_ands;go_simp <;> with_reducible rfl)
     try simp only[zA,zB,zC,Act.put,zD,zE,zF]
     refine tkV 9 (.slice (some ⟨b,off,none⟩) cs.length cap) rfl (fun W hSW=>?_) hHeld ?_
     ·((try dsimp only at hSW);go_split_ands;go_simp <;> with_reducible rfl)
     try simp only[zA,zB,zC,Act.put,zD,zE,zF]
     refine tkV 10 (.int .i64 (i:Int)) rfl (fun W hSW=>?_) hHeld ?_
     ·((try dsimp only at hSW);go_split_ands;go_simp <;> with_reducible rfl)
     try simp only[zA,zB,zC,Act.put,zD,zE,zF]
     refine tkV 11 (.pointer (some ⟨b,off+i*2,none⟩)) rfl (fun W hSW=>?_) hHeld ?_
     ·((try dsimp only at hSW);go_split_ands;go_simp <;> with_reducible rfl)
     try simp only[zA,zB,zC,Act.put,zD,zE,zF]
     refine tkV 12 (.pointer (some ⟨b,off+i*2,none⟩)) rfl (fun W hSW=>?_) hHeld ?_
     ·((try dsimp only at hSW);go_split_ands;go_simp <;> with_reducible rfl)
     try simp only[zA,zB,zC,Act.put,zD,zE,zF]
     refine tkV 13 (.string s) rfl (fun W hSW=>?_) hHeld ?_
     ·((try dsimp only at hSW);go_split_ands;go_simp <;> with_reducible rfl)
     try simp only[zA,zB,zC,Act.put,zD,zE,zF]
     refine tkV 15 (.int .i64 (i:Int)) rfl (fun W hSW=>?_) hHeld ?_
     ·((try dsimp only at hSW);go_split_ands;go_simp <;> with_reducible rfl)
     try simp only[zA,zB,zC,Act.put,zD,zE,zF]
     refine wpAnyH_ready (rs:=[14]) (by kernel_rfl) (by simp) ?_
     refine AllReadyH.cons rfl (fun K hK=>?_) AllReadyH.nil
     try simp only[zA,zB,zC]
     go_simp
     (go_at_call 164;refine(jd (.slice (some ⟨b,off,none⟩) cs.length cap) cs s _ _ (Nat.le_refl _) (kt HV.out hHeld) (by omega)).mono ?_;rintro e w' ⟨rfl,hb⟩;rw[HCI.out])
     try go_wp2_with fail
     refine hK.out _ _ ?_ (fun hHeld=>?_)
     ·exact fG (by assumption) (by assumption)
     clear hK K
     try simp only[zA,zB,zC,Act.put,zD,zE,zF]
     refine tkV 16 (.bool true) rfl (fun W hSW=>?_) hHeld ?_
     ·((try dsimp only at hSW);go_split_ands;go_simp <;> with_reducible rfl)
     try simp only[zA,zB,zC,Act.put,zD,zE,zF]
     refine tkV 17 (.bool true) rfl (fun W hSW=>?_) hHeld ?_
     ·((try dsimp only at hSW);go_split_ands;go_simp <;> with_reducible rfl)
     try simp only[zA,zB,zC,Act.put,zD,zE,zF]
     refine tkV 18 (.bool true) rfl (fun W hSW=>?_) hHeld ?_
     ·((try dsimp only at hSW);go_split_ands;go_simp <;> with_reducible rfl)
     try simp only[zA,zB,zC,Act.put,zD,zE,zF]
     refine tkU 19 rfl hHeld ?_
     try simp only[zA,zB,zC,Act.put,zD,zE,zF]
     refine tkU 20 rfl hHeld ?_
     try simp only[zA,zB,zC,Act.put,zD,zE,zF]
     refine tkU 21 rfl hHeld ?_
     try simp only[zA,zB,zC,Act.put,zD,zE,zF]
     refine tkU 22 rfl hHeld ?_
     try simp only[zA,zB,zC,Act.put,zD,zE,zF]
     refine tkU 23 rfl hHeld ?_
     try simp only[zA,zB,zC,Act.put,zD,zE,zF]
     refine tkU 24 rfl hHeld ?_
     try simp only[zA,zB,zC,Act.put,zD,zE,zF]
     refine tkV 25 (.bool true) rfl (fun W hSW=>?_) hHeld ?_
     ·((try dsimp only at hSW);go_split_ands;go_simp <;> with_reducible rfl)
     try simp only[zA,zB,zC,Act.put,zD,zE,zF]
     refine tkV 26 (.bool true) rfl (fun W hSW=>?_) hHeld ?_
     ·((try dsimp only at hSW);go_split_ands;go_simp <;> with_reducible rfl)
     try simp only[zA,zB,zC,Act.put,zD,zE,zF]
     refine tkU 27 rfl hHeld ?_
     try simp only[zA,zB,zC,Act.put,zD,zE,zF]
     refine tkU 28 rfl hHeld ?_
     try simp only[zA,zB,zC,Act.put,zD,zE,zF]
     refine tkU 29 rfl hHeld ?_
     try simp only[zA,zB,zC,Act.put,zD,zE,zF]
     refine tkU 30 rfl hHeld ?_
     try simp only[zA,zB,zC,Act.put,zD,zE,zF]
     refine tkU 31 rfl hHeld ?_
     try simp only[zA,zB,zC,Act.put,zD,zE,zF]
     refine tkU 32 rfl hHeld ?_
     try simp only[zA,zB,zC,Act.put,zD,zE,zF]
     refine tkU 33 rfl hHeld ?_
     try simp only[zA,zB,zC,Act.put,zD,zE,zF]
     refine tkU 34 rfl hHeld ?_
     try simp only[zA,zB,zC,Act.put,zD,zE,zF]
     refine tkU 35 rfl hHeld ?_
     try simp only[zA,zB,zC,Act.put,zD,zE,zF]
     refine tkV 36 (.bool true) rfl (fun W hSW=>?_) hHeld ?_
     ·((try dsimp only at hSW);go_split_ands;go_simp <;> with_reducible rfl)
     try simp only[zA,zB,zC,Act.put,zD,zE,zF]
     refine wpAnyH_done (by kernel_rfl) ?_ _
     obtain⟨hb9,_⟩:=hHeld
     have HB9:=zH hb9
     clear hb9
     go_wp2_with fail
     go_ret
     exact⟨af HNO.out.symm,HB0.out.trans (HB9.out.mono HB0.out.size)⟩
  ·have HY:=zH (tL (N:=L.length) H32.out (fun k hk=>HK.out k (by omega)))
   go_wp2_with fail
   go_ret
   exact⟨af HY.out.symm,HB0.out.trans (HB1.out.mono HB0.out.size)⟩
 ·have HR:=zH (show bZ L.length cs=false by unfold bZ;rw[decide_eq_false h32];rfl)
  go_enter Tryz.func110,Tryz.ntmps110
  go_wp2_with fail
  go_ret
  exact⟨af HR.out.symm,HB0.out⟩
end
section
open Go.RowKit
theorem rightP_in{st:PSt}{S:List Int}(h1:1<=st.D)(h2:st.D<=64)(h3:S.length=st.L.length)(h4:LL.bB S=true)(h5:dZ st.L=true):bg st S=(bZ st.L.length st.I && bZ st.L.length st.O):=by
 unfold bg
 rw[decide_eq_true (show 1<=st.D/\st.D<=64 from⟨h1,h2⟩),decide_eq_true h3,h4,h5];simp
theorem ku{W0 V V':World}{p:Addr}{A:Nat}{x x0 x1 x2 x3 x4:Value}(h:Below W0.heap.size W0 V/\V.cell? p=some x/\V.cell? ⟨A,0,none⟩=some x0/\V.cell? ⟨A,1,none⟩=some x1/\V.cell? ⟨A,2,none⟩=some x2/\V.cell? ⟨A,3,none⟩=some x3/\V.cell? ⟨A,4,none⟩=some x4)(hb:Below V.heap.size V V') :
 Below W0.heap.size W0 V'/\V'.cell? p=some x/\V'.cell? ⟨A,0,none⟩=some x0/\V'.cell? ⟨A,1,none⟩=some x1/\V'.cell? ⟨A,2,none⟩=some x2/\V'.cell? ⟨A,3,none⟩=some x3/\V'.cell? ⟨A,4,none⟩=some x4:=by
 obtain⟨h0,h1,h2,h3,h4,h5,h6⟩:=h
 exact⟨h0.trans (hb.mono h0.size),(hb.cell (bY h1)).trans h1,(hb.cell (bY h2)).trans h2,(hb.cell (bY h3)).trans h3,(hb.cell (bY h4)).trans h4,(hb.cell (bY h5)).trans h5,(hb.cell (bY h6)).trans h6⟩
theorem rr_at{W0 wr:World}{p:Addr}{A:Nat}{x x0 x1 x2 x3 x4:Value}(hb:Below W0.heap.size W0 wr)(h1:W0.cell? p=some x)(hc:∀(c:Nat) (u:Value),[x0,x1,x2,x3,x4][c]?=some u->W0.cell? ⟨A,c,none⟩=some u) :
 Below W0.heap.size W0 wr.drew/\wr.drew.cell? p=some x/\wr.drew.cell? ⟨A,0,none⟩=some x0/\wr.drew.cell? ⟨A,1,none⟩=some x1/\wr.drew.cell? ⟨A,2,none⟩=some x2/\wr.drew.cell? ⟨A,3,none⟩=some x3/\wr.drew.cell? ⟨A,4,none⟩=some x4 :=
 ⟨hb.drew,(hb.drew.cell (bY h1)).trans h1,(hb.drew.cell (bY (hc 0 _ rfl))).trans (hc 0 _ rfl),(hb.drew.cell (bY (hc 1 _ rfl))).trans (hc 1 _ rfl),(hb.drew.cell (bY (hc 2 _ rfl))).trans (hc 2 _ rfl),(hb.drew.cell (bY (hc 3 _ rfl))).trans (hc 3 _ rfl),(hb.drew.cell (bY (hc 4 _ rfl))).trans (hc 4 _ rfl)⟩
theorem strs_at{W0 V:World}{v:Value}{ss:List ByteArray}{Q:Prop}(h:Strs W0.heap.size W0 v ss)(hs:Below W0.heap.size W0 V/\Q):Strs V.heap.size V v ss:=fE h hs.1
set_option maxRecDepth 100000 in
set_option maxHeartbeats 12800000 in
theorem rP(v0 v1 v2 v3:Value)(st:PSt)(S:List Int)(w:World)(h:PolIn w v0 v1 v2 v3 st S)(hw:Wide S)(hsh:∀j,j<st.L.length->(wd6 st.L j).size<=140737488351232)
 (hsi:∀j,j<st.I.length->(chAt st.I j).1.size<=140737488351232) (hso:∀j,j<st.O.length->(chAt st.O j).1.size<=140737488351232) :
 Calls Tryz.prog 65 #[.agg #[v0,v1,v2,v3,.int .i64 st.D]] w fun e w'=>e=.returned (.bool (bg st S))/\Below w.heap.size w w':=by
 have hl0:=h.l0
 have hl1:=h.l1
 have hl2:=h.l2
 have hl3:=h.l3
 obtain⟨a0,k0,rfl⟩:=h.s0.form
 obtain⟨a1,k1,rfl⟩:=h.s1.form
 obtain⟨a2,k2,rfl⟩:=h.s2.form
 obtain⟨a3,k3,rfl⟩:=h.s3.form
 have HB0:=zH (show Below w.heap.size w (w.alloc (.cells #[.slice a0 st.L.length k0,.slice a1 S.length k1,.slice a2 st.I.length k2,.slice a3 st.O.length k3,.int .i64 st.D] 26)) from(Below.refl _ _).alloc (Nat.le_refl _) _)
 have HC2:=zH (kS w (.slice a0 st.L.length k0) (.slice a1 S.length k1) (.slice a2 st.I.length k2) (.slice a3 st.O.length k3) (.int .i64 st.D) 26)
 have HP:=zH (h.below HB0.out)
 have HZ:=zH hsh
 have HZI:=zH hsi
 have HZO:=zH hso
 have HWD:=zH hw
 clear h hsh hsi hso hw
 obtain⟨W0,eW0⟩:∃W0,W0=w.alloc (.cells #[.slice a0 st.L.length k0,.slice a1 S.length k1,.slice a2 st.I.length k2,.slice a3 st.O.length k3,.int .i64 st.D] 26):=⟨_,rfl⟩
 rw[<-eW0] at HC2 HB0 HP
 have c0:=HC2.out 0 _ rfl
 have c1:=HC2.out 1 _ rfl
 have c2:=HC2.out 2 _ rfl
 have c3:=HC2.out 3 _ rfl
 have c4:=HC2.out 4 _ rfl
 by_cases h3:S.length=st.L.length
 ·have t3:((st.L.length:Int) != (S.length:Int))=false:=by rw[h3];simp
  have H3:=zH h3
  clear h3
  cases h4:LL.bB S
  ·have HN:=zH (cM (st:=st) (S:=S) (fun e=>by have:=(bP e).2.2.1;rw[h4] at this;cases this))
   have H4:=zH h4
   clear h4
   go_enter Tryz.func65,Tryz.ntmps65
   go_upto_region 1 with(fail)
   rw[<-eW0]
   clear eW0
   go_wp2_with (go_at_call 107;refine(ii (.slice a1 S.length k1) S W0.heap.size _ HP.out.s1 HWD.out (by omega)).mono ?_;rintro e w1 ⟨rfl,d,rfl⟩;rw[H4.out])
   go_ret
   exact⟨af HN.out.symm,HB0.out.trans ((fS W0 d).mono HB0.out.size)⟩
  ·have H4:=zH h4
   clear h4
   by_cases h1:st.D<1
   ·have HN:=zH (cM (st:=st) (S:=S) (fun e=>by have:=(bP e).1.1;omega))
    have n1:decide (st.D<1)=true:=decide_eq_true h1
    clear h1
    go_enter Tryz.func65,Tryz.ntmps65
    go_upto_region 1 with(fail)
    rw[<-eW0]
    clear eW0
    go_wp2_with (go_at_call 107;refine(ii (.slice a1 S.length k1) S W0.heap.size _ HP.out.s1 HWD.out (by omega)).mono ?_;rintro e w1 ⟨rfl,d,rfl⟩;rw[H4.out];have c0':(W0.drewN d).cell? _=_:=c0;have c4':(W0.drewN d).cell? _=_:=c4)
    go_ret
    exact⟨af HN.out.symm,HB0.out.trans ((fS W0 d).mono HB0.out.size)⟩
   ·have n1:decide (st.D<1)=false:=decide_eq_false h1
    by_cases h2:64<st.D
    ·have HN:=zH (cM (st:=st) (S:=S) (fun e=>by have:=(bP e).1.2;omega))
     have n2:decide (64<st.D)=true:=decide_eq_true h2
     clear h1 h2
     go_enter Tryz.func65,Tryz.ntmps65
     go_upto_region 1 with(fail)
     rw[<-eW0]
     clear eW0
     go_wp2_with (go_at_call 107;refine(ii (.slice a1 S.length k1) S W0.heap.size _ HP.out.s1 HWD.out (by omega)).mono ?_;rintro e w1 ⟨rfl,d,rfl⟩;rw[H4.out];have c0':(W0.drewN d).cell? _=_:=c0;have c4':(W0.drewN d).cell? _=_:=c4)
     go_ret
     exact⟨af HN.out.symm,HB0.out.trans ((fS W0 d).mono HB0.out.size)⟩
    ·have n2:decide (64<st.D)=false:=decide_eq_false h2
     have HD12:=zH (show 1<=st.D/\st.D<=64 by omega)
     clear h1 h2
     go_enter Tryz.func65,Tryz.ntmps65
     go_upto_region 1 with(fail)
     rw[<-eW0]
     clear eW0
     go_wp2_with (go_at_call 107;refine(ii (.slice a1 S.length k1) S W0.heap.size _ HP.out.s1 HWD.out (by omega)).mono ?_;rintro e w1 ⟨rfl,d,rfl⟩;rw[H4.out];have c0':(W0.drewN d).cell? _=_:=c0;have c4':(W0.drewN d).cell? _=_:=c4)
     have HBd:=zH (fS W0 d)
     clear c0' c4' t3 n1 n2 c1 c2 c3 c4
     go_loopw [3] (fun k wr=>∃i:Nat,i<=st.L.length/\k=.int .i64 (i:Int)/\Below W0.heap.size W0 wr/\RowKit.Hid (∀j,j<i->bN (wd6 st.L j)=true/\be st.L (wd6 st.L j)=(j:Int))) (fun k _=>st.L.length-(intOf k).toNat)
     case atStart=>exact⟨0,Nat.zero_le _,rfl,HBd.out,zH (fun j hj=>absurd hj (Nat.not_lt_zero _))⟩
     case round =>
      obtain⟨i,hi,rfl,hb,HK⟩:=hrel
      have HB1:=zH hb
      have e0:=(hb.cell (bY c0)).trans c0
      clear hb
      by_cases hlt:i<st.L.length
      ·obtain⟨b,off,ea,_,hc1⟩:=HP.out.s0.at hlt
       subst ea
       have i1:(0:Int)<=i/\(i:Int)<st.L.length:=by omega
       have hzs:=HZ.out i hlt
       obtain⟨s,es⟩:∃s,s=wd6 st.L i:=⟨_,rfl⟩
       have HNXX:=zH (show (bN s=true/\be st.L s=(i:Int))->∀j,j<i+1->bN (wd6 st.L j)=true/\be st.L (wd6 st.L j)=(j:Int) from fun h j hj=>(Nat.lt_succ_iff_lt_or_eq.1 hj).elim (HK.out j) (fun e=>by rw[e,<-es];exact h))
       have HBAD:=zH (show ¬(bN s=true/\be st.L s=(i:Int))->bg st S=false from fun h=>cM (fun e=>by have:=names_bad hlt (by rw[<-es];exact h);rw[(bP e).2.2.2.1] at this;cases this))
       rw[<-es] at hc1 hzs
       clear es
       have HC1:=zH hc1
       have HSL:=zH HP.out.s0
       clear hc1
       go_wp2_with fail
       clear e0 c0
       cases hp:bN s
       ·have HNM:=zH hp
        have HNO:=zH (HBAD.out (fun h=>by rw[hp] at h;cases h.1))
        clear hp
        refine wp_region_held_drew (S:=(fun V=>Below W0.heap.size W0 V/\V.cell? ⟨b,off+i,none⟩=some (.string s)/\V.cell? ⟨w.heap.size,0,none⟩=some (.slice (some ⟨b,off,none⟩) st.L.length k0)/\V.cell? ⟨w.heap.size,1,none⟩=some (.slice a1 S.length k1)/\V.cell? ⟨w.heap.size,2,none⟩=some (.slice a2 st.I.length k2)/\V.cell? ⟨w.heap.size,3,none⟩=some (.slice a3 st.O.length k3)/\V.cell? ⟨w.heap.size,4,none⟩=some (.int .i64 st.D))) (by kernel_rfl) ?_ (fun hHeld=>?_)
        ·exact rr_at HB1.out HC1.out HC2.out
        refine tkV 0 (.pointer (some ⟨w.heap.size,0,none⟩)) rfl (fun W hSW=>?_) hHeld ?_
        ·((try dsimp only at hSW);go_split_ands;go_simp <;> with_reducible rfl)
        try simp only[zA,zB,zC,Act.put,zD,zE,zF]
        refine tkV 1 (.slice (some ⟨b,off,none⟩) st.L.length k0) rfl (fun W hSW=>?_) hHeld ?_
        ·((try dsimp only at hSW);go_split_ands;go_simp <;> with_reducible rfl)
        try simp only[zA,zB,zC,Act.put,zD,zE,zF]
        refine tkV 2 (.int .i64 (i:Int)) rfl (fun W hSW=>?_) hHeld ?_
        ·((try dsimp only at hSW);go_split_ands;go_simp <;> with_reducible rfl)
        try simp only[zA,zB,zC,Act.put,zD,zE,zF]
        refine tkV 3 (.pointer (some ⟨b,off+i,none⟩)) rfl (fun W hSW=>?_) hHeld ?_
        ·((try dsimp only at hSW);go_split_ands;go_simp <;> with_reducible rfl)
        try simp only[zA,zB,zC,Act.put,zD,zE,zF]
        refine tkV 4 (.string s) rfl (fun W hSW=>?_) hHeld ?_
        ·((try dsimp only at hSW);go_split_ands;go_simp <;> with_reducible rfl)
        try simp only[zA,zB,zC,Act.put,zD,zE,zF]
        refine wpAnyH_ready (rs:=[5]) (by kernel_rfl) (by simp) ?_
        refine AllReadyH.cons rfl (fun K hK=>?_) AllReadyH.nil
        try simp only[zA,zB,zC]
        go_simp
        (go_at_call 108;refine(dl s _ hzs).mono ?_;rintro e w' ⟨rfl,hb⟩;rw[HNM.out])
        try go_wp2_with fail
        refine hK.out _ _ ?_ (fun hHeld=>?_)
        ·exact ku (by assumption) (by assumption)
        clear hK K
        try simp only[zA,zB,zC,Act.put,zD,zE,zF]
        refine tkV 6 (.bool true) rfl (fun W hSW=>?_) hHeld ?_
        ·((try dsimp only at hSW);go_split_ands;go_simp <;> with_reducible rfl)
        try simp only[zA,zB,zC,Act.put,zD,zE,zF]
        refine tkV 7 (.bool true) rfl (fun W hSW=>?_) hHeld ?_
        ·((try dsimp only at hSW);go_split_ands;go_simp <;> with_reducible rfl)
        try simp only[zA,zB,zC,Act.put,zD,zE,zF]
        refine tkU 8 rfl hHeld ?_
        try simp only[zA,zB,zC,Act.put,zD,zE,zF]
        refine tkU 9 rfl hHeld ?_
        try simp only[zA,zB,zC,Act.put,zD,zE,zF]
        refine tkU 10 rfl hHeld ?_
        try simp only[zA,zB,zC,Act.put,zD,zE,zF]
        refine tkU 11 rfl hHeld ?_
        try simp only[zA,zB,zC,Act.put,zD,zE,zF]
        refine tkU 12 rfl hHeld ?_
        try simp only[zA,zB,zC,Act.put,zD,zE,zF]
        refine tkU 13 rfl hHeld ?_
        try simp only[zA,zB,zC,Act.put,zD,zE,zF]
        refine tkU 14 rfl hHeld ?_
        try simp only[zA,zB,zC,Act.put,zD,zE,zF]
        refine tkU 15 rfl hHeld ?_
        try simp only[zA,zB,zC,Act.put,zD,zE,zF]
        refine tkU 16 rfl hHeld ?_
        try simp only[zA,zB,zC,Act.put,zD,zE,zF]
        refine tkV 17 (.bool true) rfl (fun W hSW=>?_) hHeld ?_
        ·((try dsimp only at hSW);go_split_ands;go_simp <;> with_reducible rfl)
        try simp only[zA,zB,zC,Act.put,zD,zE,zF]
        refine wpAnyH_done (by kernel_rfl) ?_ _
        obtain⟨hb9,_⟩:=hHeld
        have HB9:=zH hb9
        clear hb9
        go_wp2_with fail
        go_ret
        exact⟨af HNO.out.symm,HB0.out.trans (HB9.out.mono HB0.out.size)⟩
       ·have HNM:=zH hp
        by_cases hc:be st.L s=(i:Int)
        ·have HLI:=zH hc
         have hne:((i:Int) != (i:Int))=false:=by simp
         have HNX:=zH (HNXX.out ⟨hp,hc⟩)
         clear hp hc
         refine wp_region_held_drew (S:=(fun V=>Below W0.heap.size W0 V/\V.cell? ⟨b,off+i,none⟩=some (.string s)/\V.cell? ⟨w.heap.size,0,none⟩=some (.slice (some ⟨b,off,none⟩) st.L.length k0)/\V.cell? ⟨w.heap.size,1,none⟩=some (.slice a1 S.length k1)/\V.cell? ⟨w.heap.size,2,none⟩=some (.slice a2 st.I.length k2)/\V.cell? ⟨w.heap.size,3,none⟩=some (.slice a3 st.O.length k3)/\V.cell? ⟨w.heap.size,4,none⟩=some (.int .i64 st.D))) (by kernel_rfl) ?_ (fun hHeld=>?_)
         ·exact rr_at HB1.out HC1.out HC2.out
         refine tkV 0 (.pointer (some ⟨w.heap.size,0,none⟩)) rfl (fun W hSW=>?_) hHeld ?_
         ·((try dsimp only at hSW);go_split_ands;go_simp <;> with_reducible rfl)
         try simp only[zA,zB,zC,Act.put,zD,zE,zF]
         refine tkV 1 (.slice (some ⟨b,off,none⟩) st.L.length k0) rfl (fun W hSW=>?_) hHeld ?_
         ·((try dsimp only at hSW);go_split_ands;go_simp <;> with_reducible rfl)
         try simp only[zA,zB,zC,Act.put,zD,zE,zF]
         refine tkV 2 (.int .i64 (i:Int)) rfl (fun W hSW=>?_) hHeld ?_
         ·((try dsimp only at hSW);go_split_ands;go_simp <;> with_reducible rfl)
         try simp only[zA,zB,zC,Act.put,zD,zE,zF]
         refine tkV 3 (.pointer (some ⟨b,off+i,none⟩)) rfl (fun W hSW=>?_) hHeld ?_
         ·((try dsimp only at hSW);go_split_ands;go_simp <;> with_reducible rfl)
         try simp only[zA,zB,zC,Act.put,zD,zE,zF]
         refine tkV 4 (.string s) rfl (fun W hSW=>?_) hHeld ?_
         ·((try dsimp only at hSW);go_split_ands;go_simp <;> with_reducible rfl)
         try simp only[zA,zB,zC,Act.put,zD,zE,zF]
         refine wpAnyH_ready (rs:=[5]) (by kernel_rfl) (by simp) ?_
         refine AllReadyH.cons rfl (fun K hK=>?_) AllReadyH.nil
         try simp only[zA,zB,zC]
         go_simp
         (go_at_call 108;refine(dl s _ hzs).mono ?_;rintro e w' ⟨rfl,hb⟩;rw[HNM.out])
         try go_wp2_with fail
         refine hK.out _ _ ?_ (fun hHeld=>?_)
         ·exact ku (by assumption) (by assumption)
         clear hK K
         try simp only[zA,zB,zC,Act.put,zD,zE,zF]
         refine tkV 6 (.bool false) rfl (fun W hSW=>?_) hHeld ?_
         ·((try dsimp only at hSW);go_split_ands;go_simp <;> with_reducible rfl)
         try simp only[zA,zB,zC,Act.put,zD,zE,zF]
         refine tkV 7 (.bool false) rfl (fun W hSW=>?_) hHeld ?_
         ·((try dsimp only at hSW);go_split_ands;go_simp <;> with_reducible rfl)
         try simp only[zA,zB,zC,Act.put,zD,zE,zF]
         refine tkV 8 (.agg #[.slice (some ⟨b,off,none⟩) st.L.length k0,.slice a1 S.length k1,.slice a2 st.I.length k2,.slice a3 st.O.length k3,.int .i64 st.D]) rfl (fun W hSW=>?_) hHeld ?_
         ·((try dsimp only at hSW);go_split_ands;go_simp <;> with_reducible rfl)
         try simp only[zA,zB,zC,Act.put,zD,zE,zF]
         refine tkV 9 (.pointer (some ⟨w.heap.size,0,none⟩)) rfl (fun W hSW=>?_) hHeld ?_
         ·((try dsimp only at hSW);go_split_ands;go_simp <;> with_reducible rfl)
         try simp only[zA,zB,zC,Act.put,zD,zE,zF]
         refine tkV 10 (.slice (some ⟨b,off,none⟩) st.L.length k0) rfl (fun W hSW=>?_) hHeld ?_
         ·((try dsimp only at hSW);go_split_ands;go_simp <;> with_reducible rfl)
         try simp only[zA,zB,zC,Act.put,zD,zE,zF]
         refine tkV 11 (.int .i64 (i:Int)) rfl (fun W hSW=>?_) hHeld ?_
         ·((try dsimp only at hSW);go_split_ands;go_simp <;> with_reducible rfl)
         try simp only[zA,zB,zC,Act.put,zD,zE,zF]
         refine tkV 12 (.pointer (some ⟨b,off+i,none⟩)) rfl (fun W hSW=>?_) hHeld ?_
         ·((try dsimp only at hSW);go_split_ands;go_simp <;> with_reducible rfl)
         try simp only[zA,zB,zC,Act.put,zD,zE,zF]
         refine tkV 13 (.string s) rfl (fun W hSW=>?_) hHeld ?_
         ·((try dsimp only at hSW);go_split_ands;go_simp <;> with_reducible rfl)
         try simp only[zA,zB,zC,Act.put,zD,zE,zF]
         refine tkV 15 (.int .i64 (i:Int)) rfl (fun W hSW=>?_) hHeld ?_
         ·((try dsimp only at hSW);go_split_ands;go_simp <;> with_reducible rfl)
         try simp only[zA,zB,zC,Act.put,zD,zE,zF]
         refine wpAnyH_ready (rs:=[14]) (by kernel_rfl) (by simp) ?_
         refine AllReadyH.cons rfl (fun K hK=>?_) AllReadyH.nil
         try simp only[zA,zB,zC]
         go_simp
         (go_at_call 109;refine(mz (.slice (some ⟨b,off,none⟩) st.L.length k0) _ _ _ _ st.L s _ _ (Nat.le_refl _) (strs_at HSL.out hHeld) (by omega)).mono ?_;rintro e w' ⟨rfl,hb⟩;rw[HLI.out])
         try go_wp2_with fail
         refine hK.out _ _ ?_ (fun hHeld=>?_)
         ·exact ku (by assumption) (by assumption)
         clear hK K
         try simp only[zA,zB,zC,Act.put,zD,zE,zF]
         refine tkV 16 (.bool false) rfl (fun W hSW=>?_) hHeld ?_
         ·((try dsimp only at hSW);go_split_ands;go_simp <;> with_reducible rfl)
         try simp only[zA,zB,zC,Act.put,zD,zE,zF]
         refine tkV 17 (.bool false) rfl (fun W hSW=>?_) hHeld ?_
         ·((try dsimp only at hSW);go_split_ands;go_simp <;> with_reducible rfl)
         try simp only[zA,zB,zC,Act.put,zD,zE,zF]
         refine wpAnyH_done (by kernel_rfl) ?_ _
         obtain⟨hb9,_⟩:=hHeld
         have HB9:=zH hb9
         clear hb9
         go_wp2_with fail
         go_roundw
         case rel=>exact⟨i+1,by omega,by go_num,HB9.out,HNX.out⟩
         case measure=>simp [intOf];omega
        ·have HNO:=zH (HBAD.out (fun h=>hc h.2))
         obtain⟨ci,eci⟩:∃ci,be st.L s=ci:=⟨_,rfl⟩
         rw[eci] at hc
         have HLI:=zH eci
         have hne:(ci != (i:Int))=true:=by rw[bne_iff_ne];exact hc
         clear hp hc eci
         refine wp_region_held_drew (S:=(fun V=>Below W0.heap.size W0 V/\V.cell? ⟨b,off+i,none⟩=some (.string s)/\V.cell? ⟨w.heap.size,0,none⟩=some (.slice (some ⟨b,off,none⟩) st.L.length k0)/\V.cell? ⟨w.heap.size,1,none⟩=some (.slice a1 S.length k1)/\V.cell? ⟨w.heap.size,2,none⟩=some (.slice a2 st.I.length k2)/\V.cell? ⟨w.heap.size,3,none⟩=some (.slice a3 st.O.length k3)/\V.cell? ⟨w.heap.size,4,none⟩=some (.int .i64 st.D))) (by kernel_rfl) ?_ (fun hHeld=>?_)
         ·exact rr_at HB1.out HC1.out HC2.out
         refine tkV 0 (.pointer (some ⟨w.heap.size,0,none⟩)) rfl (fun W hSW=>?_) hHeld ?_
         ·((try dsimp only at hSW);go_split_ands;go_simp <;> with_reducible rfl)
         try simp only[zA,zB,zC,Act.put,zD,zE,zF]
         refine tkV 1 (.slice (some ⟨b,off,none⟩) st.L.length k0) rfl (fun W hSW=>?_) hHeld ?_
         ·((try dsimp only at hSW);go_split_ands;go_simp <;> with_reducible rfl)
         try simp only[zA,zB,zC,Act.put,zD,zE,zF]
         refine tkV 2 (.int .i64 (i:Int)) rfl (fun W hSW=>?_) hHeld ?_
         ·((try dsimp only at hSW);go_split_ands;go_simp <;> with_reducible rfl)
         try simp only[zA,zB,zC,Act.put,zD,zE,zF]
         refine tkV 3 (.pointer (some ⟨b,off+i,none⟩)) rfl (fun W hSW=>?_) hHeld ?_
         ·((try dsimp only at hSW);go_split_ands;go_simp <;> with_reducible rfl)
         try simp only[zA,zB,zC,Act.put,zD,zE,zF]
         refine tkV 4 (.string s) rfl (fun W hSW=>?_) hHeld ?_
         ·((try dsimp only at hSW);go_split_ands;go_simp <;> with_reducible rfl)
         try simp only[zA,zB,zC,Act.put,zD,zE,zF]
         refine wpAnyH_ready (rs:=[5]) (by kernel_rfl) (by simp) ?_
         refine AllReadyH.cons rfl (fun K hK=>?_) AllReadyH.nil
         try simp only[zA,zB,zC]
         go_simp
         (go_at_call 108;refine(dl s _ hzs).mono ?_;rintro e w' ⟨rfl,hb⟩;rw[HNM.out])
         try go_wp2_with fail
         refine hK.out _ _ ?_ (fun hHeld=>?_)
         ·exact ku (by assumption) (by assumption)
         clear hK K
         try simp only[zA,zB,zC,Act.put,zD,zE,zF]
         refine tkV 6 (.bool false) rfl (fun W hSW=>?_) hHeld ?_
         ·((try dsimp only at hSW);go_split_ands;go_simp <;> with_reducible rfl)
         try simp only[zA,zB,zC,Act.put,zD,zE,zF]
         refine tkV 7 (.bool false) rfl (fun W hSW=>?_) hHeld ?_
         ·((try dsimp only at hSW);go_split_ands;go_simp <;> with_reducible rfl)
         try simp only[zA,zB,zC,Act.put,zD,zE,zF]
         refine tkV 8 (.agg #[.slice (some ⟨b,off,none⟩) st.L.length k0,.slice a1 S.length k1,.slice a2 st.I.length k2,.slice a3 st.O.length k3,.int .i64 st.D]) rfl (fun W hSW=>?_) hHeld ?_
         ·((try dsimp only at hSW);go_split_ands;go_simp <;> with_reducible rfl)
         try simp only[zA,zB,zC,Act.put,zD,zE,zF]
         refine tkV 9 (.pointer (some ⟨w.heap.size,0,none⟩)) rfl (fun W hSW=>?_) hHeld ?_
         ·((try dsimp only at hSW);go_split_ands;go_simp <;> with_reducible rfl)
         try simp only[zA,zB,zC,Act.put,zD,zE,zF]
         refine tkV 10 (.slice (some ⟨b,off,none⟩) st.L.length k0) rfl (fun W hSW=>?_) hHeld ?_
         ·((try dsimp only at hSW);go_split_ands;go_simp <;> with_reducible rfl)
         try simp only[zA,zB,zC,Act.put,zD,zE,zF]
         refine tkV 11 (.int .i64 (i:Int)) rfl (fun W hSW=>?_) hHeld ?_
         ·((try dsimp only at hSW);go_split_ands;go_simp <;> with_reducible rfl)
         try simp only[zA,zB,zC,Act.put,zD,zE,zF]
         refine tkV 12 (.pointer (some ⟨b,off+i,none⟩)) rfl (fun W hSW=>?_) hHeld ?_
         ·((try dsimp only at hSW);go_split_ands;go_simp <;> with_reducible rfl)
         try simp only[zA,zB,zC,Act.put,zD,zE,zF]
         refine tkV 13 (.string s) rfl (fun W hSW=>?_) hHeld ?_
         ·((try dsimp only at hSW);go_split_ands;go_simp <;> with_reducible rfl)
         try simp only[zA,zB,zC,Act.put,zD,zE,zF]
         refine tkV 15 (.int .i64 (i:Int)) rfl (fun W hSW=>?_) hHeld ?_
         ·((try dsimp only at hSW);go_split_ands;go_simp <;> with_reducible rfl)
         try simp only[zA,zB,zC,Act.put,zD,zE,zF]
         refine wpAnyH_ready (rs:=[14]) (by kernel_rfl) (by simp) ?_
         refine AllReadyH.cons rfl (fun K hK=>?_) AllReadyH.nil
         try simp only[zA,zB,zC]
         go_simp
         (go_at_call 109;refine(mz (.slice (some ⟨b,off,none⟩) st.L.length k0) _ _ _ _ st.L s _ _ (Nat.le_refl _) (strs_at HSL.out hHeld) (by omega)).mono ?_;rintro e w' ⟨rfl,hb⟩;rw[HLI.out])
         try go_wp2_with fail
         refine hK.out _ _ ?_ (fun hHeld=>?_)
         ·exact ku (by assumption) (by assumption)
         clear hK K
         try simp only[zA,zB,zC,Act.put,zD,zE,zF]
         refine tkV 16 (.bool true) rfl (fun W hSW=>?_) hHeld ?_
         ·((try dsimp only at hSW);go_split_ands;go_simp <;> with_reducible rfl)
         try simp only[zA,zB,zC,Act.put,zD,zE,zF]
         refine tkV 17 (.bool true) rfl (fun W hSW=>?_) hHeld ?_
         ·((try dsimp only at hSW);go_split_ands;go_simp <;> with_reducible rfl)
         try simp only[zA,zB,zC,Act.put,zD,zE,zF]
         refine wpAnyH_done (by kernel_rfl) ?_ _
         obtain⟨hb9,_⟩:=hHeld
         have HB9:=zH hb9
         clear hb9
         go_wp2_with fail
         go_ret
         exact⟨af HNO.out.symm,HB0.out.trans (HB9.out.mono HB0.out.size)⟩
      ·have HN5:=zH (mX (ss:=st.L) (fun k hk=>HK.out k (by omega)))
       have HE:=zH (rightP_in HD12.out.1 HD12.out.2 H3.out H4.out HN5.out)
       have HCK:=zH (fun(V:World) (hb:Below W0.heap.size W0 V) (c:Nat) (u:Value) (hu:[Value.slice a0 st.L.length k0,.slice a1 S.length k1,.slice a2 st.I.length k2,.slice a3 st.O.length k3,.int .i64 st.D][c]?=some u)=>(hb.cell (p:=⟨w.heap.size,c,none⟩) (bY (HC2.out c u hu))).trans (HC2.out c u hu))
       have d1:=HCK.out _ HB1.out 1 _ rfl
       have d2:=HCK.out _ HB1.out 2 _ rfl
       have d3:=HCK.out _ HB1.out 3 _ rfl
       have d4:=HCK.out _ HB1.out 4 _ rfl
       clear c0
       cases hI:bZ st.L.length st.I
       ·have HCI:=zH hI
        have HNO:=zH (show bg st S=false by rw[HE.out,hI];rfl)
        clear hI
        go_wp2_with (go_at_call 110;refine(gj (.slice a0 st.L.length k0) (.slice a1 S.length k1) (.slice a2 st.I.length k2) (.slice a3 st.O.length k3) st.D (.slice a2 st.I.length k2) st.L st.I _ (fE HP.out.s0 HB1.out) hl0 (cV HP.out.s2 HB1.out) hl2 HZI.out).mono ?_;rintro e w5 ⟨rfl,hb⟩;rw[HCI.out];have HB9:=zH (HB1.out.trans (hb.mono HB1.out.size));clear hb)
        go_ret
        exact⟨af HNO.out.symm,HB0.out.trans (HB9.out.mono HB0.out.size)⟩
       ·have HCI:=zH hI
        have HNO:=zH (show bg st S=bZ st.L.length st.O by rw[HE.out,hI];rfl)
        clear hI
        have HONE:=zH (rfl:(1:Nat)=1)
        go_wp2_with (go_at_call 110;clear HONE;refine(gj (.slice a0 st.L.length k0) (.slice a1 S.length k1) (.slice a2 st.I.length k2) (.slice a3 st.O.length k3) st.D (.slice a2 st.I.length k2) st.L st.I _ (fE HP.out.s0 HB1.out) hl0 (cV HP.out.s2 HB1.out) hl2 HZI.out).mono ?_;rintro e w5 ⟨rfl,hb⟩;rw[HCI.out];have HB9:=zH (HB1.out.trans (hb.mono HB1.out.size));clear hb e0 d1 d2 d3 d4;have f0:=HCK.out _ HB9.out 0 _ rfl;have f1:=HCK.out _ HB9.out 1 _ rfl;have f2:=HCK.out _ HB9.out 2 _ rfl;have f3:=HCK.out _ HB9.out 3 _ rfl;have f4:=HCK.out _ HB9.out 4 _ rfl)
        refine(gj (.slice a0 st.L.length k0) (.slice a1 S.length k1) (.slice a2 st.I.length k2) (.slice a3 st.O.length k3) st.D (.slice a3 st.O.length k3) st.L st.O _ (fE HP.out.s0 HB9.out) hl0 (cV HP.out.s3 HB9.out) hl3 HZO.out).mono ?_
        rintro e w6 ⟨rfl,hb⟩
        have HB10:=zH (HB9.out.trans (hb.mono HB9.out.size))
        clear hb
        go_wp2_with fail
        go_ret
        exact⟨af HNO.out.symm,HB0.out.trans (HB10.out.mono HB0.out.size)⟩
 ·have t3:((st.L.length:Int) != (S.length:Int))=true:=by rw[bne_iff_ne];omega
  have HN:=zH (tM (st:=st) h3)
  clear h3
  go_enter Tryz.func65,Tryz.ntmps65
  go_upto_region 1 with(fail)
  rw[<-eW0]
  clear eW0
  go_wp2_with fail
  go_ret
  exact⟨af HN.out.symm,HB0.out⟩
end
end Go.Proofs.YtjngffgkllakaaaGreatDoor
