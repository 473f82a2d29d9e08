/- A part of a proof: laws that the last text uses. -/
import Derived.Test.YtjngffgkllakaaaGreatDoorY01
import Derived.Test.YtjngffgkllakaaaGreatDoorY08
import Derived.Test.YtjngffgkllakaaaGreatDoorY10
import Derived.Defers
import Derived.Recover
import Derived.Deep.LoopGhost
set_option linter.unusedSimpArgs false
set_option linter.unusedVariables false
namespace Go.Proofs.YtjngffgkllakaaaGreatDoor.IP
open List renaming getElem_toArray → zA, getElem_cons_succ → zB, getElem_cons_zero → zC, setIfInBounds_toArray → zD, set_cons_zero → zE, set_cons_succ → zF
open Lib renaming hid → zH
section
open Go.RowKit
open CD (OpP BodyP CodeP ae blAt fnAt)
set_option maxRecDepth 100000 in
set_option maxHeartbeats 6400000 in
theorem do_store{K:Kst}{mf m:Nat}{W0 W:World}{fs:List FrS}{f:FrS}{st:Int}(h:Doing K mf W0 W fs f st m)(r a b:Nat)(hr:r<K.na)(ha:a<K.va f.num)(hb:b<K.va f.num)(hi:insK K f=.iface 206 (.agg #[.int .i64 r,.int .i64 a,.int .i64 b]))(hz:¬f.pl+1=K.len f.num f.bl) :
 Calls Tryz.prog 82 #[.pointer (some ⟨K.Rb,0,none⟩),.pointer (some ⟨f.fb,0,none⟩)] W fun e w'=>DoE K mf W0 fs f st m e w':=by
 obtain⟨q,cap,ht,_⟩:=h.g.top
 obtain⟨b1,b2,b3,b4⟩:=h.bounds
 have HI:=zH hi
 have G:=zH h.g
 have HT:=zH ht
 have HH:=zH h
 have HZ:=zH hz
 clear hz
 have HD:=zH (And.intro hr (And.intro ha hb))
 clear hr ha hb
 have n_constant:=@bC 206 (by decide) (.agg #[.int .i64 r,.int .i64 a,.int .i64 b])
 have n_binary:=@cw 206 (by decide) (.agg #[.int .i64 r,.int .i64 a,.int .i64 b])
 have n_load:=@dQ 206 (by decide) (.agg #[.int .i64 r,.int .i64 a,.int .i64 b])
 have n_wrap:=@eV 206 (by decide) (.agg #[.int .i64 r,.int .i64 a,.int .i64 b])
 have y_store:=yes_store (.agg #[.int .i64 r,.int .i64 a,.int .i64 b])
 clear h hi ht
 go_enter Tryz.func82,Tryz.ntmps82
 go_upto_region 15 with(go_at_call 124;refine(ck HT.out ⟨b2,b3⟩).mono ?_;rintro e w1 ⟨rfl,d1,hw1⟩;rw[HI.out];have HW:=zH hw1;clear hw1)
 obtain⟨w2,ew2⟩:∃w2,w2=w1.alloc (.cells #[.int .i64 r,.int .i64 a,.int .i64 b] 206):=⟨_,rfl⟩
 rw[<-ew2]
 obtain⟨g2,ho2,hb2,hB2⟩:=G.out.held HW.out ew2
 have HO2:=zH ho2
 have G2:=zH g2
 obtain⟨y0,y1,y2⟩:=obj3 ho2
 obtain⟨vg,c2,hva,hvB,hnv,hv,hfz,hset⟩:=g2.vals
 obtain⟨hr,ha,hb⟩:=HD.out
 have hm:=HH.out.ok.most
 have i_a:(0:Int)<=a/\(a:Int)<K.most:=by omega
 have i_b:(0:Int)<=b/\(b:Int)<K.most:=by omega
 have hfr2:=g2.frm _ _ (aQ _ _)
 have hB3:K.B0<=w2.heap.size:=Nat.le_trans hB2 hb2.size
 obtain⟨frv,ag,ac,aq,acs,hrun,eav,hag,hgr,harr,haq,hs1⟩:=g2.arr hr
 have hna:=HH.out.ok.na
 have hsz:=HH.out.ok.sz _ hr
 have HK:=zH (show ∀V,Kept K (fun _=>False) w2 V->(fun V=>Kept K (fun _=>False) w2 V/\V.cell? ⟨f.fb,2,none⟩=some (.slice (some ⟨vg,0,none⟩) K.most K.most)/\V.cell? ⟨w1.heap.size,0,none⟩=some (.int .i64 r)/\V.cell? ⟨w1.heap.size,1,none⟩=some (.int .i64 a)/\V.cell? ⟨w1.heap.size,2,none⟩=some (.int .i64 b)) V from fun V hV=>⟨hV,hV.cell hfr2 (by decide) (fun e=>e) c2,hV.cell ho2 (by decide) (fun e=>e) y0,hV.cell ho2 (by decide) (fun e=>e) y1,hV.cell ho2 (by decide) (fun e=>e) y2⟩)
 obtain⟨za,hza⟩:=hv a ha
 obtain⟨zb,hzb⟩:=hv b hb
 have HK3:=zH (Kept.refl (X:=fun _=>False) hB3).drew
 have HC:=zH (And.intro (show RunM K w2.drew frv st from hrun) (show w2.drew.cell? ⟨ag,r,none⟩=some (.slice (some ⟨aq,0,none⟩) (K.sz r) (K.sz r)) from hgr))
 have HE:=zH eav
 have HA:=zH harr
 have HR:=zH hr
 have HQ:=zH haq
 clear hv hnv hfz hset ew2 ho2 hfr2 y0 y1 y2 c2 g2 hrun eav hag hgr harr
 by_cases hx:0<=za/\za<K.sz r
 ·obtain⟨k,rfl⟩:∃k:Nat,za=(k:Int):=⟨za.toNat,by omega⟩
  have HX:=zH (show k<K.sz r by omega)
  obtain⟨zc,hzc⟩:=HA.out.cell HX.out
  have hfc:=HA.out.frozen k
  clear hx
  refine wp_region_held_drew (S:=(fun V=>Kept K (fun _=>False) w2 V/\V.cell? ⟨f.fb,2,none⟩=some (.slice (some ⟨vg,0,none⟩) K.most K.most)/\V.cell? ⟨w1.heap.size,0,none⟩=some (.int .i64 r)/\V.cell? ⟨w1.heap.size,1,none⟩=some (.int .i64 a)/\V.cell? ⟨w1.heap.size,2,none⟩=some (.int .i64 b))) (by kernel_rfl) ?_ (fun hHeld=>?_)
  ·exact HK.out _ HK3.out
  refine tkV 0 (.pointer (some ⟨K.Rb,0,none⟩)) rfl (fun W hSW=>?_) hHeld ?_
  ·((try dsimp only at hSW);go_split_ands;go_simp <;> with_reducible rfl)
  try simp only[zA,zB,zC,Act.put,zD,zE,zF]
  refine tkV 1 (.pointer (some ⟨w1.heap.size,0,none⟩)) rfl (fun W hSW=>?_) hHeld ?_
  ·((try dsimp only at hSW);go_split_ands;go_simp <;> with_reducible rfl)
  try simp only[zA,zB,zC,Act.put,zD,zE,zF]
  refine tkV 2 (.int .i64 r) rfl (fun W hSW=>?_) hHeld ?_
  ·((try dsimp only at hSW);go_split_ands;go_simp <;> with_reducible rfl)
  try simp only[zA,zB,zC,Act.put,zD,zE,zF]
  refine tkV 3 (.pointer (some ⟨f.fb,0,none⟩)) rfl (fun W hSW=>?_) hHeld ?_
  ·((try dsimp only at hSW);go_split_ands;go_simp <;> with_reducible rfl)
  try simp only[zA,zB,zC,Act.put,zD,zE,zF]
  refine tkV 4 (.pointer (some ⟨f.fb,0,none⟩)) rfl (fun W hSW=>?_) hHeld ?_
  ·((try dsimp only at hSW);go_split_ands;go_simp <;> with_reducible rfl)
  try simp only[zA,zB,zC,Act.put,zD,zE,zF]
  refine tkV 5 (.pointer (some ⟨f.fb,2,none⟩)) rfl (fun W hSW=>?_) hHeld ?_
  ·((try dsimp only at hSW);go_split_ands;go_simp <;> with_reducible rfl)
  try simp only[zA,zB,zC,Act.put,zD,zE,zF]
  refine tkV 6 (.slice (some ⟨vg,0,none⟩) K.most K.most) rfl (fun W hSW=>?_) hHeld ?_
  ·((try dsimp only at hSW);go_split_ands;go_simp <;> with_reducible rfl)
  try simp only[zA,zB,zC,Act.put,zD,zE,zF]
  refine tkV 7 (.pointer (some ⟨w1.heap.size,1,none⟩)) rfl (fun W hSW=>?_) hHeld ?_
  ·((try dsimp only at hSW);go_split_ands;go_simp <;> with_reducible rfl)
  try simp only[zA,zB,zC,Act.put,zD,zE,zF]
  refine tkV 8 (.int .i64 a) rfl (fun W hSW=>?_) hHeld ?_
  ·((try dsimp only at hSW);go_split_ands;go_simp <;> with_reducible rfl)
  try simp only[zA,zB,zC,Act.put,zD,zE,zF]
  refine tkV 9 (.pointer (some ⟨vg,a,none⟩)) rfl (fun W hSW=>?_) hHeld ?_
  ·((try dsimp only at hSW);go_split_ands;go_simp <;> with_reducible rfl)
  try simp only[zA,zB,zC,Act.put,zD,zE,zF]
  refine tkV 12 (.pointer (some ⟨f.fb,0,none⟩)) rfl (fun W hSW=>?_) hHeld ?_
  ·((try dsimp only at hSW);go_split_ands;go_simp <;> with_reducible rfl)
  try simp only[zA,zB,zC,Act.put,zD,zE,zF]
  refine tkV 13 (.pointer (some ⟨f.fb,0,none⟩)) rfl (fun W hSW=>?_) hHeld ?_
  ·((try dsimp only at hSW);go_split_ands;go_simp <;> with_reducible rfl)
  try simp only[zA,zB,zC,Act.put,zD,zE,zF]
  refine tkV 14 (.pointer (some ⟨f.fb,2,none⟩)) rfl (fun W hSW=>?_) hHeld ?_
  ·((try dsimp only at hSW);go_split_ands;go_simp <;> with_reducible rfl)
  try simp only[zA,zB,zC,Act.put,zD,zE,zF]
  refine tkV 15 (.slice (some ⟨vg,0,none⟩) K.most K.most) rfl (fun W hSW=>?_) hHeld ?_
  ·((try dsimp only at hSW);go_split_ands;go_simp <;> with_reducible rfl)
  try simp only[zA,zB,zC,Act.put,zD,zE,zF]
  refine tkV 16 (.pointer (some ⟨w1.heap.size,2,none⟩)) rfl (fun W hSW=>?_) hHeld ?_
  ·((try dsimp only at hSW);go_split_ands;go_simp <;> with_reducible rfl)
  try simp only[zA,zB,zC,Act.put,zD,zE,zF]
  refine tkV 17 (.int .i64 b) rfl (fun W hSW=>?_) hHeld ?_
  ·((try dsimp only at hSW);go_split_ands;go_simp <;> with_reducible rfl)
  try simp only[zA,zB,zC,Act.put,zD,zE,zF]
  refine tkV 18 (.pointer (some ⟨vg,b,none⟩)) rfl (fun W hSW=>?_) hHeld ?_
  ·((try dsimp only at hSW);go_split_ands;go_simp <;> with_reducible rfl)
  try simp only[zA,zB,zC,Act.put,zD,zE,zF]
  refine wpAnyH_ready (rs:=[10,19]) (by kernel_rfl) (by simp) ?_
  refine AllReadyH.cons rfl (fun KK hKK=>?_) (AllReadyH.cons rfl (fun KK hKK=>?_) (AllReadyH.nil))
  ·try simp only[zA,zB,zC]
   go_simp
   refine hKK.out _ _ ?_ (fun hHeld=>?_)
   ·exact HK.out _ HK3.out
   clear hKK KK
   try simp only[zA,zB,zC,Act.put,zD,zE,zF]
   refine wpAnyH_ready (rs:=[11,19]) (by kernel_rfl) (by simp) ?_
   refine AllReadyH.cons rfl (fun KK hKK=>?_) (AllReadyH.cons rfl (fun KK hKK=>?_) (AllReadyH.nil))
   ·try simp only[zA,zB,zC]
    go_simp
    (go_at_call 127;refine(kw HC.out.1 HE.out (by omega) HR.out HC.out.2 (by omega) HX.out).mono ?_;rintro e w4 ⟨rfl,hw⟩;rw[hw];clear hw)
    try go_wp2_with fail
    refine hKK.out _ _ ?_ (fun hHeld=>?_)
    ·exact HK.out _ HK3.out
    clear hKK KK
    try simp only[zA,zB,zC,Act.put,zD,zE,zF]
    refine wpAnyH_ready (rs:=[19]) (by kernel_rfl) (by simp) ?_
    refine AllReadyH.cons rfl (fun KK hKK=>?_) (AllReadyH.nil)
    try simp only[zA,zB,zC]
    go_simp
    refine hKK.out _ _ ?_ (fun hHeld=>?_)
    ·exact HK.out _ HK3.out
    clear hKK KK
    try simp only[zA,zB,zC,Act.put,zD,zE,zF]
    refine tkV 20 (.pointer (some ⟨aq,k,none⟩)) rfl (fun W hSW=>?_) hHeld ?_
    ·((try dsimp only at hSW);go_split_ands;go_simp <;> with_reducible rfl)
    try simp only[zA,zB,zC,Act.put,zD,zE,zF]
    refine wpAnyH_ready (rs:=[21]) (by kernel_rfl) (by simp) ?_
    refine AllReadyH.cons rfl (fun KK hKK=>?_) (AllReadyH.nil)
    try simp only[zA,zB,zC]
    go_simp
    refine hKK.out _ _ ?_ (fun hHeld=>?_)
    ·exact HK.out _ (HK3.out.num (HA.out.chg HK3.out.chg) HQ.out _ _)
    clear hKK KK
    try simp only[zA,zB,zC,Act.put,zD,zE,zF]
    refine wpAnyH_done (by kernel_rfl) ?_ _
    have g3:=(HK3.out.num (HA.out.chg HK3.out.chg) HQ.out k zb).mach G2.out
    clear hHeld hzb hzc hfc hza
    change Mach K mf W0 (World.drew (World.setCell w2 _ _)) _ _ _ at g3
    generalize World.drew (World.setCell w2 _ _)=w5 at g3 ⊢
    obtain⟨p1,p2,p3⟩:=g3.next HZ.out
    have HP:=zH p3
    clear p3 g3
    go_wp2_with fail
    go_end0
    exact .inl ⟨rfl,_,HP.out.more (by omega)⟩
   ·try simp only[zA,zB,zC]
    go_simp
    refine hKK.out _ _ ?_ (fun hHeld=>?_)
    ·exact HK.out _ HK3.out
    clear hKK KK
    try simp only[zA,zB,zC,Act.put,zD,zE,zF]
    refine wpAnyH_ready (rs:=[11]) (by kernel_rfl) (by simp) ?_
    refine AllReadyH.cons rfl (fun KK hKK=>?_) (AllReadyH.nil)
    try simp only[zA,zB,zC]
    go_simp
    (go_at_call 127;refine(kw HC.out.1 HE.out (by omega) HR.out HC.out.2 (by omega) HX.out).mono ?_;rintro e w4 ⟨rfl,hw⟩;rw[hw];clear hw)
    try go_wp2_with fail
    refine hKK.out _ _ ?_ (fun hHeld=>?_)
    ·exact HK.out _ HK3.out
    clear hKK KK
    try simp only[zA,zB,zC,Act.put,zD,zE,zF]
    refine tkV 20 (.pointer (some ⟨aq,k,none⟩)) rfl (fun W hSW=>?_) hHeld ?_
    ·((try dsimp only at hSW);go_split_ands;go_simp <;> with_reducible rfl)
    try simp only[zA,zB,zC,Act.put,zD,zE,zF]
    refine wpAnyH_ready (rs:=[21]) (by kernel_rfl) (by simp) ?_
    refine AllReadyH.cons rfl (fun KK hKK=>?_) (AllReadyH.nil)
    try simp only[zA,zB,zC]
    go_simp
    refine hKK.out _ _ ?_ (fun hHeld=>?_)
    ·exact HK.out _ (HK3.out.num (HA.out.chg HK3.out.chg) HQ.out _ _)
    clear hKK KK
    try simp only[zA,zB,zC,Act.put,zD,zE,zF]
    refine wpAnyH_done (by kernel_rfl) ?_ _
    have g3:=(HK3.out.num (HA.out.chg HK3.out.chg) HQ.out k zb).mach G2.out
    clear hHeld hzb hzc hfc hza
    change Mach K mf W0 (World.drew (World.setCell w2 _ _)) _ _ _ at g3
    generalize World.drew (World.setCell w2 _ _)=w5 at g3 ⊢
    obtain⟨p1,p2,p3⟩:=g3.next HZ.out
    have HP:=zH p3
    clear p3 g3
    go_wp2_with fail
    go_end0
    exact .inl ⟨rfl,_,HP.out.more (by omega)⟩
  ·try simp only[zA,zB,zC]
   go_simp
   refine hKK.out _ _ ?_ (fun hHeld=>?_)
   ·exact HK.out _ HK3.out
   clear hKK KK
   try simp only[zA,zB,zC,Act.put,zD,zE,zF]
   refine wpAnyH_ready (rs:=[10]) (by kernel_rfl) (by simp) ?_
   refine AllReadyH.cons rfl (fun KK hKK=>?_) (AllReadyH.nil)
   try simp only[zA,zB,zC]
   go_simp
   refine hKK.out _ _ ?_ (fun hHeld=>?_)
   ·exact HK.out _ HK3.out
   clear hKK KK
   try simp only[zA,zB,zC,Act.put,zD,zE,zF]
   refine wpAnyH_ready (rs:=[11]) (by kernel_rfl) (by simp) ?_
   refine AllReadyH.cons rfl (fun KK hKK=>?_) (AllReadyH.nil)
   try simp only[zA,zB,zC]
   go_simp
   (go_at_call 127;refine(kw HC.out.1 HE.out (by omega) HR.out HC.out.2 (by omega) HX.out).mono ?_;rintro e w4 ⟨rfl,hw⟩;rw[hw];clear hw)
   try go_wp2_with fail
   refine hKK.out _ _ ?_ (fun hHeld=>?_)
   ·exact HK.out _ HK3.out
   clear hKK KK
   try simp only[zA,zB,zC,Act.put,zD,zE,zF]
   refine tkV 20 (.pointer (some ⟨aq,k,none⟩)) rfl (fun W hSW=>?_) hHeld ?_
   ·((try dsimp only at hSW);go_split_ands;go_simp <;> with_reducible rfl)
   try simp only[zA,zB,zC,Act.put,zD,zE,zF]
   refine wpAnyH_ready (rs:=[21]) (by kernel_rfl) (by simp) ?_
   refine AllReadyH.cons rfl (fun KK hKK=>?_) (AllReadyH.nil)
   try simp only[zA,zB,zC]
   go_simp
   refine hKK.out _ _ ?_ (fun hHeld=>?_)
   ·exact HK.out _ (HK3.out.num (HA.out.chg HK3.out.chg) HQ.out _ _)
   clear hKK KK
   try simp only[zA,zB,zC,Act.put,zD,zE,zF]
   refine wpAnyH_done (by kernel_rfl) ?_ _
   have g3:=(HK3.out.num (HA.out.chg HK3.out.chg) HQ.out k zb).mach G2.out
   clear hHeld hzb hzc hfc hza
   change Mach K mf W0 (World.drew (World.setCell w2 _ _)) _ _ _ at g3
   generalize World.drew (World.setCell w2 _ _)=w5 at g3 ⊢
   obtain⟨p1,p2,p3⟩:=g3.next HZ.out
   have HP:=zH p3
   clear p3 g3
   go_wp2_with fail
   go_end0
   exact .inl ⟨rfl,_,HP.out.more (by omega)⟩
 ·have HX:=zH hx
  clear hx
  refine wp_region_held_drew (S:=(fun V=>Kept K (fun _=>False) w2 V/\V.cell? ⟨f.fb,2,none⟩=some (.slice (some ⟨vg,0,none⟩) K.most K.most)/\V.cell? ⟨w1.heap.size,0,none⟩=some (.int .i64 r)/\V.cell? ⟨w1.heap.size,1,none⟩=some (.int .i64 a)/\V.cell? ⟨w1.heap.size,2,none⟩=some (.int .i64 b))) (by kernel_rfl) ?_ (fun hHeld=>?_)
  ·exact HK.out _ HK3.out
  refine tkV 0 (.pointer (some ⟨K.Rb,0,none⟩)) rfl (fun W hSW=>?_) hHeld ?_
  ·((try dsimp only at hSW);go_split_ands;go_simp <;> with_reducible rfl)
  try simp only[zA,zB,zC,Act.put,zD,zE,zF]
  refine tkV 1 (.pointer (some ⟨w1.heap.size,0,none⟩)) rfl (fun W hSW=>?_) hHeld ?_
  ·((try dsimp only at hSW);go_split_ands;go_simp <;> with_reducible rfl)
  try simp only[zA,zB,zC,Act.put,zD,zE,zF]
  refine tkV 2 (.int .i64 r) rfl (fun W hSW=>?_) hHeld ?_
  ·((try dsimp only at hSW);go_split_ands;go_simp <;> with_reducible rfl)
  try simp only[zA,zB,zC,Act.put,zD,zE,zF]
  refine tkV 3 (.pointer (some ⟨f.fb,0,none⟩)) rfl (fun W hSW=>?_) hHeld ?_
  ·((try dsimp only at hSW);go_split_ands;go_simp <;> with_reducible rfl)
  try simp only[zA,zB,zC,Act.put,zD,zE,zF]
  refine tkV 4 (.pointer (some ⟨f.fb,0,none⟩)) rfl (fun W hSW=>?_) hHeld ?_
  ·((try dsimp only at hSW);go_split_ands;go_simp <;> with_reducible rfl)
  try simp only[zA,zB,zC,Act.put,zD,zE,zF]
  refine tkV 5 (.pointer (some ⟨f.fb,2,none⟩)) rfl (fun W hSW=>?_) hHeld ?_
  ·((try dsimp only at hSW);go_split_ands;go_simp <;> with_reducible rfl)
  try simp only[zA,zB,zC,Act.put,zD,zE,zF]
  refine tkV 6 (.slice (some ⟨vg,0,none⟩) K.most K.most) rfl (fun W hSW=>?_) hHeld ?_
  ·((try dsimp only at hSW);go_split_ands;go_simp <;> with_reducible rfl)
  try simp only[zA,zB,zC,Act.put,zD,zE,zF]
  refine tkV 7 (.pointer (some ⟨w1.heap.size,1,none⟩)) rfl (fun W hSW=>?_) hHeld ?_
  ·((try dsimp only at hSW);go_split_ands;go_simp <;> with_reducible rfl)
  try simp only[zA,zB,zC,Act.put,zD,zE,zF]
  refine tkV 8 (.int .i64 a) rfl (fun W hSW=>?_) hHeld ?_
  ·((try dsimp only at hSW);go_split_ands;go_simp <;> with_reducible rfl)
  try simp only[zA,zB,zC,Act.put,zD,zE,zF]
  refine tkV 9 (.pointer (some ⟨vg,a,none⟩)) rfl (fun W hSW=>?_) hHeld ?_
  ·((try dsimp only at hSW);go_split_ands;go_simp <;> with_reducible rfl)
  try simp only[zA,zB,zC,Act.put,zD,zE,zF]
  refine tkV 12 (.pointer (some ⟨f.fb,0,none⟩)) rfl (fun W hSW=>?_) hHeld ?_
  ·((try dsimp only at hSW);go_split_ands;go_simp <;> with_reducible rfl)
  try simp only[zA,zB,zC,Act.put,zD,zE,zF]
  refine tkV 13 (.pointer (some ⟨f.fb,0,none⟩)) rfl (fun W hSW=>?_) hHeld ?_
  ·((try dsimp only at hSW);go_split_ands;go_simp <;> with_reducible rfl)
  try simp only[zA,zB,zC,Act.put,zD,zE,zF]
  refine tkV 14 (.pointer (some ⟨f.fb,2,none⟩)) rfl (fun W hSW=>?_) hHeld ?_
  ·((try dsimp only at hSW);go_split_ands;go_simp <;> with_reducible rfl)
  try simp only[zA,zB,zC,Act.put,zD,zE,zF]
  refine tkV 15 (.slice (some ⟨vg,0,none⟩) K.most K.most) rfl (fun W hSW=>?_) hHeld ?_
  ·((try dsimp only at hSW);go_split_ands;go_simp <;> with_reducible rfl)
  try simp only[zA,zB,zC,Act.put,zD,zE,zF]
  refine tkV 16 (.pointer (some ⟨w1.heap.size,2,none⟩)) rfl (fun W hSW=>?_) hHeld ?_
  ·((try dsimp only at hSW);go_split_ands;go_simp <;> with_reducible rfl)
  try simp only[zA,zB,zC,Act.put,zD,zE,zF]
  refine tkV 17 (.int .i64 b) rfl (fun W hSW=>?_) hHeld ?_
  ·((try dsimp only at hSW);go_split_ands;go_simp <;> with_reducible rfl)
  try simp only[zA,zB,zC,Act.put,zD,zE,zF]
  refine tkV 18 (.pointer (some ⟨vg,b,none⟩)) rfl (fun W hSW=>?_) hHeld ?_
  ·((try dsimp only at hSW);go_split_ands;go_simp <;> with_reducible rfl)
  try simp only[zA,zB,zC,Act.put,zD,zE,zF]
  refine wpAnyH_ready (rs:=[10,19]) (by kernel_rfl) (by simp) ?_
  refine AllReadyH.cons rfl (fun KK hKK=>?_) (AllReadyH.cons rfl (fun KK hKK=>?_) (AllReadyH.nil))
  ·try simp only[zA,zB,zC]
   go_simp
   refine hKK.out _ _ ?_ (fun hHeld=>?_)
   ·exact HK.out _ HK3.out
   clear hKK KK
   try simp only[zA,zB,zC,Act.put,zD,zE,zF]
   refine wpAnyH_ready (rs:=[11,19]) (by kernel_rfl) (by simp) ?_
   refine AllReadyH.cons rfl (fun KK hKK=>?_) (AllReadyH.cons rfl (fun KK hKK=>?_) (AllReadyH.nil))
   ·try simp only[zA,zB,zC]
    go_simp
    (go_at_call 127;refine(ju HC.out.1 HE.out (by omega) HR.out HC.out.2 (by omega) HX.out).mono ?_;rintro e w4 ⟨rfl,hw⟩;rw[hw];clear hw;unfold Over)
    try go_wp2_with fail
    clear hKK KK
    simp only[bodyPost,true_and,Exit.inBlock,Exit.then]
    exact .inr ⟨21,rfl,fun h=>absurd h (by decide),_,(HK3.out.mach G2.out).more (by omega)⟩
   ·try simp only[zA,zB,zC]
    go_simp
    refine hKK.out _ _ ?_ (fun hHeld=>?_)
    ·exact HK.out _ HK3.out
    clear hKK KK
    try simp only[zA,zB,zC,Act.put,zD,zE,zF]
    refine wpAnyH_ready (rs:=[11]) (by kernel_rfl) (by simp) ?_
    refine AllReadyH.cons rfl (fun KK hKK=>?_) (AllReadyH.nil)
    try simp only[zA,zB,zC]
    go_simp
    (go_at_call 127;refine(ju HC.out.1 HE.out (by omega) HR.out HC.out.2 (by omega) HX.out).mono ?_;rintro e w4 ⟨rfl,hw⟩;rw[hw];clear hw;unfold Over)
    try go_wp2_with fail
    clear hKK KK
    simp only[bodyPost,true_and,Exit.inBlock,Exit.then]
    exact .inr ⟨21,rfl,fun h=>absurd h (by decide),_,(HK3.out.mach G2.out).more (by omega)⟩
  ·try simp only[zA,zB,zC]
   go_simp
   refine hKK.out _ _ ?_ (fun hHeld=>?_)
   ·exact HK.out _ HK3.out
   clear hKK KK
   try simp only[zA,zB,zC,Act.put,zD,zE,zF]
   refine wpAnyH_ready (rs:=[10]) (by kernel_rfl) (by simp) ?_
   refine AllReadyH.cons rfl (fun KK hKK=>?_) (AllReadyH.nil)
   try simp only[zA,zB,zC]
   go_simp
   refine hKK.out _ _ ?_ (fun hHeld=>?_)
   ·exact HK.out _ HK3.out
   clear hKK KK
   try simp only[zA,zB,zC,Act.put,zD,zE,zF]
   refine wpAnyH_ready (rs:=[11]) (by kernel_rfl) (by simp) ?_
   refine AllReadyH.cons rfl (fun KK hKK=>?_) (AllReadyH.nil)
   try simp only[zA,zB,zC]
   go_simp
   (go_at_call 127;refine(ju HC.out.1 HE.out (by omega) HR.out HC.out.2 (by omega) HX.out).mono ?_;rintro e w4 ⟨rfl,hw⟩;rw[hw];clear hw;unfold Over)
   try go_wp2_with fail
   clear hKK KK
   simp only[bodyPost,true_and,Exit.inBlock,Exit.then]
   exact .inr ⟨21,rfl,fun h=>absurd h (by decide),_,(HK3.out.mach G2.out).more (by omega)⟩
end
section
open Go.RowKit
open CD (OpP BodyP CodeP ae blAt fnAt)
theorem Kept.trans{K:Kst}{X:Nat->Prop}{A B C:World}(h:Kept K X A B)(g:Kept K X B C):Kept K X A C:=⟨h.chg.trans g.chg,h.below.trans g.below,h.base⟩
theorem Mach.boxp{K:Kst}{mf m:Nat}{W0 W:World}{fs:List FrS}{st:Int}(g:Mach K mf W0 W fs st m):∃frv cr,RunM K W frv st/\W.cell? ⟨K.Rb,2,none⟩=some (.pointer (some ⟨K.kb,0,none⟩))/\W.heap[K.rb]?=some (.cells cr 49 (0,0)):=by
 obtain⟨frv,hr,_⟩:=g.run
 obtain⟨ve,es,vs,rows,hb,ht,_⟩:=g.box
 obtain⟨c,hc,_⟩:=ht.tab
 exact⟨frv,c,hr,hr.cells.2.2.1,hc⟩
set_option maxRecDepth 100000 in
set_option maxHeartbeats 3200000 in
theorem do_input{K:Kst}{mf m:Nat}{W0 W:World}{fs:List FrS}{f:FrS}{st:Int}(h:Doing K mf W0 W fs f st m)(d:Nat)(r:Int)(hd:d<K.va f.num)(hi:insK K f=.iface 210 (.agg #[.int .i64 d,.int .i64 r]))(hz:¬f.pl+1=K.len f.num f.bl) :
 Calls Tryz.prog 82 #[.pointer (some ⟨K.Rb,0,none⟩),.pointer (some ⟨f.fb,0,none⟩)] W fun e w'=>DoE K mf W0 fs f st m e w':=by
 obtain⟨q,cap,ht,_⟩:=h.g.top
 obtain⟨b1,b2,b3,b4⟩:=h.bounds
 have HI:=zH hi
 have G:=zH h.g
 have HT:=zH ht
 have HH:=zH h
 have HZ:=zH hz
 clear hz
 have HD:=zH hd
 clear hd
 have n_constant:=@bC 210 (by decide) (.agg #[.int .i64 d,.int .i64 r])
 have n_binary:=@cw 210 (by decide) (.agg #[.int .i64 d,.int .i64 r])
 have n_load:=@dQ 210 (by decide) (.agg #[.int .i64 d,.int .i64 r])
 have n_wrap:=@eV 210 (by decide) (.agg #[.int .i64 d,.int .i64 r])
 have n_store:=@eH 210 (by decide) (.agg #[.int .i64 d,.int .i64 r])
 have y_input:=yes_input (.agg #[.int .i64 d,.int .i64 r])
 clear h hi ht
 go_enter Tryz.func82,Tryz.ntmps82
 go_upto_region 18 with(go_at_call 124;refine(ck HT.out ⟨b2,b3⟩).mono ?_;rintro e w1 ⟨rfl,d1,hw1⟩;rw[HI.out];have HW:=zH hw1;clear hw1)
 obtain⟨w2,ew2⟩:∃w2,w2=w1.alloc (.cells #[.int .i64 d,.int .i64 r] 210):=⟨_,rfl⟩
 rw[<-ew2]
 obtain⟨g2,ho2,hb2,hB2⟩:=G.out.held HW.out ew2
 have HO2:=zH ho2
 have G2:=zH g2
 obtain⟨y0,y1⟩:=obj2 ho2
 obtain⟨vg,c2,hva,hvB,hnv,hv,hfz,hset⟩:=g2.vals
 have hd:=HD.out
 have hm:=HH.out.ok.most
 have i_d:(0:Int)<=d/\(d:Int)<K.most:=by omega
 have hfr2:=g2.frm _ _ (aQ _ _)
 have hB3:K.B0<=w2.heap.size:=Nat.le_trans hB2 hb2.size
 obtain⟨frv,cr,hrun,x2,hrb⟩:=g2.boxp
 have HRB:=zH hrb
 have HK:=zH (show ∀V,Kept K (fun b=>b=K.rb) w2 V->(fun V=>Kept K (fun b=>b=K.rb) w2 V/\V.cell? ⟨f.fb,2,none⟩=some (.slice (some ⟨vg,0,none⟩) K.most K.most)/\V.cell? ⟨K.Rb,2,none⟩=some (.pointer (some ⟨K.kb,0,none⟩))/\V.cell? ⟨w1.heap.size,0,none⟩=some (.int .i64 d)/\V.cell? ⟨w1.heap.size,1,none⟩=some (.int .i64 r)) V from fun V hV=>⟨hV,hV.cell hfr2 (by decide) (fun e=>aP hfr2 hrb (by decide) e) c2,hV.cell hrun (by decide) (fun e=>aP hrun hrb (by decide) e) x2,hV.cell ho2 (by decide) (fun e=>aP ho2 hrb (by decide) e) y0,hV.cell ho2 (by decide) (fun e=>aP ho2 hrb (by decide) e) y1⟩)
 have HN:=zH hnv
 have HK3:=zH (Kept.refl (X:=fun b=>b=K.rb) hB3).drew
 obtain⟨zt,kt,hkt,htk⟩:=(g2.drewN 1).takes HH.out.ok.ni r
 have HTK:=zH htk
 change Hid (Calls _ _ _ (World.drew w2) _) at HTK
 clear hv hnv hfz hset ew2 ho2 hfr2 y0 y1 c2 g2 hrun x2 hrb htk
 by_cases hx:kt=0
 ·subst hx
  clear hkt
  refine wp_region_held_drew (S:=(fun V=>Kept K (fun b=>b=K.rb) w2 V/\V.cell? ⟨f.fb,2,none⟩=some (.slice (some ⟨vg,0,none⟩) K.most K.most)/\V.cell? ⟨K.Rb,2,none⟩=some (.pointer (some ⟨K.kb,0,none⟩))/\V.cell? ⟨w1.heap.size,0,none⟩=some (.int .i64 d)/\V.cell? ⟨w1.heap.size,1,none⟩=some (.int .i64 r))) (by kernel_rfl) ?_ (fun hHeld=>?_)
  ·exact HK.out _ HK3.out
  refine tkV 0 (.pointer (some ⟨f.fb,0,none⟩)) rfl (fun W hSW=>?_) hHeld ?_
  ·((try dsimp only at hSW);go_split_ands;go_simp <;> with_reducible rfl)
  try simp only[zA,zB,zC,Act.put,zD,zE,zF]
  refine tkV 1 (.pointer (some ⟨f.fb,0,none⟩)) rfl (fun W hSW=>?_) hHeld ?_
  ·((try dsimp only at hSW);go_split_ands;go_simp <;> with_reducible rfl)
  try simp only[zA,zB,zC,Act.put,zD,zE,zF]
  refine tkV 2 (.pointer (some ⟨f.fb,2,none⟩)) rfl (fun W hSW=>?_) hHeld ?_
  ·((try dsimp only at hSW);go_split_ands;go_simp <;> with_reducible rfl)
  try simp only[zA,zB,zC,Act.put,zD,zE,zF]
  refine tkV 3 (.slice (some ⟨vg,0,none⟩) K.most K.most) rfl (fun W hSW=>?_) hHeld ?_
  ·((try dsimp only at hSW);go_split_ands;go_simp <;> with_reducible rfl)
  try simp only[zA,zB,zC,Act.put,zD,zE,zF]
  refine tkV 4 (.pointer (some ⟨w1.heap.size,0,none⟩)) rfl (fun W hSW=>?_) hHeld ?_
  ·((try dsimp only at hSW);go_split_ands;go_simp <;> with_reducible rfl)
  try simp only[zA,zB,zC,Act.put,zD,zE,zF]
  refine tkV 5 (.int .i64 d) rfl (fun W hSW=>?_) hHeld ?_
  ·((try dsimp only at hSW);go_split_ands;go_simp <;> with_reducible rfl)
  try simp only[zA,zB,zC,Act.put,zD,zE,zF]
  refine tkV 6 (.pointer (some ⟨K.Rb,0,none⟩)) rfl (fun W hSW=>?_) hHeld ?_
  ·((try dsimp only at hSW);go_split_ands;go_simp <;> with_reducible rfl)
  try simp only[zA,zB,zC,Act.put,zD,zE,zF]
  refine tkV 7 (.pointer (some ⟨K.Rb,0,none⟩)) rfl (fun W hSW=>?_) hHeld ?_
  ·((try dsimp only at hSW);go_split_ands;go_simp <;> with_reducible rfl)
  try simp only[zA,zB,zC,Act.put,zD,zE,zF]
  refine tkV 8 (.pointer (some ⟨K.Rb,2,none⟩)) rfl (fun W hSW=>?_) hHeld ?_
  ·((try dsimp only at hSW);go_split_ands;go_simp <;> with_reducible rfl)
  try simp only[zA,zB,zC,Act.put,zD,zE,zF]
  refine tkV 9 (.pointer (some ⟨K.kb,0,none⟩)) rfl (fun W hSW=>?_) hHeld ?_
  ·((try dsimp only at hSW);go_split_ands;go_simp <;> with_reducible rfl)
  try simp only[zA,zB,zC,Act.put,zD,zE,zF]
  refine tkV 10 (.pointer (some ⟨w1.heap.size,1,none⟩)) rfl (fun W hSW=>?_) hHeld ?_
  ·((try dsimp only at hSW);go_split_ands;go_simp <;> with_reducible rfl)
  try simp only[zA,zB,zC,Act.put,zD,zE,zF]
  refine tkV 11 (.int .i64 r) rfl (fun W hSW=>?_) hHeld ?_
  ·((try dsimp only at hSW);go_split_ands;go_simp <;> with_reducible rfl)
  try simp only[zA,zB,zC,Act.put,zD,zE,zF]
  refine wpAnyH_ready (rs:=[12]) (by kernel_rfl) (by simp) ?_
  refine AllReadyH.cons rfl (fun KK hKK=>?_) (AllReadyH.nil)
  try simp only[zA,zB,zC]
  go_simp
  (go_at_call 129;refine HTK.out.mono ?_;rintro e w3 ⟨rfl,hg3,hk3⟩)
  try go_wp2_with fail
  refine hKK.out _ _ ?_ (fun hHeld=>?_)
  ·exact HK.out _ (HK3.out.trans hk3)
  clear hKK KK
  try simp only[zA,zB,zC,Act.put,zD,zE,zF]
  have v3:=zH (HN.out.chg (HK3.out.trans hk3).chg)
  have G3:=zH hg3
  have HK4:=zH (HK3.out.trans hk3)
  clear hg3 hk3
  refine tkV 13 (.int .i64 zt) rfl (fun W hSW=>?_) hHeld ?_
  ·((try dsimp only at hSW);go_split_ands;go_simp <;> with_reducible rfl)
  try simp only[zA,zB,zC,Act.put,zD,zE,zF]
  refine tkV 14 (.int .i64 0) rfl (fun W hSW=>?_) hHeld ?_
  ·((try dsimp only at hSW);go_split_ands;go_simp <;> with_reducible rfl)
  try simp only[zA,zB,zC,Act.put,zD,zE,zF]
  obtain⟨zd,hzd⟩:=v3.out.cell (show d<K.most by omega)
  have hfd:=v3.out.frozen d
  refine wpAnyH_ready (rs:=[15]) (by kernel_rfl) (by simp) ?_
  refine AllReadyH.cons rfl (fun KK hKK=>?_) (AllReadyH.nil)
  try simp only[zA,zB,zC]
  go_simp
  (go_at_call 125;refine(oh _ _).mono ?_;rintro e w4 ⟨rfl,hw⟩;rw[hw];clear hw)
  try go_wp2_with fail
  refine hKK.out _ _ ?_ (fun hHeld=>?_)
  ·exact HK.out _ HK4.out
  clear hKK KK
  try simp only[zA,zB,zC,Act.put,zD,zE,zF]
  refine tkV 16 (.pointer (some ⟨vg,d,none⟩)) rfl (fun W hSW=>?_) hHeld ?_
  ·((try dsimp only at hSW);go_split_ands;go_simp <;> with_reducible rfl)
  try simp only[zA,zB,zC,Act.put,zD,zE,zF]
  refine wpAnyH_ready (rs:=[17]) (by kernel_rfl) (by simp) ?_
  refine AllReadyH.cons rfl (fun KK hKK=>?_) (AllReadyH.nil)
  try simp only[zA,zB,zC]
  go_simp
  refine hKK.out _ _ ?_ (fun hHeld=>?_)
  ·exact HK.out _ (HK4.out.num v3.out hvB _ _)
  clear hKK KK
  try simp only[zA,zB,zC,Act.put,zD,zE,zF]
  refine wpAnyH_done (by kernel_rfl) ?_ _
  have g3:=((Kept.refl (K:=K) (X:=fun _=>False) (Nat.le_trans hB3 HK4.out.chg.size)).num v3.out hvB d zt).mach G3.out
  clear hHeld hzd hfd
  generalize World.setCell w3 _ _=w5 at g3 ⊢
  obtain⟨p1,p2,p3⟩:=g3.next HZ.out
  have HP:=zH p3
  clear p3 g3
  go_wp2_with fail
  go_end0
  exact .inl ⟨rfl,_,HP.out.more (by omega)⟩
 ·have HZK:=zH (show (kt != 0)=true by simpa using hx)
  have HZ2:=zH (show ¬kt=22 by omega)
  clear hx hkt
  refine wp_region_held_drew (S:=(fun V=>Kept K (fun b=>b=K.rb) w2 V/\V.cell? ⟨f.fb,2,none⟩=some (.slice (some ⟨vg,0,none⟩) K.most K.most)/\V.cell? ⟨K.Rb,2,none⟩=some (.pointer (some ⟨K.kb,0,none⟩))/\V.cell? ⟨w1.heap.size,0,none⟩=some (.int .i64 d)/\V.cell? ⟨w1.heap.size,1,none⟩=some (.int .i64 r))) (by kernel_rfl) ?_ (fun hHeld=>?_)
  ·exact HK.out _ HK3.out
  refine tkV 0 (.pointer (some ⟨f.fb,0,none⟩)) rfl (fun W hSW=>?_) hHeld ?_
  ·((try dsimp only at hSW);go_split_ands;go_simp <;> with_reducible rfl)
  try simp only[zA,zB,zC,Act.put,zD,zE,zF]
  refine tkV 1 (.pointer (some ⟨f.fb,0,none⟩)) rfl (fun W hSW=>?_) hHeld ?_
  ·((try dsimp only at hSW);go_split_ands;go_simp <;> with_reducible rfl)
  try simp only[zA,zB,zC,Act.put,zD,zE,zF]
  refine tkV 2 (.pointer (some ⟨f.fb,2,none⟩)) rfl (fun W hSW=>?_) hHeld ?_
  ·((try dsimp only at hSW);go_split_ands;go_simp <;> with_reducible rfl)
  try simp only[zA,zB,zC,Act.put,zD,zE,zF]
  refine tkV 3 (.slice (some ⟨vg,0,none⟩) K.most K.most) rfl (fun W hSW=>?_) hHeld ?_
  ·((try dsimp only at hSW);go_split_ands;go_simp <;> with_reducible rfl)
  try simp only[zA,zB,zC,Act.put,zD,zE,zF]
  refine tkV 4 (.pointer (some ⟨w1.heap.size,0,none⟩)) rfl (fun W hSW=>?_) hHeld ?_
  ·((try dsimp only at hSW);go_split_ands;go_simp <;> with_reducible rfl)
  try simp only[zA,zB,zC,Act.put,zD,zE,zF]
  refine tkV 5 (.int .i64 d) rfl (fun W hSW=>?_) hHeld ?_
  ·((try dsimp only at hSW);go_split_ands;go_simp <;> with_reducible rfl)
  try simp only[zA,zB,zC,Act.put,zD,zE,zF]
  refine tkV 6 (.pointer (some ⟨K.Rb,0,none⟩)) rfl (fun W hSW=>?_) hHeld ?_
  ·((try dsimp only at hSW);go_split_ands;go_simp <;> with_reducible rfl)
  try simp only[zA,zB,zC,Act.put,zD,zE,zF]
  refine tkV 7 (.pointer (some ⟨K.Rb,0,none⟩)) rfl (fun W hSW=>?_) hHeld ?_
  ·((try dsimp only at hSW);go_split_ands;go_simp <;> with_reducible rfl)
  try simp only[zA,zB,zC,Act.put,zD,zE,zF]
  refine tkV 8 (.pointer (some ⟨K.Rb,2,none⟩)) rfl (fun W hSW=>?_) hHeld ?_
  ·((try dsimp only at hSW);go_split_ands;go_simp <;> with_reducible rfl)
  try simp only[zA,zB,zC,Act.put,zD,zE,zF]
  refine tkV 9 (.pointer (some ⟨K.kb,0,none⟩)) rfl (fun W hSW=>?_) hHeld ?_
  ·((try dsimp only at hSW);go_split_ands;go_simp <;> with_reducible rfl)
  try simp only[zA,zB,zC,Act.put,zD,zE,zF]
  refine tkV 10 (.pointer (some ⟨w1.heap.size,1,none⟩)) rfl (fun W hSW=>?_) hHeld ?_
  ·((try dsimp only at hSW);go_split_ands;go_simp <;> with_reducible rfl)
  try simp only[zA,zB,zC,Act.put,zD,zE,zF]
  refine tkV 11 (.int .i64 r) rfl (fun W hSW=>?_) hHeld ?_
  ·((try dsimp only at hSW);go_split_ands;go_simp <;> with_reducible rfl)
  try simp only[zA,zB,zC,Act.put,zD,zE,zF]
  refine wpAnyH_ready (rs:=[12]) (by kernel_rfl) (by simp) ?_
  refine AllReadyH.cons rfl (fun KK hKK=>?_) (AllReadyH.nil)
  try simp only[zA,zB,zC]
  go_simp
  (go_at_call 129;refine HTK.out.mono ?_;rintro e w3 ⟨rfl,hg3,hk3⟩)
  try go_wp2_with fail
  refine hKK.out _ _ ?_ (fun hHeld=>?_)
  ·exact HK.out _ (HK3.out.trans hk3)
  clear hKK KK
  try simp only[zA,zB,zC,Act.put,zD,zE,zF]
  have v3:=zH (HN.out.chg (HK3.out.trans hk3).chg)
  have G3:=zH hg3
  have HK4:=zH (HK3.out.trans hk3)
  clear hg3 hk3
  refine tkV 13 (.int .i64 zt) rfl (fun W hSW=>?_) hHeld ?_
  ·((try dsimp only at hSW);go_split_ands;go_simp <;> with_reducible rfl)
  try simp only[zA,zB,zC,Act.put,zD,zE,zF]
  refine tkV 14 (.int .i64 kt) rfl (fun W hSW=>?_) hHeld ?_
  ·((try dsimp only at hSW);go_split_ands;go_simp <;> with_reducible rfl)
  try simp only[zA,zB,zC,Act.put,zD,zE,zF]
  refine wpAnyH_ready (rs:=[15]) (by kernel_rfl) (by simp) ?_
  refine AllReadyH.cons rfl (fun KK hKK=>?_) (AllReadyH.nil)
  try simp only[zA,zB,zC]
  go_simp
  (go_at_call 125;refine(oj _ _ _ HZK.out).mono ?_;rintro e w4 ⟨rfl,hw⟩;rw[hw];clear hw;unfold Over)
  try go_wp2_with fail
  clear hKK KK
  simp only[bodyPost,true_and,Exit.inBlock,Exit.then]
  exact .inr ⟨kt,rfl,fun h=>absurd h HZ2.out,_,G3.out.more (by omega)⟩
end
section
open Go.RowKit
open CD (OpP BodyP CodeP ae blAt fnAt)
set_option maxRecDepth 100000 in
set_option maxHeartbeats 3200000 in
theorem do_output{K:Kst}{mf m:Nat}{W0 W:World}{fs:List FrS}{f:FrS}{st:Int}(h:Doing K mf W0 W fs f st m)(r:Int)(a:Nat)(t:Int)(ha:a<K.va f.num)(hi:insK K f=.iface 212 (.agg #[.int .i64 r,.int .i64 a,.int .i64 t]))(hz:¬f.pl+1=K.len f.num f.bl) :
 Calls Tryz.prog 82 #[.pointer (some ⟨K.Rb,0,none⟩),.pointer (some ⟨f.fb,0,none⟩)] W fun e w'=>DoE K mf W0 fs f st m e w':=by
 obtain⟨q,cap,ht,_⟩:=h.g.top
 obtain⟨b1,b2,b3,b4⟩:=h.bounds
 have HI:=zH hi
 have G:=zH h.g
 have HT:=zH ht
 have HH:=zH h
 have HZ:=zH hz
 clear hz
 have HD:=zH ha
 clear ha
 have n_constant:=@bC 212 (by decide) (.agg #[.int .i64 r,.int .i64 a,.int .i64 t])
 have n_binary:=@cw 212 (by decide) (.agg #[.int .i64 r,.int .i64 a,.int .i64 t])
 have n_load:=@dQ 212 (by decide) (.agg #[.int .i64 r,.int .i64 a,.int .i64 t])
 have n_wrap:=@eV 212 (by decide) (.agg #[.int .i64 r,.int .i64 a,.int .i64 t])
 have n_store:=@eH 212 (by decide) (.agg #[.int .i64 r,.int .i64 a,.int .i64 t])
 have n_input:=@fD 212 (by decide) (.agg #[.int .i64 r,.int .i64 a,.int .i64 t])
 have y_output:=rS (.agg #[.int .i64 r,.int .i64 a,.int .i64 t])
 clear h hi ht
 go_enter Tryz.func82,Tryz.ntmps82
 go_upto_region 21 with(go_at_call 124;refine(ck HT.out ⟨b2,b3⟩).mono ?_;rintro e w1 ⟨rfl,d1,hw1⟩;rw[HI.out];have HW:=zH hw1;clear hw1)
 obtain⟨w2,ew2⟩:∃w2,w2=w1.alloc (.cells #[.int .i64 r,.int .i64 a,.int .i64 t] 212):=⟨_,rfl⟩
 rw[<-ew2]
 obtain⟨g2,ho2,hb2,hB2⟩:=G.out.held HW.out ew2
 have HO2:=zH ho2
 have G2:=zH g2
 obtain⟨y0,y1,y2⟩:=obj3 ho2
 obtain⟨vg,c2,hva,hvB,hnv,hv,hfz,hset⟩:=g2.vals
 have ha:=HD.out
 have hm:=HH.out.ok.most
 have i_a:(0:Int)<=a/\(a:Int)<K.most:=by omega
 have hfr2:=g2.frm _ _ (aQ _ _)
 have hB3:K.B0<=w2.heap.size:=Nat.le_trans hB2 hb2.size
 have x0:=hfr2.cells.1
 obtain⟨frv,cr,hrun,x2,_⟩:=g2.boxp
 have HK:=zH (show ∀V,Kept K (PutX w2) w2 V->(fun V=>Kept K (PutX w2) w2 V/\V.cell? ⟨f.fb,2,none⟩=some (.slice (some ⟨vg,0,none⟩) K.most K.most)/\V.cell? ⟨f.fb,0,none⟩=some (.int .i64 f.num)/\V.cell? ⟨K.Rb,2,none⟩=some (.pointer (some ⟨K.kb,0,none⟩))/\V.cell? ⟨w1.heap.size,0,none⟩=some (.int .i64 r)/\V.cell? ⟨w1.heap.size,1,none⟩=some (.int .i64 a)/\V.cell? ⟨w1.heap.size,2,none⟩=some (.int .i64 t)) V from fun V hV=>⟨hV,hV.cell hfr2 (by decide) (PutX.no hfr2 (by decide) (by decide)) c2,hV.cell hfr2 (by decide) (PutX.no hfr2 (by decide) (by decide)) x0,hV.cell hrun (by decide) (PutX.no hrun (by decide) (by decide)) x2,hV.cell ho2 (by decide) (PutX.no ho2 (by decide) (by decide)) y0,hV.cell ho2 (by decide) (PutX.no ho2 (by decide) (by decide)) y1,hV.cell ho2 (by decide) (PutX.no ho2 (by decide) (by decide)) y2⟩)
 have HK3:=zH (Kept.refl (X:=PutX w2) hB3).drew
 have HPT:=zH (fun z=>(g2.drewN 1).puts HH.out.most 1 r z f.num t)
 change Hid (∀z,Calls _ _ _ (World.drew w2) _) at HPT
 obtain⟨za,hza⟩:=hv a ha
 clear hv hnv hfz hset ew2 ho2 hfr2 y0 y1 y2 c2 g2 hrun x2 x0
 refine wp_region_held_drew (S:=(fun V=>Kept K (PutX w2) w2 V/\V.cell? ⟨f.fb,2,none⟩=some (.slice (some ⟨vg,0,none⟩) K.most K.most)/\V.cell? ⟨f.fb,0,none⟩=some (.int .i64 f.num)/\V.cell? ⟨K.Rb,2,none⟩=some (.pointer (some ⟨K.kb,0,none⟩))/\V.cell? ⟨w1.heap.size,0,none⟩=some (.int .i64 r)/\V.cell? ⟨w1.heap.size,1,none⟩=some (.int .i64 a)/\V.cell? ⟨w1.heap.size,2,none⟩=some (.int .i64 t))) (by kernel_rfl) ?_ (fun hHeld=>?_)
 ·exact HK.out _ HK3.out
 refine tkV 0 (.pointer (some ⟨K.Rb,0,none⟩)) rfl (fun W hSW=>?_) hHeld ?_
 ·((try dsimp only at hSW);go_split_ands;go_simp <;> with_reducible rfl)
 try simp only[zA,zB,zC,Act.put,zD,zE,zF]
 refine tkV 1 (.pointer (some ⟨K.Rb,0,none⟩)) rfl (fun W hSW=>?_) hHeld ?_
 ·((try dsimp only at hSW);go_split_ands;go_simp <;> with_reducible rfl)
 try simp only[zA,zB,zC,Act.put,zD,zE,zF]
 refine tkV 2 (.pointer (some ⟨K.Rb,2,none⟩)) rfl (fun W hSW=>?_) hHeld ?_
 ·((try dsimp only at hSW);go_split_ands;go_simp <;> with_reducible rfl)
 try simp only[zA,zB,zC,Act.put,zD,zE,zF]
 refine tkV 3 (.pointer (some ⟨K.kb,0,none⟩)) rfl (fun W hSW=>?_) hHeld ?_
 ·((try dsimp only at hSW);go_split_ands;go_simp <;> with_reducible rfl)
 try simp only[zA,zB,zC,Act.put,zD,zE,zF]
 refine tkV 4 (.pointer (some ⟨w1.heap.size,0,none⟩)) rfl (fun W hSW=>?_) hHeld ?_
 ·((try dsimp only at hSW);go_split_ands;go_simp <;> with_reducible rfl)
 try simp only[zA,zB,zC,Act.put,zD,zE,zF]
 refine tkV 5 (.int .i64 r) rfl (fun W hSW=>?_) hHeld ?_
 ·((try dsimp only at hSW);go_split_ands;go_simp <;> with_reducible rfl)
 try simp only[zA,zB,zC,Act.put,zD,zE,zF]
 refine tkV 6 (.pointer (some ⟨f.fb,0,none⟩)) rfl (fun W hSW=>?_) hHeld ?_
 ·((try dsimp only at hSW);go_split_ands;go_simp <;> with_reducible rfl)
 try simp only[zA,zB,zC,Act.put,zD,zE,zF]
 refine tkV 7 (.pointer (some ⟨f.fb,0,none⟩)) rfl (fun W hSW=>?_) hHeld ?_
 ·((try dsimp only at hSW);go_split_ands;go_simp <;> with_reducible rfl)
 try simp only[zA,zB,zC,Act.put,zD,zE,zF]
 refine tkV 8 (.pointer (some ⟨f.fb,2,none⟩)) rfl (fun W hSW=>?_) hHeld ?_
 ·((try dsimp only at hSW);go_split_ands;go_simp <;> with_reducible rfl)
 try simp only[zA,zB,zC,Act.put,zD,zE,zF]
 refine tkV 9 (.slice (some ⟨vg,0,none⟩) K.most K.most) rfl (fun W hSW=>?_) hHeld ?_
 ·((try dsimp only at hSW);go_split_ands;go_simp <;> with_reducible rfl)
 try simp only[zA,zB,zC,Act.put,zD,zE,zF]
 refine tkV 10 (.pointer (some ⟨w1.heap.size,1,none⟩)) rfl (fun W hSW=>?_) hHeld ?_
 ·((try dsimp only at hSW);go_split_ands;go_simp <;> with_reducible rfl)
 try simp only[zA,zB,zC,Act.put,zD,zE,zF]
 refine tkV 11 (.int .i64 a) rfl (fun W hSW=>?_) hHeld ?_
 ·((try dsimp only at hSW);go_split_ands;go_simp <;> with_reducible rfl)
 try simp only[zA,zB,zC,Act.put,zD,zE,zF]
 refine tkV 12 (.pointer (some ⟨vg,a,none⟩)) rfl (fun W hSW=>?_) hHeld ?_
 ·((try dsimp only at hSW);go_split_ands;go_simp <;> with_reducible rfl)
 try simp only[zA,zB,zC,Act.put,zD,zE,zF]
 refine tkV 14 (.pointer (some ⟨f.fb,0,none⟩)) rfl (fun W hSW=>?_) hHeld ?_
 ·((try dsimp only at hSW);go_split_ands;go_simp <;> with_reducible rfl)
 try simp only[zA,zB,zC,Act.put,zD,zE,zF]
 refine tkV 15 (.pointer (some ⟨f.fb,0,none⟩)) rfl (fun W hSW=>?_) hHeld ?_
 ·((try dsimp only at hSW);go_split_ands;go_simp <;> with_reducible rfl)
 try simp only[zA,zB,zC,Act.put,zD,zE,zF]
 refine tkV 16 (.pointer (some ⟨f.fb,0,none⟩)) rfl (fun W hSW=>?_) hHeld ?_
 ·((try dsimp only at hSW);go_split_ands;go_simp <;> with_reducible rfl)
 try simp only[zA,zB,zC,Act.put,zD,zE,zF]
 refine tkV 17 (.int .i64 f.num) rfl (fun W hSW=>?_) hHeld ?_
 ·((try dsimp only at hSW);go_split_ands;go_simp <;> with_reducible rfl)
 try simp only[zA,zB,zC,Act.put,zD,zE,zF]
 refine tkV 18 (.pointer (some ⟨w1.heap.size,2,none⟩)) rfl (fun W hSW=>?_) hHeld ?_
 ·((try dsimp only at hSW);go_split_ands;go_simp <;> with_reducible rfl)
 try simp only[zA,zB,zC,Act.put,zD,zE,zF]
 refine tkV 19 (.int .i64 t) rfl (fun W hSW=>?_) hHeld ?_
 ·((try dsimp only at hSW);go_split_ands;go_simp <;> with_reducible rfl)
 try simp only[zA,zB,zC,Act.put,zD,zE,zF]
 refine wpAnyH_ready (rs:=[13]) (by kernel_rfl) (by simp) ?_
 refine AllReadyH.cons rfl (fun KK hKK=>?_) (AllReadyH.nil)
 try simp only[zA,zB,zC]
 go_simp
 refine hKK.out _ _ ?_ (fun hHeld=>?_)
 ·exact HK.out _ HK3.out
 clear hKK KK
 try simp only[zA,zB,zC,Act.put,zD,zE,zF]
 refine tkV 20 (.agg #[.int .u8 1,.int .i64 r,.int .i64 za,.int .i64 f.num,.int .i64 t]) rfl (fun W hSW=>?_) hHeld ?_
 ·((try dsimp only at hSW);go_split_ands;go_simp <;> with_reducible rfl)
 try simp only[zA,zB,zC,Act.put,zD,zE,zF]
 refine wpAnyH_ready (rs:=[21]) (by kernel_rfl) (by simp) ?_
 refine AllReadyH.cons rfl (fun KK hKK=>?_) (AllReadyH.nil)
 try simp only[zA,zB,zC]
 go_simp
 (go_at_call 130;refine(HPT.out za).mono ?_;rintro e w5 ⟨⟨z5,rfl⟩,hg5,hk5⟩)
 try go_wp2_with fail
 refine hKK.out _ _ ?_ (fun hHeld=>?_)
 ·exact HK.out _ (HK3.out.trans hk5)
 clear hKK KK
 try simp only[zA,zB,zC,Act.put,zD,zE,zF]
 refine wpAnyH_done (by kernel_rfl) ?_ _
 clear hHeld hza hk5
 obtain⟨p1,p2,p3⟩:=hg5.next HZ.out
 have HP:=zH p3
 clear p3 hg5
 go_wp2_with fail
 go_end0
 exact .inl ⟨rfl,_,HP.out.more (by omega)⟩
set_option maxRecDepth 100000 in
set_option maxHeartbeats 3200000 in
theorem rV{K:Kst}{mf m:Nat}{W0 W:World}{fs:List FrS}{f:FrS}{st:Int}(h:Doing K mf W0 W fs f st m)(d:Nat)(r:Int)(a:Nat)(t:Int)(hd:d<K.va f.num)(ha:a<K.va f.num)(hi:insK K f=.iface 214 (.agg #[.int .i64 d,.int .i64 r,.int .i64 a,.int .i64 t]))(hz:¬f.pl+1=K.len f.num f.bl) :
 Calls Tryz.prog 82 #[.pointer (some ⟨K.Rb,0,none⟩),.pointer (some ⟨f.fb,0,none⟩)] W fun e w'=>DoE K mf W0 fs f st m e w':=by
 obtain⟨q,cap,ht,_⟩:=h.g.top
 obtain⟨b1,b2,b3,b4⟩:=h.bounds
 have HI:=zH hi
 have G:=zH h.g
 have HT:=zH ht
 have HH:=zH h
 have HZ:=zH hz
 clear hz
 have HD:=zH (And.intro hd ha)
 clear hd ha
 have n_constant:=@bC 214 (by decide) (.agg #[.int .i64 d,.int .i64 r,.int .i64 a,.int .i64 t])
 have n_binary:=@cw 214 (by decide) (.agg #[.int .i64 d,.int .i64 r,.int .i64 a,.int .i64 t])
 have n_load:=@dQ 214 (by decide) (.agg #[.int .i64 d,.int .i64 r,.int .i64 a,.int .i64 t])
 have n_wrap:=@eV 214 (by decide) (.agg #[.int .i64 d,.int .i64 r,.int .i64 a,.int .i64 t])
 have n_store:=@eH 214 (by decide) (.agg #[.int .i64 d,.int .i64 r,.int .i64 a,.int .i64 t])
 have n_input:=@fD 214 (by decide) (.agg #[.int .i64 d,.int .i64 r,.int .i64 a,.int .i64 t])
 have n_output:=@fE 214 (by decide) (.agg #[.int .i64 d,.int .i64 r,.int .i64 a,.int .i64 t])
 have y_release:=pX (.agg #[.int .i64 d,.int .i64 r,.int .i64 a,.int .i64 t])
 clear h hi ht
 go_enter Tryz.func82,Tryz.ntmps82
 go_upto_region 24 with(go_at_call 124;refine(ck HT.out ⟨b2,b3⟩).mono ?_;rintro e w1 ⟨rfl,d1,hw1⟩;rw[HI.out];have HW:=zH hw1;clear hw1)
 obtain⟨w2,ew2⟩:∃w2,w2=w1.alloc (.cells #[.int .i64 d,.int .i64 r,.int .i64 a,.int .i64 t] 214):=⟨_,rfl⟩
 rw[<-ew2]
 obtain⟨g2,ho2,hb2,hB2⟩:=G.out.held HW.out ew2
 have HO2:=zH ho2
 have G2:=zH g2
 obtain⟨y0,y1,y2,y3⟩:=obj4 ho2
 obtain⟨vg,c2,hva,hvB,hnv,hv,hfz,hset⟩:=g2.vals
 obtain⟨hd,ha⟩:=HD.out
 have hm:=HH.out.ok.most
 have i_d:(0:Int)<=d/\(d:Int)<K.most:=by omega
 have i_a:(0:Int)<=a/\(a:Int)<K.most:=by omega
 have hfr2:=g2.frm _ _ (aQ _ _)
 have hB3:K.B0<=w2.heap.size:=Nat.le_trans hB2 hb2.size
 obtain⟨zb,hzb⟩:=hv a ha
 obtain⟨zd,hzd⟩:=hv d hd
 have hfd:=hfz d
 have HN:=zH hnv
 have HFR:=zH hfr2
 have HC2:=zH c2
 have HVB:=zH hvB
 have HB3:=zH hB3
 clear hv hnv hfz hset ew2 ho2 hfr2 hvB g2 hB3
 go_region
 have HKK:=zH (((Kept.refl (K:=K) (X:=fun _=>False) HB3.out).num HN.out HVB.out d zb).drew)
 clear hfd hzb hzd y0 y1 y2 y3 c2
 generalize World.drew _=w3 at HKK ⊢
 have g3:=HKK.out.mach G2.out
 have ho3:=HKK.out.chg.rest _ _ HO2.out (fun e=>e) (aO (by decide))
 obtain⟨y0,y1,y2,y3⟩:=obj4 ho3
 have hfr3:=g3.frm _ _ (aQ _ _)
 have c2:=HKK.out.cell HFR.out (by decide) (fun e=>e) HC2.out
 have hB4:K.B0<=w3.heap.size:=Nat.le_trans HB3.out HKK.out.chg.size
 have v3:=HN.out.chg HKK.out.chg
 obtain⟨za,hza⟩:=v3.cell (show a<K.most by omega)
 have x0:=hfr3.cells.1
 obtain⟨frv,cr,hrun,x2,_⟩:=g3.boxp
 have HK:=zH (show ∀V,Kept K (PutX w3) w3 V->(fun V=>Kept K (PutX w3) w3 V/\V.cell? ⟨f.fb,2,none⟩=some (.slice (some ⟨vg,0,none⟩) K.most K.most)/\V.cell? ⟨f.fb,0,none⟩=some (.int .i64 f.num)/\V.cell? ⟨K.Rb,2,none⟩=some (.pointer (some ⟨K.kb,0,none⟩))/\V.cell? ⟨w1.heap.size,0,none⟩=some (.int .i64 d)/\V.cell? ⟨w1.heap.size,1,none⟩=some (.int .i64 r)/\V.cell? ⟨w1.heap.size,2,none⟩=some (.int .i64 a)/\V.cell? ⟨w1.heap.size,3,none⟩=some (.int .i64 t)) V from fun V hV=>⟨hV,hV.cell hfr3 (by decide) (PutX.no hfr3 (by decide) (by decide)) c2,hV.cell hfr3 (by decide) (PutX.no hfr3 (by decide) (by decide)) x0,hV.cell hrun (by decide) (PutX.no hrun (by decide) (by decide)) x2,hV.cell ho3 (by decide) (PutX.no ho3 (by decide) (by decide)) y0,hV.cell ho3 (by decide) (PutX.no ho3 (by decide) (by decide)) y1,hV.cell ho3 (by decide) (PutX.no ho3 (by decide) (by decide)) y2,hV.cell ho3 (by decide) (PutX.no ho3 (by decide) (by decide)) y3⟩)
 have HK3:=zH (Kept.refl (X:=PutX w3) hB4).drew
 have HPT:=zH (fun z=>(g3.drewN 1).puts HH.out.most 2 r z f.num t)
 change Hid (∀z,Calls _ _ _ (World.drew w3) _) at HPT
 clear ho3 hfr3 y0 y1 y2 y3 c2 g3 hrun x2 x0 v3
 go_upto_region 25 with fail
 refine wp_region_held_drew (S:=(fun V=>Kept K (PutX w3) w3 V/\V.cell? ⟨f.fb,2,none⟩=some (.slice (some ⟨vg,0,none⟩) K.most K.most)/\V.cell? ⟨f.fb,0,none⟩=some (.int .i64 f.num)/\V.cell? ⟨K.Rb,2,none⟩=some (.pointer (some ⟨K.kb,0,none⟩))/\V.cell? ⟨w1.heap.size,0,none⟩=some (.int .i64 d)/\V.cell? ⟨w1.heap.size,1,none⟩=some (.int .i64 r)/\V.cell? ⟨w1.heap.size,2,none⟩=some (.int .i64 a)/\V.cell? ⟨w1.heap.size,3,none⟩=some (.int .i64 t))) (by kernel_rfl) ?_ (fun hHeld=>?_)
 ·exact HK.out _ HK3.out
 refine tkV 0 (.pointer (some ⟨K.Rb,0,none⟩)) rfl (fun W hSW=>?_) hHeld ?_
 ·((try dsimp only at hSW);go_split_ands;go_simp <;> with_reducible rfl)
 try simp only[zA,zB,zC,Act.put,zD,zE,zF]
 refine tkV 1 (.pointer (some ⟨K.Rb,0,none⟩)) rfl (fun W hSW=>?_) hHeld ?_
 ·((try dsimp only at hSW);go_split_ands;go_simp <;> with_reducible rfl)
 try simp only[zA,zB,zC,Act.put,zD,zE,zF]
 refine tkV 2 (.pointer (some ⟨K.Rb,2,none⟩)) rfl (fun W hSW=>?_) hHeld ?_
 ·((try dsimp only at hSW);go_split_ands;go_simp <;> with_reducible rfl)
 try simp only[zA,zB,zC,Act.put,zD,zE,zF]
 refine tkV 3 (.pointer (some ⟨K.kb,0,none⟩)) rfl (fun W hSW=>?_) hHeld ?_
 ·((try dsimp only at hSW);go_split_ands;go_simp <;> with_reducible rfl)
 try simp only[zA,zB,zC,Act.put,zD,zE,zF]
 refine tkV 4 (.pointer (some ⟨w1.heap.size,1,none⟩)) rfl (fun W hSW=>?_) hHeld ?_
 ·((try dsimp only at hSW);go_split_ands;go_simp <;> with_reducible rfl)
 try simp only[zA,zB,zC,Act.put,zD,zE,zF]
 refine tkV 5 (.int .i64 r) rfl (fun W hSW=>?_) hHeld ?_
 ·((try dsimp only at hSW);go_split_ands;go_simp <;> with_reducible rfl)
 try simp only[zA,zB,zC,Act.put,zD,zE,zF]
 refine tkV 6 (.pointer (some ⟨f.fb,0,none⟩)) rfl (fun W hSW=>?_) hHeld ?_
 ·((try dsimp only at hSW);go_split_ands;go_simp <;> with_reducible rfl)
 try simp only[zA,zB,zC,Act.put,zD,zE,zF]
 refine tkV 7 (.pointer (some ⟨f.fb,0,none⟩)) rfl (fun W hSW=>?_) hHeld ?_
 ·((try dsimp only at hSW);go_split_ands;go_simp <;> with_reducible rfl)
 try simp only[zA,zB,zC,Act.put,zD,zE,zF]
 refine tkV 8 (.pointer (some ⟨f.fb,2,none⟩)) rfl (fun W hSW=>?_) hHeld ?_
 ·((try dsimp only at hSW);go_split_ands;go_simp <;> with_reducible rfl)
 try simp only[zA,zB,zC,Act.put,zD,zE,zF]
 refine tkV 9 (.slice (some ⟨vg,0,none⟩) K.most K.most) rfl (fun W hSW=>?_) hHeld ?_
 ·((try dsimp only at hSW);go_split_ands;go_simp <;> with_reducible rfl)
 try simp only[zA,zB,zC,Act.put,zD,zE,zF]
 refine tkV 10 (.pointer (some ⟨w1.heap.size,2,none⟩)) rfl (fun W hSW=>?_) hHeld ?_
 ·((try dsimp only at hSW);go_split_ands;go_simp <;> with_reducible rfl)
 try simp only[zA,zB,zC,Act.put,zD,zE,zF]
 refine tkV 11 (.int .i64 a) rfl (fun W hSW=>?_) hHeld ?_
 ·((try dsimp only at hSW);go_split_ands;go_simp <;> with_reducible rfl)
 try simp only[zA,zB,zC,Act.put,zD,zE,zF]
 refine tkV 12 (.pointer (some ⟨vg,a,none⟩)) rfl (fun W hSW=>?_) hHeld ?_
 ·((try dsimp only at hSW);go_split_ands;go_simp <;> with_reducible rfl)
 try simp only[zA,zB,zC,Act.put,zD,zE,zF]
 refine tkV 14 (.pointer (some ⟨f.fb,0,none⟩)) rfl (fun W hSW=>?_) hHeld ?_
 ·((try dsimp only at hSW);go_split_ands;go_simp <;> with_reducible rfl)
 try simp only[zA,zB,zC,Act.put,zD,zE,zF]
 refine tkV 15 (.pointer (some ⟨f.fb,0,none⟩)) rfl (fun W hSW=>?_) hHeld ?_
 ·((try dsimp only at hSW);go_split_ands;go_simp <;> with_reducible rfl)
 try simp only[zA,zB,zC,Act.put,zD,zE,zF]
 refine tkV 16 (.pointer (some ⟨f.fb,0,none⟩)) rfl (fun W hSW=>?_) hHeld ?_
 ·((try dsimp only at hSW);go_split_ands;go_simp <;> with_reducible rfl)
 try simp only[zA,zB,zC,Act.put,zD,zE,zF]
 refine tkV 17 (.int .i64 f.num) rfl (fun W hSW=>?_) hHeld ?_
 ·((try dsimp only at hSW);go_split_ands;go_simp <;> with_reducible rfl)
 try simp only[zA,zB,zC,Act.put,zD,zE,zF]
 refine tkV 18 (.pointer (some ⟨w1.heap.size,3,none⟩)) rfl (fun W hSW=>?_) hHeld ?_
 ·((try dsimp only at hSW);go_split_ands;go_simp <;> with_reducible rfl)
 try simp only[zA,zB,zC,Act.put,zD,zE,zF]
 refine tkV 19 (.int .i64 t) rfl (fun W hSW=>?_) hHeld ?_
 ·((try dsimp only at hSW);go_split_ands;go_simp <;> with_reducible rfl)
 try simp only[zA,zB,zC,Act.put,zD,zE,zF]
 refine wpAnyH_ready (rs:=[13]) (by kernel_rfl) (by simp) ?_
 refine AllReadyH.cons rfl (fun KK hKK=>?_) (AllReadyH.nil)
 try simp only[zA,zB,zC]
 go_simp
 refine hKK.out _ _ ?_ (fun hHeld=>?_)
 ·exact HK.out _ HK3.out
 clear hKK KK
 try simp only[zA,zB,zC,Act.put,zD,zE,zF]
 refine tkV 20 (.agg #[.int .u8 2,.int .i64 r,.int .i64 za,.int .i64 f.num,.int .i64 t]) rfl (fun W hSW=>?_) hHeld ?_
 ·((try dsimp only at hSW);go_split_ands;go_simp <;> with_reducible rfl)
 try simp only[zA,zB,zC,Act.put,zD,zE,zF]
 refine wpAnyH_ready (rs:=[21]) (by kernel_rfl) (by simp) ?_
 refine AllReadyH.cons rfl (fun KK hKK=>?_) (AllReadyH.nil)
 try simp only[zA,zB,zC]
 go_simp
 (go_at_call 130;refine(HPT.out za).mono ?_;rintro e w5 ⟨⟨z5,rfl⟩,hg5,hk5⟩)
 try go_wp2_with fail
 refine hKK.out _ _ ?_ (fun hHeld=>?_)
 ·exact HK.out _ (HK3.out.trans hk5)
 clear hKK KK
 try simp only[zA,zB,zC,Act.put,zD,zE,zF]
 refine wpAnyH_done (by kernel_rfl) ?_ _
 clear hHeld hza hk5
 obtain⟨p1,p2,p3⟩:=hg5.next HZ.out
 have HP:=zH p3
 clear p3 hg5
 go_wp2_with fail
 go_end0
 exact .inl ⟨rfl,_,HP.out.more (by omega)⟩
end
section
open Go.RowKit
open CD (OpP BodyP CodeP ae blAt fnAt)
theorem do_any{K:Kst}{mf m:Nat}{W0 W:World}{fs:List FrS}{f:FrS}{st:Int}(h:Doing K mf W0 W fs f st m):Calls Tryz.prog 82 #[.pointer (some ⟨K.Rb,0,none⟩),.pointer (some ⟨f.fb,0,none⟩)] W fun e w'=>DoE K mf W0 fs f st m e w':=by
 obtain⟨q,cap,ht,_⟩:=h.g.top
 have hi:=ht.ins
 generalize hv:insK K f=v at hi
 generalize hz:decide (f.pl+1=K.len f.num f.bl)=z at hi
 cases hi with
 | konst d z hd=>exact do_konst h d z hd hv (of_decide_eq_false hz)
 | bin d a b o ho hd ha hb=>exact do_bin h d a b o ho hd ha hb hv (of_decide_eq_false hz)
 | load d r a hd hr ha=>exact do_load h d r a hd hr ha hv (of_decide_eq_false hz)
 | wrap d r a hd hr ha=>exact do_wrap h d r a hd hr ha hv (of_decide_eq_false hz)
 | store r a b hr ha hb=>exact do_store h r a b hr ha hb hv (of_decide_eq_false hz)
 | call d r xa xc xs hd hr hm hx hl hj=>exact do_call h d r xa xc xs hd hr hx hl hj hv
 | input d r hd=>exact do_input h d r hd hv (of_decide_eq_false hz)
 | output r a t ha=>exact do_output h r a t ha hv (of_decide_eq_false hz)
 | release d r a t hd ha=>exact rV h d r a t hd ha hv (of_decide_eq_false hz)
 | jump bl fi v hw =>
   obtain⟨zs,h1,_⟩:=hw.own
   obtain⟨xa,xc,rfl⟩:=GG.ap h1
   exact do_jump h bl fi xa _ xc hw hv
 | branch a bl fi bl' fi' v v' ha hw hw' =>
   obtain⟨zs,h1,_⟩:=hw.own
   obtain⟨xa,xc,rfl⟩:=GG.ap h1
   obtain⟨zs',h2,_⟩:=hw'.own
   obtain⟨xa',xc',rfl⟩:=GG.ap h2
   exact do_branch h a bl fi bl' fi' xa _ xc xa' _ xc' ha hw hw' hv
 | leave a ha=>exact do_leave h a ha hv
def Deep(K:Kst)(mf:Nat):Prop:=∃(fs:List FrS) (f:FrS) (n:Nat),FrP K mf (fs ++ [f])/\fs.length+1=K.D/\fQ K f n
def StepE(K:Kst)(mf:Nat)(W0:World)(m:Nat)(e:Ending)(w':World):Prop :=
 (e=.returned (.tuple #[])/\(m:Int)<K.fuel/\∃gs g,Mach K mf W0 w' (gs ++ [g]) ((m+1:Nat):Int) (m+1))∨∃s:Int,e=Over s/\(s=22->Deep K mf)/\∃gs st,Mach K mf W0 w' gs st (m+1)
set_option maxRecDepth 100000 in
set_option maxHeartbeats 1600000 in
theorem step_any{K:Kst}(hK:KOk K){mf m:Nat}{W0 W:World}{fs:List FrS}{f:FrS}(g:Mach K mf W0 W (fs ++ [f]) (m:Int) m)(hf:(m:Int)<=K.fuel)(hm:K.fuel<=1048576) :
 Calls Tryz.prog 56 #[.pointer (some ⟨K.Rb,0,none⟩)] W fun e w'=>StepE K mf W0 m e w':=by
 obtain⟨q,cap,ht,_⟩:=g.top
 obtain⟨c0,c1,c2,c3,c4,c5,c6,c7⟩:=ht.run.cells
 have G:=zH g
 have HT:=zH ht
 have hlD:fs.length<=1000:=by have:=ht.nD;have:=hK.D;omega
 by_cases hx:(m:Int)=K.fuel
 ·have t1:((m:Int) == K.fuel)=true:=by rw[beq_iff_eq];exact hx
  clear hx g ht c0 c1 c2 c3 c4 c5
  go_enter Tryz.func56,Tryz.ntmps56
  go_wp2_with fail
  go_region
  go_wp2_with fail
  simp only[bodyPost,true_and,Exit.inBlock,Exit.then]
  exact .inr ⟨24,rfl,fun h=>absurd h (by decide),_,_,(G.out.drewN 1).more (by omega)⟩
 ·have t1:((m:Int) == K.fuel)=false:=by rw[beq_eq_false_iff_ne];exact hx
  have HF:=zH (show (m:Int)<K.fuel by omega)
  have HM:=zH hm
  have HKK:=zH hK
  clear hx g ht c0 c1 c2 c3 c4 c5 hf hm hK
  go_enter Tryz.func56,Tryz.ntmps56
  go_wp2_with fail
  go_region
  obtain⟨w1,ew1⟩:∃w1,w1=W.drew:=⟨_,rfl⟩
  rw[<-ew1]
  have G1:=zH (show Mach K mf W0 w1 (fs ++ [f]) m m by rw[ew1];exact G.out.drewN 1)
  have HT1:=zH (show Top K w1 fs.length f m q cap by rw[ew1];exact HT.out.drewN 1)
  clear ew1 c6 c7
  go_wp2_with (go_at_call 83;refine(pQ HT1.out hlD).mono ?_;rintro e w2 ⟨rfl,d2,hw2⟩;have HW2:=zH hw2;clear hw2)
  go_at_call 82
  refine(do_any (m:=m) ⟨by rw[HW2.out];exact G1.out.drewN d2,HKK.out,by have:=HF.out;have:=HM.out;omega⟩).mono ?_
  rintro e w3 h3
  rcases h3 with⟨rfl,gs,hg⟩ | ⟨s,rfl,hs,gs,hg⟩
  ·obtain⟨frv,hr,ho⟩:=hg.run
   obtain⟨fa,fc,rfl⟩:=GG.ap ho
   obtain⟨c0,c1,c2,c3,c4,c5,c6,c7⟩:=hr.cells
   have z7:=aj (k:=7) hr
   have hw:IntKind.i64.wrap ((m:Int)+1)=(m:Int)+1:=IntWalk.i64_in _ (by have:=HF.out;have:=HM.out;omega)
   have HG:=zH (hg.steps ((m:Int)+1))
   clear hg hr ho c0 c1 c2 c4 c5 c6
   rcases List.eq_nil_or_concat gs with hgs | ⟨ks,k,hgs⟩
   ·subst hgs
    have hl0:([]:List FrS).length=0:=rfl
    rw[hl0] at c3
    go_wp2_with fail
    simp only[bodyPost,true_and,Exit.inBlock,Exit.then]
    exact .inr ⟨0,rfl,fun h=>absurd h (by decide),_,_,HG.out⟩
   ·rw[List.concat_eq_append] at hgs
    subst hgs
    have hl:(ks ++ [k]).length=ks.length+1:=by simp
    rw[hl] at c3
    have t2:(((ks.length+1:Nat):Int) == 0)=false:=by rw[beq_eq_false_iff_ne];omega
    have t3:(((ks.length:Nat):Int)+1 == 0)=false:=by rw[beq_eq_false_iff_ne];omega
    go_wp2_with fail
    first | go_end0 | refine bodyPost_ret (results_none rfl _ _ _) rfl ?_
    exact .inl ⟨rfl,HF.out,ks,k,HG.out⟩
  ·unfold Over
   (try go_wp2_with fail)
   simp only[bodyPost,true_and,Exit.inBlock,Exit.then]
   refine .inr ⟨s,rfl,fun h=>?_,_,_,hg⟩
   obtain⟨h1,n,h2⟩:=hs h
   exact⟨fs,f,n,G1.out.pl,h1,h2⟩
end
section
open Go.RowKit
open CD (OpP BodyP CodeP ae blAt fnAt)
theorem as_over(v:Value)(w:World):(Instr.typeAssert (.iface 121 v) 20 121 false).run Tryz.prog w=.ok v w:=by kernel_rfl
theorem rW(s:Int)(w:World):(Instr.field 121 (.agg #[.int .i64 s]) 0).run Tryz.prog w=.ok (.int .i64 s) w:=by kernel_rfl
theorem not_nil(v:Value)(w:World):(binOp .neq 20 (.iface 121 v) .nilIface).run Tryz.prog w=.ok (.bool true) w:=by kernel_rfl
theorem rX(p:Addr)(x s:Int)(older:List PanicEntry)(w:World)(hc:w.cell? p=some (.int .i64 x))(hz:w.frozen? p=false) :
 CallsD Tryz.prog 55 #[.pointer (some p)] (.panicking ({ v:=.iface 121 (.agg #[.int .i64 s]),recovered:=false } :: older)) w fun e u' w' =>
  e=.returned (.tuple #[])/\u'=.panicking ({ v:=.iface 121 (.agg #[.int .i64 s]),recovered:=true } :: older)/\w'=w.setCell p (.int .i64 s):=by
 refine callsD_of_wpS Tryz.func55 rfl fun c₀ cs hu=>?_
 apply wpS_seq
 apply wpS_region
 simp [wpOpsS,go_sem,recoverD,hu,Tryz.ntmps55,Exit.thenS]
 apply wpS_seq
 apply wpS_region
 simp [wpOpsS,go_sem,not_nil,Exit.thenS]
 refine wpS_cond (t:=true) (by simp [Act.eval,Array.replicate]) ?_
 simp only[if_true]
 apply wpS_region
 simp [wpOpsS,go_sem,as_over,rW,hc,hz,bodyPostS,results,Tryz.results55,Exit.thenS]
end
section
open Go.RowKit
open CD (OpP BodyP CodeP ae blAt fnAt)
theorem Mach.rebase{K:Kst}{mf m:Nat}{W0 W:World}{fs:List FrS}{st:Int}(g:Mach K mf W0 W fs st m):Mach K mf W W fs st m:=⟨⟨Below.refl _ _,g.core.fn,g.core.ars,g.core.arn,g.core.rms,g.core.rmn,g.core.tkn,fun _ _ h=>h⟩,g.run,g.frm,g.dis,g.pl,g.box,g.base⟩
theorem FunM.chg2{X:Nat->Prop}{A B:World}{K:Kst}(h:Chg X A B)(hb:Below K.B0 A B)(hx:∀(k:Nat) (c:Array Value) (t:TypeId),A.heap[k]?=some (.cells c t (0,0))->t≠33->¬X k)(g:FunM K A):FunM K B:=by
 refine⟨?_,fun f hf=>⟨?_,(g.b f hf).2⟩,fun f b hf hbn=>⟨?_,(g.i f b hf hbn).2⟩,fun f b k hf hbn hk=>?_⟩
 ·exact h.own (by decide) g.f (fun k hk=>by obtain⟨_,_,c,hc⟩:=GG.own_block g.f hk;exact hx k c _ hc (by decide))
 ·have g1:=(g.b f hf).1
  exact h.own (by decide) g1 (fun k hk=>by obtain⟨_,_,c,hc⟩:=GG.own_block g1 hk;exact hx k c _ hc (by decide))
 ·have g1:=(g.i f b hf hbn).1
  exact h.own (by decide) g1 (fun k hk=>by obtain⟨_,_,c,hc⟩:=GG.own_block g1 hk;exact hx k c _ hc (by decide))
 ·exact(g.v f b k hf hbn hk).chg h hb (fun k c hc=>hx k c _ hc (by decide))
theorem Mach.answered{K:Kst}{mf m b i:Nat}{c:Array Value}{W0 A:World}{fs:List FrS}{st:Int}(g:Mach K mf W0 A fs st m)(ho:A.heap[b]?=some (.cells c 33 (0,0)))(hB:K.B0<=b)(hnew:W0.heap.size<=b)(v:Value):Mach K mf W0 (A.setCell ⟨b,i,none⟩ v) fs st m:=by
 have h:=Chg.set (c:=i) ho (aO (by decide)) v
 have hb:Below K.B0 A (A.setCell ⟨b,i,none⟩ v):=(Below.refl _ _).setCell (p:=⟨b,i,none⟩) hB _
 have hno:∀(k:Nat) (c':Array Value) (t:TypeId),A.heap[k]?=some (.cells c' t (0,0))->t≠33->¬k=b:=fun k c' t hk ht=>aP hk ho ht
 have hown:∀ {b0 e size n:Nat} {v':Value} {xs:List Value},e≠2->e≠33->A.ownsRow b0 e size v' n xs->(A.setCell ⟨b,i,none⟩ v).ownsRow b0 e size v' n xs:=fun he he2 h1=>h.own he h1 (fun k hk=>by obtain⟨_,_,c',hc⟩:=GG.own_block h1 hk;exact hno k c' _ hc he2)
 obtain⟨frv,hr,hO⟩:=g.run
 obtain⟨ve,es,vs,rows,hb1,ht1,ho1,hm1⟩:=g.box
 have hrb:∃c,A.heap[K.rb]?=some (.cells c 49 (0,0)):=by obtain⟨c,hc,_⟩:=ht1.tab;exact⟨c,hc⟩
 obtain⟨cr,hcr⟩:=hrb
 refine⟨⟨g.core.below.trans hb,g.core.fn.chg2 h hb hno,hown (by decide) (by decide) g.core.ars,fun i hi=>⟨(g.core.arn i hi).1.chg h,(g.core.arn i hi).2⟩,hown (by decide) (by decide) g.core.rms,fun i hi=>(g.core.rmn i hi).chg h,g.core.tkn.chg h,fun b' c' e=>h.rest b' _ (g.core.ret b' c' e) (fun e2=>?_) (aO (by decide))⟩,⟨frv,h.rest _ _ hr (fun e=>aP hr ho (by decide) e) (aO (by decide)),hown (by decide) (by decide) hO⟩,fun j f e=>(g.frm j f e).chg h (fun e2=>aP (g.frm j f e) ho (by decide) e2),g.dis,g.pl,g.box.chg h (fun e=>aP hb1 ho (by decide) e) (fun e=>aP hcr ho (by decide) e) (fun k c hc e=>aP hc ho (by decide) e),g.base⟩
 have:=(Array.getElem?_eq_some_iff.1 e).1
 omega
theorem Mach.from'{K:Kst}{mf m:Nat}{W0 W1 A:World}{fs:List FrS}{st:Int}(g:Mach K mf W1 A fs st m)(h:Below W0.heap.size W0 W1)(hB:K.B0<=W0.heap.size):Mach K mf W0 A fs st m:=⟨⟨(h.mono hB).trans g.core.below,g.core.fn,g.core.ars,g.core.arn,g.core.rms,g.core.rmn,g.core.tkn,fun b c e=>g.core.ret b c ((h.block b (Array.getElem?_eq_some_iff.1 e).1).trans e)⟩,g.run,g.frm,g.dis,g.pl,g.box,g.base⟩
def AllE(K:Kst)(mf:Nat)(W:World)(e:Ending)(w':World):Prop:=∃s:Int,e=.returned (.int .i64 s)/\(s=22->Deep K mf)/\∃gs st m,m<=1048577/\Mach K mf W w' gs st m
set_option maxRecDepth 100000 in
set_option maxHeartbeats 3200000 in
theorem all_any{K:Kst}(hK:KOk K){mf:Nat}{W0 W:World}{fs:List FrS}{f:FrS}(g:Mach K mf W0 W (fs ++ [f]) 0 0)(hf:0<=K.fuel)(hm:K.fuel<=1048576) :
 Calls Tryz.prog 30 #[.pointer (some ⟨K.Rb,0,none⟩)] W fun e w'=>AllE K mf W e w':=by
 have hmf:∀(fn:Fn) (first cap:Array Value) (w:World),(Instr.makeFunc fn first cap).run Tryz.prog w=.ok (.func fn first cap) w:=fun _ _ _ _=>rfl
 obtain⟨w1,ew1⟩:∃w1,w1=W.alloc (.cells #[.int .i64 0] 33):=⟨_,rfl⟩
 have hb1:Below W.heap.size W w1:=by rw[ew1];exact(Below.refl _ _).alloc (Nat.le_refl _) _
 have ho1:w1.heap[W.heap.size]?=some (.cells #[.int .i64 0] 33):=by rw[ew1];exact heap_alloc_new _ _
 have G1:=zH (g.on hb1).rebase
 have GW:=zH g.rebase
 have HO:=zH ho1
 have HB:=zH hb1
 have EW:=zH ew1
 have HF:=zH (And.intro hf hm)
 have HKK:=zH hK
 have HB0:=zH (show K.B0<=W.heap.size by have h1:=g.base.1;obtain⟨frv,hr,_⟩:=g.run;have:=(Array.getElem?_eq_some_iff.1 hr).1;omega)
 clear g hf hm hb1 ho1 ew1 hK
 go_enter_defers Tryz.func30,Tryz.ntmps30
 go_wp2_with fail
 rw[<-EW.out]
 go_loopg [4,5] (K.fuel.toNat+1) (fun gn s4 s5 wr=>∃(m:Nat) (fs:List FrS) (f:FrS),RowKit.Hid (gn+m=K.fuel.toNat+1/\(m:Int)<=K.fuel/\Mach K mf w1 wr (fs ++ [f]) (m:Int) m))
 case atStart=>exact⟨0,fs,f,zH ⟨rfl,HF.out.1,G1.out⟩⟩
 case round =>
  obtain⟨w5,rfl⟩:∃w5,w5=wr:=⟨_,rfl⟩
  obtain⟨m,fs,f,HM⟩:=hrel
  go_wp2_with fail
  go_at_call 56
  refine(step_any HKK.out HM.out.2.2 HM.out.2.1 HF.out.2).mono ?_
  rintro e w6 h6
  rcases h6 with⟨rfl,hlt,gs,g,hg⟩ | ⟨s,rfl,hs,gs,st,hg⟩
  ·have H6:=zH (And.intro hlt hg)
   clear hlt hg
   go_wp2_with fail
   go_roundg (gk-1)
   case measure=>have:=HM.out.1;have:=H6.out.1;omega
   case rel=>exact⟨m+1,gs,g,zH ⟨by have:=HM.out.1;have:=H6.out.1;omega,by have:=H6.out.1;omega,H6.out.2⟩⟩
  ·have H6:=zH (And.intro hs hg)
   have hr6:=hg.core.ret _ _ HO.out
   clear hs hg
   unfold Over
   (try go_wp2_with fail)
   have hc6:=cell_of_row _ _ 0 _ _ _ hr6
   have hz6:=aj (k:=0) hr6
   have H7:=zH ((H6.out.2.from' HB.out HB0.out).answered (i:=0) hr6 HB0.out (Nat.le_refl _) (.int .i64 s))
   have hc7:(w6.setCell ⟨W.heap.size,0,none⟩ (.int .i64 s)).cell? ⟨W.heap.size,0,none⟩=some (.int .i64 s):=cell_of_row _ _ 0 _ _ _ (set_obj (c:=0) (.int .i64 s) hr6)
   refine leaves_cons (f:=55) (args:=#[.pointer (some ⟨W.heap.size,0,none⟩)]) (by simp) (by simp [go_sem]) ?_
   refine(rX ⟨W.heap.size,0,none⟩ 0 s [] _ hc6 hz6).mono ?_
   rintro e u' w'' ⟨rfl,rfl,rfl⟩
   simp [Leaves,settle,results,Tryz.results30,go_sem,hc7]
   exact⟨s,rfl,H6.out.1,gs,st,m+1,by have:=HM.out.2.1;have:=HF.out.2;omega,H7.out⟩
end
end Go.Proofs.YtjngffgkllakaaaGreatDoor.IP
namespace Go.Proofs.YtjngffgkllakaaaGreatDoor
open List renaming getElem_toArray → zA, getElem_cons_succ → zB, getElem_cons_zero → zC, setIfInBounds_toArray → zD, set_cons_zero → zE, set_cons_succ → zF
open Lib renaming hid → zH
section
namespace CC
structure Pre (n:Nat) (L:Nat->Nat->Bool):Prop where
 refl:∀a,a<n->L a a=true
 trans:∀a b c,a<n->L a b=true->L b c=true->L a c=true
 lt:∀a b,a<n->L a b=true->b<n
def tog(L:Nat->Nat->Bool)(a b:Nat):Bool:=L a b && L b a
def grp(L:Nat->Nat->Bool)(n a:Nat):List Nat:=(List.range n).filter (tog L a)
def waitsB(L:Nat->Nat->Bool)(n:Nat)(T:Nat->Bool)(a:Nat):Bool:=(List.range n).any fun b=>L a b && !T b && !tog L a b
def eI(L:Nat->Nat->Bool)(n:Nat)(T:Nat->Bool)(a:Nat):Bool:=!T a && !waitsB L n T a
def bN(L:Nat->Nat->Bool)(n:Nat)(T:Nat->Bool):Option Nat:=(List.range n).find? (eI L n T)
def putM(L:Nat->Nat->Bool)(T:Nat->Bool)(a m:Nat):Nat->Bool:=fun b=>T b || (decide (b<m) && tog L a b)
def be(L:Nat->Nat->Bool)(n:Nat):Nat->(Nat->Bool)->List (List Nat)
 | 0,_=>[]
 | f+1,T=>match bN L n T with
   | none=>[]
   | some a=>grp L n a :: be L n f (putM L T a n)
def Closed(L:Nat->Nat->Bool)(n:Nat)(T:Nat->Bool):Prop:=∀a b,a<n->T a=true->L a b=true->T b=true
theorem im{L:Nat->Nat->Bool}{n:Nat}{T:Nat->Bool}{a:Nat}(h:bN L n T=some a):a<n/\T a=false/\waitsB L n T a=false:=by
 have h1:=List.find?_some h
 have h2:=List.mem_of_find?_eq_some h
 rw[List.mem_range] at h2
 unfold eI at h1
 simp only[Bool.and_eq_true,Bool.not_eq_true'] at h1
 exact⟨h2,h1.1,h1.2⟩
theorem next_no{L:Nat->Nat->Bool}{n:Nat}{T:Nat->Bool}(h:bN L n T=none):∀a,a<n->eI L n T a=false:=by
 intro a ha
 have:=List.find?_eq_none.1 h a (List.mem_range.2 ha)
 simpa using this
theorem waits_no{L:Nat->Nat->Bool}{n:Nat}{T:Nat->Bool}{a:Nat}(h:waitsB L n T a=false){b:Nat}(hb:b<n)(hl:L a b=true):T b=true∨tog L a b=true:=by
 unfold waitsB at h
 rw[List.any_eq_false] at h
 have:=h b (List.mem_range.2 hb)
 rw[hl] at this
 cases h1:T b <;> cases h2:tog L a b <;> simp_all
theorem waits_yes{L:Nat->Nat->Bool}{n:Nat}{T:Nat->Bool}{a:Nat}(h:waitsB L n T a=true):∃b,b<n/\L a b=true/\T b=false/\tog L a b=false:=by
 unfold waitsB at h
 rw[List.any_eq_true] at h
 obtain⟨b,hb,h1⟩:=h
 rw[List.mem_range] at hb
 refine⟨b,hb,?_⟩
 cases h2:T b <;> cases h3:tog L a b <;> simp_all
theorem qa(L:Nat->Nat->Bool)(a b:Nat):tog L a b=tog L b a:=by unfold tog;exact Bool.and_comm _ _
theorem lH{n:Nat}{L:Nat->Nat->Bool}(h:Pre n L){a:Nat}(ha:a<n):tog L a a=true:=by unfold tog;rw[h.refl a ha];rfl
theorem fY{L:Nat->Nat->Bool}{a b:Nat}:tog L a b=true↔L a b=true/\L b a=true:=by unfold tog;simp
theorem mQ{n:Nat}{L:Nat->Nat->Bool}(h:Pre n L){a b c:Nat}(ha:a<n)(hc:c<n)(h1:tog L a b=true)(h2:tog L b c=true):tog L a c=true:=by
 rw[fY] at *
 exact⟨h.trans a b c ha h1.1 h2.1,h.trans c b a hc h2.2 h1.2⟩
theorem eW{L:Nat->Nat->Bool}{n a b:Nat}:b∈grp L n a↔b<n/\tog L a b=true:=by
 unfold grp;rw[List.mem_filter,List.mem_range]
theorem mR(L:Nat->Nat->Bool)(n a:Nat):(grp L n a).Nodup:=List.nodup_range.filter _
theorem qb{n:Nat}{L:Nat->Nat->Bool}(h:Pre n L){a:Nat}(ha:a<n):a∈grp L n a:=eW.2 ⟨ha,lH h ha⟩
theorem dh{L:Nat->Nat->Bool}{T:Nat->Bool}{a m b:Nat}:putM L T a m b=true↔T b=true∨(b<m/\tog L a b=true):=by
 unfold putM;simp
theorem next_some{n:Nat}{L:Nat->Nat->Bool}(h:Pre n L){T:Nat->Bool}{a:Nat}(ha:a<n)(hT:T a=false):∃c,bN L n T=some c:=by
 have main:∀k a,a<n->T a=false->GG.unv n (fun x=>!L a x)<=k->∃c,c<n/\T c=false/\waitsB L n T c=false:=by
  intro k
  induction k with
  | zero =>
    intro a ha hT hk
    have:=GG.unv_pos (n:=n) (B:=fun x=>!L a x) ha (by show (!L a a)=false;rw[h.refl a ha];rfl)
    omega
  | succ k ih =>
    intro a ha hT hk
    cases hw:waitsB L n T a
    ·exact⟨a,ha,hT,hw⟩
    ·obtain⟨b,hb,h1,h2,h3⟩:=waits_yes hw
     have hba:L b a=false:=by
      cases e:L b a
      ·rfl
      ·rw[fY.2 ⟨h1,e⟩] at h3;cases h3
     have hself:(fun x=>!L a x) a=false:=by show (!L a a)=false;rw[h.refl a ha];rfl
     have hm:=GG.gl n (B:=GG.setB (fun x=>!L a x) a) (C:=fun x=>!L b x) (by
      intro x hx
      rw[GG.dN] at hx
      rcases hx with e | e
      ·rw[e];show (!L b a)=true;rw[hba];rfl
      ·show (!L b x)=true
       cases e':L b x
       ·rfl
       ·have:=h.trans a b x ha h1 e'
        have e2:(!L a x)=true:=e
        rw[this] at e2;cases e2)
     have hs:=GG.eM n (B:=fun x=>!L a x) ha hself
     exact ih b hb h2 (by omega)
 obtain⟨c,hc,h1,h2⟩:=main _ a ha hT (Nat.le_refl _)
 cases e:bN L n T with
 | some d=>exact⟨d,rfl⟩
 | none =>
   have:=next_no e c hc
   unfold eI at this
   rw[h1,h2] at this
   cases this
theorem unv_zero{n:Nat}{T:Nat->Bool}(h:GG.unv n T=0):∀a,a<n->T a=true:=by
 intro a ha
 cases e:T a
 ·have:=GG.unv_pos ha e;omega
 ·rfl
theorem next_stop{n:Nat}{L:Nat->Nat->Bool}(h:Pre n L){T:Nat->Bool}(e:bN L n T=none):∀a,a<n->T a=true:=by
 intro a ha
 cases hT:T a
 ·obtain⟨c,hc⟩:=next_some h ha hT
  rw[e] at hc;cases hc
 ·rfl
theorem iS{n:Nat}{L:Nat->Nat->Bool}(h:Pre n L){T:Nat->Bool}{a:Nat}(hc:Closed L n T)(e:bN L n T=some a):Closed L n (putM L T a n):=by
 obtain⟨ha,h1,h2⟩:=im e
 intro x y hx hp hl
 rw[dh] at hp ⊢
 rcases hp with hp | ⟨_,hp⟩
 ·exact .inl (hc x y hx hp hl)
 ·have hy:=h.lt x y hx hl
  rcases waits_no h2 hy (h.trans a x y ha (fY.1 hp).1 hl) with h3 | h3
  ·exact .inl h3
  ·exact .inr ⟨hy,h3⟩
theorem grp_fresh{n:Nat}{L:Nat->Nat->Bool}{T:Nat->Bool}{a b:Nat}(hc:Closed L n T)(e:bN L n T=some a)(hb:b∈grp L n a):T b=false:=by
 obtain⟨ha,h1,h2⟩:=im e
 obtain⟨hb,h3⟩:=eW.1 hb
 cases hT:T b
 ·rfl
 ·have:=hc b a hb hT (fY.1 h3).2
  rw[h1] at this;cases this
theorem jv{n:Nat}{L:Nat->Nat->Bool}(h:Pre n L){T:Nat->Bool}{a:Nat}(e:bN L n T=some a):GG.unv n (putM L T a n)<GG.unv n T:=by
 obtain⟨ha,h1,h2⟩:=im e
 have hm:=GG.gl n (B:=GG.setB T a) (C:=putM L T a n) (by
  intro x hx
  rw[GG.dN] at hx
  rw[dh]
  rcases hx with e | e
  ·rw[e];exact .inr ⟨ha,lH h ha⟩
  ·exact .inl e)
 have hs:=GG.eM n (B:=T) ha h1
 omega
theorem eY{n:Nat}{L:Nat->Nat->Bool}{T:Nat->Bool}(f:Nat)(e:bN L n T=none):be L n f T=[]:=by
 cases f with
 | zero=>rfl
 | succ f =>
   show (match bN L n T with | none=>[] | some a=>grp L n a :: be L n f (putM L T a n))=_
   rw[e]
end CC
def aZ(to9:List (List Int))(a b:Nat):Bool:=GG.reachB to9 (-1) a b
theorem gN{to9:List (List Int)}(h:GG.am to9=true):CC.Pre to9.length (aZ to9):=by
 have hlt:∀a b,a<to9.length->aZ to9 a b=true->b<to9.length:=fun a b ha hl=>((GG.bW h ha b).1 hl).lt (GG.nh h) ha
 refine⟨fun a ha=>(GG.bW h ha a).2 (.refl a),fun a b c ha h1 h2=>?_,hlt⟩
 have hb:=hlt a b ha h1
 exact(GG.bW h ha c).2 (((GG.bW h ha b).1 h1).trans ((GG.bW h hb c).1 h2))
def aR(to9:List (List Int)):List (List Nat):=if GG.am to9=true then CC.be (aZ to9) to9.length to9.length (fun _=>false) else []
end
section
namespace CC
def cY(e:Nat->Int)(i j:Nat):Nat->Int:=if e i=0∨e j = -1 then e else if e i = -1 then (fun x=>if x=j then -1 else e x) else (fun x=>if x=j then max (e j) (e i+1) else e x)
def aU(e:Nat->Int)(i:Nat)(row:List Nat):Nat->Int:=row.foldl (fun e j=>cY e i j) e
def eJ(adj:Nat->List Nat)(g:List Nat):Bool:=decide (1<g.length) || decide (g[0]?.getD 0∈adj (g[0]?.getD 0))
def hasB(e:Nat->Int)(g:List Nat):Bool:=g.any fun i=>decide (e i≠0)
def iz(e:Nat->Int)(g:List Nat):Nat->Int:=fun x=>if x∈g then -1 else e x
def bV(adj:Nat->List Nat)(e:Nat->Int)(g:List Nat):Nat->Int:=g.foldl (fun e i=>aU e i (adj i)) (if eJ adj g && hasB e g then iz e g else e)
def eK(main:Nat):Nat->Int:=fun x=>if x=main then 1 else 0
def entF(adj:Nat->List Nat)(gs:List (List Nat))(main:Nat):Nat->Int:=gs.reverse.foldl (bV adj) (eK main)
def comb(c v:Int):Int:=if c=0∨v = -1 then v else if c = -1 then -1 else max v (c+1)
theorem gO(e:Nat->Int)(i j y:Nat):cY e i j y=if y=j then comb (e i) (e j) else e y:=by
 unfold cY comb
 by_cases h1:e i=0∨e j = -1
 ·rw[if_pos h1,if_pos h1]
  by_cases h:y=j
  ·rw[if_pos h,h]
  ·rw[if_neg h]
 ·rw[if_neg h1,if_neg h1]
  by_cases h2:e i = -1
  ·rw[if_pos h2,if_pos h2]
  ·rw[if_neg h2,if_neg h2]
theorem leadF_of(i:Nat):∀(row:List Nat) (e:Nat->Int),row.Nodup->i ∉ row->∀y,aU e i row y=if y∈row then comb (e i) (e y) else e y:=by
 intro row
 induction row with
 | nil=>intro e _ _ y;simp [aU]
 | cons j t ih =>
   intro e hn hi y
   obtain⟨hj,ht⟩:=List.nodup_cons.1 hn
   have hij:i≠j:=fun e=>hi (by rw[e];exact List.mem_cons_self)
   have hit:i ∉ t:=fun h=>hi (List.mem_cons_of_mem _ h)
   show aU (cY e i j) i t y=_
   rw[ih _ ht hit y,gO,gO,if_neg hij]
   by_cases h1:y=j
   ·subst h1
    rw[if_neg hj,if_pos rfl,if_pos List.mem_cons_self]
   ·rw[if_neg h1]
    by_cases h2:y∈t
    ·rw[if_pos h2,if_pos (List.mem_cons_of_mem _ h2)]
    ·rw[if_neg h2,if_neg (fun h=>by rcases List.mem_cons.1 h with h | h;exact h1 h;exact h2 h)]
theorem mS(i:Nat):∀(row:List Nat) (e:Nat->Int),e i = -1->∀y,aU e i row y=if y∈row then -1 else e y:=by
 intro row
 induction row with
 | nil=>intro e _ y;simp [aU]
 | cons j t ih =>
   intro e he y
   have hc:∀v,comb (-1) v = -1:=by intro v;unfold comb;split;omega;rfl
   show aU (cY e i j) i t y=_
   have hi:cY e i j i = -1:=by
    rw[gO,he,hc]
    split <;> first | rfl | exact he
   rw[ih _ hi y,gO,he,hc]
   by_cases h1:y=j
   ·subst h1
    rw[if_pos rfl,if_pos List.mem_cons_self]
    split <;> rfl
   ·rw[if_neg h1]
    by_cases h2:y∈t
    ·rw[if_pos h2,if_pos (List.mem_cons_of_mem _ h2)]
    ·rw[if_neg h2,if_neg (fun h=>by rcases List.mem_cons.1 h with h | h;exact h1 h;exact h2 h)]
theorem rY(i:Nat):∀(row:List Nat) (e:Nat->Int),e i=0->aU e i row=e:=by
 intro row
 induction row with
 | nil=>intro e _;rfl
 | cons j t ih =>
   intro e he
   have h:cY e i j=e:=by unfold cY;rw[if_pos (.inl he)]
   show aU (cY e i j) i t=e
   rw[h,ih e he]
theorem fold_neg(adj:Nat->List Nat):∀(l:List Nat) (e:Nat->Int),(∀i∈l,e i = -1)->∀y,l.foldl (fun e i=>aU e i (adj i)) e y=if ∃i∈l,y∈adj i then -1 else e y:=by
 intro l
 induction l with
 | nil=>intro e _ y;simp
 | cons a t ih =>
   intro e he y
   have ha:=he a List.mem_cons_self
   have h1:∀i∈t,aU e a (adj a) i = -1:=by
    intro i hi
    rw[mS a _ e ha,he i (List.mem_cons_of_mem _ hi)]
    split <;> rfl
   show t.foldl (fun e i=>aU e i (adj i)) (aU e a (adj a)) y=_
   rw[ih _ h1 y,mS a _ e ha]
   by_cases h2:∃i∈t,y∈adj i
   ·obtain⟨i,hi,hy⟩:=h2
    rw[if_pos ⟨i,hi,hy⟩,if_pos ⟨i,List.mem_cons_of_mem _ hi,hy⟩]
   ·rw[if_neg h2]
    by_cases h3:y∈adj a
    ·rw[if_pos h3,if_pos ⟨a,List.mem_cons_self,h3⟩]
    ·rw[if_neg h3,if_neg]
     rintro ⟨i,hi,hy⟩
     rcases List.mem_cons.1 hi with h | h
     ·rw[h] at hy;exact h3 hy
     ·exact h2 ⟨i,h,hy⟩
theorem fold_zero(adj:Nat->List Nat):∀(l:List Nat) (e:Nat->Int),(∀i∈l,e i=0)->l.foldl (fun e i=>aU e i (adj i)) e=e:=by
 intro l
 induction l with
 | nil=>intro e _;rfl
 | cons a t ih =>
   intro e he
   show t.foldl (fun e i=>aU e i (adj i)) (aU e a (adj a))=e
   rw[rY a _ e (he a List.mem_cons_self)]
   exact ih e (fun i hi=>he i (List.mem_cons_of_mem _ hi))
structure Adj (n:Nat) (adj:Nat->List Nat) (L:Nat->Nat->Bool):Prop where
 one:∀p y,y∈adj p->p<n/\y<n/\L p y=true
 ind:∀(a:Nat) (P:Nat->Prop),a<n->P a->(∀p y,P p->L a p=true->y∈adj p->P y)->∀y,L a y=true->P y
 head:∀a y,a<n->L a y=true->a=y∨∃j∈adj a,L j y=true
 nodup:∀p,(adj p).Nodup
theorem Adj.last{n:Nat}{adj:Nat->List Nat}{L:Nat->Nat->Bool}(h:Adj n adj L){a y:Nat}(ha:a<n)(hl:L a y=true):a=y∨∃p,L a p=true/\y∈adj p :=
 h.ind a (fun y=>a=y∨∃p,L a p=true/\y∈adj p) ha (.inl rfl) (fun p y _ hp hy=>.inr ⟨p,hp,hy⟩) y hl
def circP(adj:Nat->List Nat)(L:Nat->Nat->Bool)(k:Nat):Prop:=∃j∈adj k,L j k=true
structure Part (adj:Nat->List Nat) (main:Nat) (D:Nat->Prop) (e:Nat->Int) (y:Nat):Prop where
 z:e y=0↔y≠main/\∀p,D p->y∈adj p->e p=0
 m:e y = -1↔∃p,D p/\y∈adj p/\e p = -1
 v:e y≠0->e y≠-1->1<=e y/\(∀p,D p->y∈adj p->e p+1<=e y)/\((e y=1/\y=main)∨∃p,D p/\y∈adj p/\1<=e p/\e y=e p+1)
structure SpecE (adj:Nat->List Nat) (L:Nat->Nat->Bool) (main:Nat) (e:Nat->Int) (x:Nat):Prop where
 z:e x=0↔L main x=false
 m:e x = -1↔L main x=true/\∃k,L main k=true/\L k x=true/\circP adj L k
 v:e x≠0->e x≠-1->1<=e x/\(∀p,x∈adj p->e p+1<=e x)/\((e x=1/\x=main)∨∃p,x∈adj p/\1<=e p/\e x=e p+1)
structure InvE (n:Nat) (adj:Nat->List Nat) (L:Nat->Nat->Bool) (main:Nat) (D:Nat->Prop) (e:Nat->Int):Prop where
 done:∀x,D x->SpecE adj L main e x
 todo:∀y,y<n->¬D y->Part adj main D e y
theorem circ_yes{n:Nat}{adj:Nat->List Nat}{L:Nat->Nat->Bool}(hp:Pre n L)(ha:Adj n adj L){a:Nat}(h:a<n)(hc:eJ adj (grp L n a)=true):∀x∈grp L n a,circP adj L x:=by
 intro x hx
 obtain⟨hx1,hx2⟩:=eW.1 hx
 have two:∀y,y∈grp L n a->y≠x->circP adj L x:=by
  intro y hy hne
  obtain⟨hy1,hy2⟩:=eW.1 hy
  have hxy:=fY.1 (mQ hp hx1 hy1 (by rw[qa];exact hx2) hy2)
  rcases ha.head x y hx1 hxy.1 with e | ⟨j,hj,hl⟩
  ·exact absurd e.symm hne
  ·exact⟨j,hj,hp.trans j y x (ha.one x j hj).2.1 hl hxy.2⟩
 unfold eJ at hc
 rw[Bool.or_eq_true] at hc
 rcases hc with hc | hc
 ·have hlen:1<(grp L n a).length:=of_decide_eq_true hc
  have hn:=mR L n a
  obtain⟨y,z,t,e⟩:∃y z t,grp L n a=y :: z :: t:=by
   match hg:grp L n a with
   | []=>rw[hg] at hlen;simp at hlen
   | [y]=>rw[hg] at hlen;simp at hlen
   | y :: z :: t=>exact⟨y,z,t,rfl⟩
  have hyz:y≠z:=by
   rw[e] at hn
   have:=(List.nodup_cons.1 hn).1
   exact fun e=>this (by rw[e];exact List.mem_cons_self)
  by_cases hxy:y=x
  ·exact two z (by rw[e];simp) (fun h=>hyz (hxy.trans h.symm))
  ·exact two y (by rw[e];simp) hxy
 ·have hc':(grp L n a)[0]?.getD 0∈adj ((grp L n a)[0]?.getD 0):=of_decide_eq_true hc
  have hm:(grp L n a)[0]?.getD 0∈grp L n a:=GG.bB (List.length_pos_of_mem hx)
  by_cases e:(grp L n a)[0]?.getD 0=x
  ·rw[e] at hc'
   exact⟨x,hc',hp.refl x hx1⟩
  ·exact two _ hm e
theorem circ_no{n:Nat}{adj:Nat->List Nat}{L:Nat->Nat->Bool}(hp:Pre n L)(ha:Adj n adj L){a:Nat}(h:a<n)(hc:eJ adj (grp L n a)=false):grp L n a=[a]/\a ∉ adj a/\¬circP adj L a:=by
 unfold eJ at hc
 rw[Bool.or_eq_false_iff] at hc
 have h1:¬1<(grp L n a).length:=of_decide_eq_false hc.1
 have hs:=qb hp h
 have e:grp L n a=[a]:=by
  match hg:grp L n a with
  | []=>rw[hg] at hs;cases hs
  | [y]=>rw[hg] at hs;rw[List.mem_singleton.1 hs]
  | y :: z :: t=>rw[hg] at h1;simp at h1
 have h2:=of_decide_eq_false hc.2
 rw[e] at h2
 have h3:a ∉ adj a:=h2
 refine⟨e,h3,?_⟩
 rintro ⟨j,hj,hl⟩
 obtain⟨_,hj1,hj2⟩:=ha.one a j hj
 have:j∈grp L n a:=eW.2 ⟨hj1,fY.2 ⟨hj2,hl⟩⟩
 rw[e] at this
 rw[List.mem_singleton.1 this] at hj
 exact h3 hj
theorem mT{n:Nat}{adj:Nat->List Nat}{L:Nat->Nat->Bool}{main:Nat}{D:Nat->Prop}(hD:∀x,¬D x):InvE n adj L main D (eK main):=by
 refine⟨fun x hx=>absurd hx (hD x),fun y _ _=>⟨?_,?_,?_⟩⟩
 ·unfold eK
  by_cases h:y=main
  ·rw[if_pos h];exact⟨fun h=>by omega,fun g=>absurd h g.1⟩
  ·rw[if_neg h];exact⟨fun _=>⟨h,fun p hp=>absurd hp (hD p)⟩,fun _=>rfl⟩
 ·unfold eK
  refine⟨fun h=>?_,fun⟨p,hp,_⟩=>absurd hp (hD p)⟩
  split at h <;> omega
 ·intro h1 h2
  unfold eK at h1 ⊢
  by_cases h:y=main
  ·rw[if_pos h];exact⟨by omega,fun p hp=>absurd hp (hD p),.inl ⟨rfl,h⟩⟩
  ·rw[if_neg h] at h1;exact absurd rfl h1
theorem inv_step{n:Nat}{adj:Nat->List Nat}{L:Nat->Nat->Bool}(hp:Pre n L)(ha:Adj n adj L){main:Nat}(hm:main<n){T:Nat->Bool}{a:Nat}(hc:Closed L n T)(ex:bN L n T=some a){f:Nat->Int}
 (h:InvE n adj L main (fun y=>y<n/\putM L T a n y=false) f):InvE n adj L main (fun y=>y<n/\T y=false) (bV adj f (grp L n a)):=by
 obtain⟨haN,hTa,hw⟩:=im ex
 have hc':=iS hp hc ex
 generalize eg:grp L n a=g
 have gmem:∀i,i∈g↔i<n/\tog L a i=true:=fun i=>by rw[<-eg];exact eW
 have g1:∀i,i∈g->i<n/\T i=false/\putM L T a n i=true:=fun i hi=>⟨((gmem i).1 hi).1,grp_fresh hc ex (by rw[eg];exact hi),dh.2 (.inr ((gmem i).1 hi))⟩
 have D_iff:∀x,(x<n/\T x=false)↔(x<n/\putM L T a n x=false)∨x∈g:=by
  intro x
  constructor
  ·rintro ⟨h1,h2⟩
   cases e:putM L T a n x
   ·exact .inl ⟨h1,rfl⟩
   ·rcases dh.1 e with e | e
    ·rw[h2] at e;cases e
    ·exact .inr ((gmem x).2 e)
  ·rintro (⟨h1,h2⟩ | h1)
   ·refine⟨h1,?_⟩
    cases e:T x
    ·rfl
    ·rw[dh.2 (.inl e)] at h2;cases h2
   ·exact⟨(g1 x h1).1,(g1 x h1).2.1⟩
 have g2:∀i p,i∈g->i∈adj p->(p<n/\putM L T a n p=false)∨p∈g:=by
  intro i p hi hip
  obtain⟨h1,h2,h3⟩:=ha.one p i hip
  refine(D_iff p).1 ⟨h1,?_⟩
  cases e:T p
  ·rfl
  ·have:=hc p i h1 e h3
   rw[(g1 i hi).2.1] at this;cases this
 have g3:∀i y,i∈g->y∈adj i->¬(y<n/\putM L T a n y=false):=by
  rintro i y hi hy ⟨h1,h2⟩
  obtain⟨h3,_,h4⟩:=ha.one i y hy
  have:=hc' i y h3 (g1 i hi).2.2 h4
  rw[h2] at this;cases this
 have g4:∀x p,(x<n/\putM L T a n x=false)->x∈adj p->p<n/\putM L T a n p=false:=by
  rintro x p ⟨h1,h2⟩ hx
  obtain⟨h3,_,h4⟩:=ha.one p x hx
  refine⟨h3,?_⟩
  cases e:putM L T a n p
  ·rfl
  ·have:=hc' p x h3 e h4
   rw[h2] at this;cases this
 have notg:∀x,(x<n/\putM L T a n x=false)->x ∉ g:=fun x hx hg=>by rw[(g1 x hg).2.2] at hx;exact absurd hx.2 (by decide)
 have agN:a∈g:=(gmem a).2 ⟨haN,lH hp haN⟩
 have pg:∀x,x∈g->Part adj main (fun y=>y<n/\putM L T a n y=false) f x:=fun x hx=>h.todo x (g1 x hx).1 (fun hD=>notg x hD hx)
 have R:∀x,x∈g->(L main x=true↔∃z,z∈g/\f z≠0):=by
  intro x hx
  constructor
  ·intro hl
   refine ha.ind main (fun y=>y∈g->∃z,z∈g/\f z≠0) hm (fun hg=>⟨main,hg,fun e=>((pg main hg).z.1 e).1 rfl⟩) (fun p y ih hlp hy hyg=>?_) x hl hx
   rcases g2 y p hyg hy with hD | hg
   ·refine⟨y,hyg,fun e=>?_⟩
    have h1:=((pg y hyg).z.1 e).2 p hD hy
    have h2:=(h.done p hD).z.1 h1
    rw[hlp] at h2;cases h2
   ·exact ih hg
  ·rintro ⟨z,hz,hfz⟩
   have hzl:L main z=true:=by
    by_cases e:z=main
    ·rw[e];exact hp.refl main hm
    ·by_cases hx:∃p,(p<n/\putM L T a n p=false)/\z∈adj p/\f p≠0
     ·obtain⟨p,hD,hzp,hfp⟩:=hx
      have h1:L main p=true:=by
       cases e':L main p
       ·exact absurd ((h.done p hD).z.2 e') hfp
       ·rfl
      exact hp.trans main p z hm h1 (ha.one p z hzp).2.2
     ·refine absurd ((pg z hz).z.2 ⟨e,fun p hD hzp=>?_⟩) hfz
      by_cases e':f p=0
      ·exact e'
      ·exact absurd ⟨p,hD,hzp,e'⟩ hx
   have h1:=(gmem z).1 hz
   have h2:=(gmem x).1 hx
   exact hp.trans main z x hm hzl (fY.1 (mQ hp h1.1 h2.1 (by rw[qa];exact h1.2) h2.2)).1
 have keep:∀e':Nat->Int,(∀x,(x<n/\putM L T a n x=false)->e' x=f x)->∀x,(x<n/\putM L T a n x=false)->SpecE adj L main e' x:=by
  intro e' he x hD
  have s:=h.done x hD
  refine⟨by rw[he x hD];exact s.z,by rw[he x hD];exact s.m,fun h1 h2=>?_⟩
  rw[he x hD] at h1 h2
  obtain⟨v1,v2,v3⟩:=s.v h1 h2
  rw[he x hD]
  refine⟨v1,fun p hpx=>by rw[he p (g4 x p hD hpx)];exact v2 p hpx,?_⟩
  rcases v3 with v3 | ⟨p,q1,q2,q3⟩
  ·exact .inl v3
  ·exact .inr ⟨p,q1,by rw[he p (g4 x p hD q1)];exact q2,by rw[he p (g4 x p hD q1)];exact q3⟩
 cases hcb:eJ adj g
 ·
  obtain⟨e1,hna,hnc⟩:=circ_no hp ha haN (by rw[eg];exact hcb)
  rw[eg] at e1
  have hst:bV adj f g=aU f a (adj a):=by
   unfold bV
   rw[hcb,Bool.false_and,e1]
   rfl
  have hat:∀y,bV adj f g y=if y∈adj a then comb (f a) (f y) else f y:=fun y=>by rw[hst];exact leadF_of a _ f (ha.nodup a) hna y
  have hold:∀x,(x<n/\putM L T a n x=false)->bV adj f g x=f x:=fun x hD=>by rw[hat,if_neg (fun hx=>g3 a x agN hx hD)]
  have ha':bV adj f g a=f a:=by rw[hat,if_neg hna]
  have pa:=pg a agN
  have preds:∀p,a∈adj p->p<n/\putM L T a n p=false:=by
   intro p hpa
   rcases g2 a p agN hpa with hD | hg
   ·exact hD
   ·rw[e1] at hg
    rw[List.mem_singleton.1 hg] at hpa
    exact absurd hpa hna
  refine⟨fun x hx=>?_,fun y hy hny=>?_⟩
  ·rcases (D_iff x).1 hx with hD | hg
   ·exact keep _ hold x hD
   ·have hxa:x=a:=by rw[e1] at hg;exact List.mem_singleton.1 hg
    subst hxa
    refine⟨?_,?_,?_⟩
    ·rw[ha']
     constructor
     ·intro h0
      cases e:L main x
      ·rfl
      ·obtain⟨z,hz,hfz⟩:=(R x agN).1 e
       rw[e1] at hz
       rw[List.mem_singleton.1 hz] at hfz
       exact absurd h0 hfz
     ·intro h0
      by_cases e:f x=0
      ·exact e
      ·have:=(R x agN).2 ⟨x,agN,e⟩
       rw[h0] at this;cases this
    ·rw[ha',pa.m]
     constructor
     ·rintro ⟨p,hD,hpx,hfp⟩
      obtain⟨s1,k,s2,s3,s4⟩:=(h.done p hD).m.1 hfp
      have hl:=(ha.one p x hpx).2.2
      have hk:k<n:=hp.lt main k hm s2
      exact⟨hp.trans main p x hm s1 hl,k,s2,hp.trans k p x hk s3 hl,s4⟩
     ·rintro ⟨s1,k,s2,s3,s4⟩
      have hk:k<n:=hp.lt main k hm s2
      rcases ha.last hk s3 with e | ⟨p,q1,q2⟩
      ·rw[e] at s4;exact absurd s4 hnc
      ·have hD:=preds p q2
       exact⟨p,hD,q2,(h.done p hD).m.2 ⟨hp.trans main k p hm s2 q1,k,s2,q1,s4⟩⟩
    ·intro h1 h2
     rw[ha'] at h1 h2 ⊢
     obtain⟨v1,v2,v3⟩:=pa.v h1 h2
     refine⟨v1,fun p hpx=>by rw[hold p (preds p hpx)];exact v2 p (preds p hpx) hpx,?_⟩
     rcases v3 with v3 | ⟨p,q0,q1,q2,q3⟩
     ·exact .inl v3
     ·exact .inr ⟨p,q1,by rw[hold p q0];exact q2,by rw[hold p q0];exact q3⟩
  ·have hnD:¬(y<n/\putM L T a n y=false):=fun hD=>hny ((D_iff y).2 (.inl hD))
   have hya:y≠a:=fun e=>hny ((D_iff y).2 (.inr (by rw[e];exact agN)))
   have py:=h.todo y hy hnD
   have D':∀p,(p<n/\T p=false)->(p<n/\putM L T a n p=false)∨p=a:=by
    intro p hD
    rcases (D_iff p).1 hD with h1 | h1
    ·exact .inl h1
    ·rw[e1] at h1;exact .inr (List.mem_singleton.1 h1)
   have Dold:∀p,(p<n/\putM L T a n p=false)->(p<n/\T p=false):=fun p hD=>(D_iff p).2 (.inl hD)
   have Da:a<n/\T a=false:=⟨haN,hTa⟩
   by_cases hya':y∈adj a
   ·have hey:bV adj f g y=comb (f a) (f y):=by rw[hat,if_pos hya']
    by_cases c0:f a=0
    ·have hey':bV adj f g y=f y:=by rw[hey];unfold comb;rw[if_pos (.inl c0)]
     refine⟨?_,?_,?_⟩
     ·rw[hey',py.z]
      refine and_congr Iff.rfl ⟨fun q p hD hpy=>?_,fun q p hD hpy=>by have:=q p (Dold p hD) hpy;rw[hold p hD] at this;exact this⟩
      rcases D' p hD with h1 | h1
      ·rw[hold p h1];exact q p h1 hpy
      ·rw[h1,ha',c0]
     ·rw[hey',py.m]
      constructor
      ·rintro ⟨p,hD,q1,q2⟩;exact⟨p,Dold p hD,q1,by rw[hold p hD];exact q2⟩
      ·rintro ⟨p,hD,q1,q2⟩
       rcases D' p hD with h1 | h1
       ·exact⟨p,h1,q1,by rw[hold p h1] at q2;exact q2⟩
       ·rw[h1,ha',c0] at q2;omega
     ·intro h1 h2
      rw[hey'] at h1 h2 ⊢
      obtain⟨v1,v2,v3⟩:=py.v h1 h2
      refine⟨v1,fun p hD hpy=>?_,?_⟩
      ·rcases D' p hD with h3 | h3
       ·rw[hold p h3];exact v2 p h3 hpy
       ·rw[h3,ha',c0];omega
      ·rcases v3 with v3 | ⟨p,q0,q1,q2,q3⟩
       ·exact .inl v3
       ·exact .inr ⟨p,Dold p q0,q1,by rw[hold p q0];exact q2,by rw[hold p q0];exact q3⟩
    ·by_cases cm:f a = -1
     ·have hey':bV adj f g y = -1:=by
       rw[hey];unfold comb
       rw[cm]
       split
       ·omega
       ·rfl
      refine⟨⟨fun e=>by omega,fun q=>?_⟩,⟨fun _=>⟨a,Da,hya',by rw[ha'];exact cm⟩,fun _=>hey'⟩,fun _ h2=>absurd hey' h2⟩
      have:=q.2 a Da hya'
      rw[ha',cm] at this;omega
     ·obtain⟨a1,_,_⟩:=pa.v c0 cm
      by_cases ym:f y = -1
      ·have hey':bV adj f g y = -1:=by rw[hey];unfold comb;rw[if_pos (.inr ym),ym]
       obtain⟨p,hD,q1,q2⟩:=py.m.1 ym
       refine⟨⟨fun e=>by omega,fun q=>?_⟩,⟨fun _=>⟨p,Dold p hD,q1,by rw[hold p hD];exact q2⟩,fun _=>hey'⟩,fun _ h2=>absurd hey' h2⟩
       have:=q.2 p (Dold p hD) q1
       rw[hold p hD,q2] at this;omega
      ·have hey':bV adj f g y=max (f y) (f a+1):=by rw[hey];unfold comb;rw[if_neg (by omega),if_neg cm]
       have hge:f a+1<=bV adj f g y:=by rw[hey'];exact Int.le_max_right _ _
       have hge2:f y<=bV adj f g y:=by rw[hey'];exact Int.le_max_left _ _
       refine⟨⟨fun e=>by omega,fun q=>?_⟩,⟨fun e=>by omega,?_⟩,fun h1 h2=>⟨by omega,fun p hD hpy=>?_,?_⟩⟩
       ·have:=q.2 a Da hya'
        rw[ha'] at this;exact absurd this c0
       ·rintro ⟨p,hD,q1,q2⟩
        rcases D' p hD with h3 | h3
        ·rw[hold p h3] at q2
         exact absurd (py.m.2 ⟨p,h3,q1,q2⟩) ym
        ·rw[h3,ha'] at q2;exact absurd q2 cm
       ·rcases D' p hD with h3 | h3
        ·rw[hold p h3]
         by_cases y0:f y=0
         ·have:=(py.z.1 y0).2 p h3 hpy;omega
         ·have:=(py.v y0 ym).2.1 p h3 hpy;omega
        ·rw[h3,ha'];exact hge
       ·by_cases hle:f y<=f a+1
        ·refine .inr ⟨a,Da,hya',by rw[ha'];exact a1,?_⟩
         rw[hey',ha'];omega
        ·have hyy:bV adj f g y=f y:=by rw[hey'];omega
         rw[hyy]
         have y0:f y≠0:=by omega
         rcases (py.v y0 ym).2.2 with v3 | ⟨p,q0,q1,q2,q3⟩
         ·omega
         ·exact .inr ⟨p,Dold p q0,q1,by rw[hold p q0];exact q2,by rw[hold p q0];exact q3⟩
   ·have hey:bV adj f g y=f y:=by rw[hat,if_neg hya']
    have Dn:∀p,(p<n/\T p=false)->y∈adj p->p<n/\putM L T a n p=false:=by
     intro p hD hpy
     rcases D' p hD with h1 | h1
     ·exact h1
     ·rw[h1] at hpy;exact absurd hpy hya'
    refine⟨?_,?_,?_⟩
    ·rw[hey,py.z]
     exact and_congr Iff.rfl ⟨fun q p hD hpy=>by rw[hold p (Dn p hD hpy)];exact q p (Dn p hD hpy) hpy,fun q p hD hpy=>by have:=q p (Dold p hD) hpy;rw[hold p hD] at this;exact this⟩
    ·rw[hey,py.m]
     constructor
     ·rintro ⟨p,hD,q1,q2⟩;exact⟨p,Dold p hD,q1,by rw[hold p hD];exact q2⟩
     ·rintro ⟨p,hD,q1,q2⟩;exact⟨p,Dn p hD q1,q1,by rw[hold p (Dn p hD q1)] at q2;exact q2⟩
    ·intro h1 h2
     rw[hey] at h1 h2 ⊢
     obtain⟨v1,v2,v3⟩:=py.v h1 h2
     refine⟨v1,fun p hD hpy=>by rw[hold p (Dn p hD hpy)];exact v2 p (Dn p hD hpy) hpy,?_⟩
     rcases v3 with v3 | ⟨p,q0,q1,q2,q3⟩
     ·exact .inl v3
     ·exact .inr ⟨p,Dold p q0,q1,by rw[hold p q0];exact q2,by rw[hold p q0];exact q3⟩
 ·cases hhb:hasB f g
  ·
   have hz:∀i,i∈g->f i=0:=by
    intro i hi
    unfold hasB at hhb
    rw[List.any_eq_false] at hhb
    have:=hhb i hi
    by_cases e:f i=0
    ·exact e
    ·exact absurd (decide_eq_true e) this
   have hst:bV adj f g=f:=by
    unfold bV
    rw[hcb,hhb]
    exact fold_zero adj g f hz
   rw[hst]
   refine⟨fun x hx=>?_,fun y hy hny=>?_⟩
   ·rcases (D_iff x).1 hx with hD | hg
    ·exact h.done x hD
    ·have hl:L main x=false:=by
      cases e:L main x
      ·rfl
      ·obtain⟨z,hz1,hz2⟩:=(R x hg).1 e
       exact absurd (hz z hz1) hz2
     have h0:=hz x hg
     refine⟨⟨fun _=>hl,fun _=>h0⟩,⟨fun e=>by omega,fun q=>by rw[hl] at q;exact absurd q.1 (by decide)⟩,fun h1 _=>absurd h0 h1⟩
   ·have hnD:¬(y<n/\putM L T a n y=false):=fun hD=>hny ((D_iff y).2 (.inl hD))
    have py:=h.todo y hy hnD
    refine⟨?_,?_,?_⟩
    ·rw[py.z]
     refine and_congr Iff.rfl ⟨fun q p hD hpy=>?_,fun q p hD hpy=>q p ((D_iff p).2 (.inl hD)) hpy⟩
     rcases (D_iff p).1 hD with h1 | h1
     ·exact q p h1 hpy
     ·exact hz p h1
    ·rw[py.m]
     constructor
     ·rintro ⟨p,hD,q⟩;exact⟨p,(D_iff p).2 (.inl hD),q⟩
     ·rintro ⟨p,hD,q1,q2⟩
      rcases (D_iff p).1 hD with h1 | h1
      ·exact⟨p,h1,q1,q2⟩
      ·rw[hz p h1] at q2;omega
    ·intro h1 h2
     obtain⟨v1,v2,v3⟩:=py.v h1 h2
     refine⟨v1,fun p hD hpy=>?_,?_⟩
     ·rcases (D_iff p).1 hD with h3 | h3
      ·exact v2 p h3 hpy
      ·rw[hz p h3];omega
     ·rcases v3 with v3 | ⟨p,q0,q⟩
      ·exact .inl v3
      ·exact .inr ⟨p,(D_iff p).2 (.inl q0),q⟩
  ·
   have hx0:∃z,z∈g/\f z≠0:=by
    unfold hasB at hhb
    rw[List.any_eq_true] at hhb
    obtain⟨z,hz,q⟩:=hhb
    exact⟨z,hz,of_decide_eq_true q⟩
   have hat:∀y,bV adj f g y=if ∃i∈g,y∈adj i then -1 else if y∈g then -1 else f y:=by
    intro y
    unfold bV
    rw[hcb,hhb]
    exact fold_neg adj g (iz f g) (fun i hi=>if_pos hi) y
   have hg:∀x,x∈g->bV adj f g x = -1:=by
    intro x hx
    rw[hat,if_pos hx]
    split <;> rfl
   have hold:∀x,(x<n/\putM L T a n x=false)->bV adj f g x=f x:=by
    intro x hD
    rw[hat,if_neg (fun⟨i,hi,hx⟩=>g3 i x hi hx hD),if_neg (notg x hD)]
   refine⟨fun x hx=>?_,fun y hy hny=>?_⟩
   ·rcases (D_iff x).1 hx with hD | hgx
    ·exact keep _ hold x hD
    ·have hl:=(R x hgx).2 hx0
     have hcx:=circ_yes hp ha haN (by rw[eg];exact hcb) x (by rw[eg];exact hgx)
     have hm1:=hg x hgx
     have hxn:=(g1 x hgx).1
     refine⟨⟨fun e=>by omega,fun e=>by rw[hl] at e;cases e⟩,⟨fun _=>⟨hl,x,hl,hp.refl x hxn,hcx⟩,fun _=>hm1⟩,fun _ h2=>absurd hm1 h2⟩
   ·have hnD:¬(y<n/\putM L T a n y=false):=fun hD=>hny ((D_iff y).2 (.inl hD))
    have hng:y ∉ g:=fun hgy=>hny ((D_iff y).2 (.inr hgy))
    have py:=h.todo y hy hnD
    by_cases hi:∃i∈g,y∈adj i
    ·have hey:bV adj f g y = -1:=by rw[hat,if_pos hi]
     obtain⟨i,hig,hyi⟩:=hi
     have hDi:=(D_iff i).2 (.inr hig)
     refine⟨⟨fun e=>by omega,fun q=>?_⟩,⟨fun _=>⟨i,hDi,hyi,hg i hig⟩,fun _=>hey⟩,fun _ h2=>absurd hey h2⟩
     have:=q.2 i hDi hyi
     rw[hg i hig] at this;omega
    ·have hey:bV adj f g y=f y:=by rw[hat,if_neg hi,if_neg hng]
     have Dn:∀p,(p<n/\T p=false)->y∈adj p->p<n/\putM L T a n p=false:=by
      intro p hD hpy
      rcases (D_iff p).1 hD with h1 | h1
      ·exact h1
      ·exact absurd ⟨p,h1,hpy⟩ hi
     have Dold:∀p,(p<n/\putM L T a n p=false)->(p<n/\T p=false):=fun p hD=>(D_iff p).2 (.inl hD)
     refine⟨?_,?_,?_⟩
     ·rw[hey,py.z]
      exact and_congr Iff.rfl ⟨fun q p hD hpy=>by rw[hold p (Dn p hD hpy)];exact q p (Dn p hD hpy) hpy,fun q p hD hpy=>by have:=q p (Dold p hD) hpy;rw[hold p hD] at this;exact this⟩
     ·rw[hey,py.m]
      constructor
      ·rintro ⟨p,hD,q1,q2⟩;exact⟨p,Dold p hD,q1,by rw[hold p hD];exact q2⟩
      ·rintro ⟨p,hD,q1,q2⟩;exact⟨p,Dn p hD q1,q1,by rw[hold p (Dn p hD q1)] at q2;exact q2⟩
     ·intro h1 h2
      rw[hey] at h1 h2 ⊢
      obtain⟨v1,v2,v3⟩:=py.v h1 h2
      refine⟨v1,fun p hD hpy=>by rw[hold p (Dn p hD hpy)];exact v2 p (Dn p hD hpy) hpy,?_⟩
      rcases v3 with v3 | ⟨p,q0,q1,q2,q3⟩
      ·exact .inl v3
      ·exact .inr ⟨p,Dold p q0,q1,by rw[hold p q0];exact q2,by rw[hold p q0];exact q3⟩
theorem inv_all{n:Nat}{adj:Nat->List Nat}{L:Nat->Nat->Bool}(hp:Pre n L)(ha:Adj n adj L){main:Nat}(hm:main<n):∀(f:Nat) (T:Nat->Bool),GG.unv n T<=f->Closed L n T ->
 InvE n adj L main (fun y=>y<n/\T y=false) ((be L n f T).foldr (fun g e=>bV adj e g) (eK main)):=by
 intro f
 induction f with
 | zero =>
   intro T hf hc
   refine mT (fun x hx=>?_)
   have:=unv_zero (n:=n) (T:=T) (by omega) x hx.1
   rw[hx.2] at this;cases this
 | succ f ih =>
   intro T hf hc
   cases e:bN L n T with
   | none =>
     rw[eY _ e]
     refine mT (fun x hx=>?_)
     have:=next_stop hp e x hx.1
     rw[hx.2] at this;cases this
   | some a =>
     have hl:=jv hp e
     have e1:be L n (f+1) T=grp L n a :: be L n f (putM L T a n):=by
      show (match bN L n T with | none=>[] | some a=>grp L n a :: be L n f (putM L T a n))=_
      rw[e]
     rw[e1,List.foldr_cons]
     exact inv_step hp ha hm hc e (ih _ (by omega) (iS hp hc e))
theorem ent_spec{n:Nat}{adj:Nat->List Nat}{L:Nat->Nat->Bool}(hp:Pre n L)(ha:Adj n adj L){main:Nat}(hm:main<n)(x:Nat)(hx:x<n):SpecE adj L main (entF adj (be L n n (fun _=>false)) main) x:=by
 unfold entF
 rw[List.foldl_reverse]
 exact(inv_all hp ha hm n (fun _=>false) (GG.iB _ _) (fun a b _ h=>by cases h)).done x ⟨hx,rfl⟩
end CC
end
section
namespace CC
end CC
theorem qc{to9:List (List Int)}(h:GG.am to9=true):CC.Adj to9.length (GG.an to9) (aZ to9):=by
 have hN:GG.adjN to9 (-1)=GG.an to9:=GG.dS to9 (-1) (by omega)
 have hiff:∀a,a<to9.length->∀x,aZ to9 a x=true↔GG.Reach (GG.an to9) a x:=fun a ha x=>by rw[<-hN];exact GG.bW h ha x
 refine⟨fun p y hy=>?_,fun a P ha h0 hs y hl=>?_,fun a y ha hl=>?_,fun p=>?_⟩
 ·have hp:=GG.jD hy
  exact⟨hp,GG.eZ h p y hy,(hiff p hp y).2 (.one hy)⟩
 ·have hr:=(hiff a ha y).1 hl
  clear hl
  induction hr with
  | refl=>exact h0
  | step hij hk ih=>exact hs _ _ ih ((hiff a ha _).2 hij) hk
 ·rcases ((hiff a ha y).1 hl).cases_head with e | ⟨j,hj,hr⟩
  ·exact .inl e
  ·exact .inr ⟨j,hj,(hiff j (GG.eZ h a j hj) y).2 hr⟩
 ·unfold GG.an
  by_cases hp:p<to9.length
  ·have:=GG.bF h hp
   exact GG.jQ (fun j hj=>(GG.dF this j hj).1) (GG.fj this)
  ·rw[List.getElem?_eq_none (by omega)];simp
def bE(to9:List (List Int))(main:Nat)(x:Nat):Int:=CC.entF (GG.an to9) (aR to9) main x
theorem dR{to9:List (List Int)}(h:GG.am to9=true){main:Nat}(hm:main<to9.length)(x:Nat)(hx:x<to9.length):CC.SpecE (GG.an to9) (aZ to9) main (bE to9 main) x:=by
 unfold bE aR
 rw[if_pos h]
 exact CC.ent_spec (gN h) (qc h) hm x hx
end
end Go.Proofs.YtjngffgkllakaaaGreatDoor
