/- A part of a proof: laws that the last text uses. -/
import Derived.Test.YtjngffgkllakaaaGreatDoorY01
import Derived.Test.YtjngffgkllakaaaGreatDoorY03
import Derived.Test.YtjngffgkllakaaaGreatDoorY06
import Derived.Test.YtjngffgkllakaaaGreatDoorY09
import Derived.Maps.Own
import Derived.Maps.OwnOps
import Derived.Maps.Views
set_option linter.unusedSimpArgs false
set_option linter.unusedVariables false
namespace Go.Proofs.YtjngffgkllakaaaGreatDoor.IP
open List renaming getElem_toArray → zA, getElem_cons_succ → zB, getElem_cons_zero → zC, setIfInBounds_toArray → zD, set_cons_zero → zE, set_cons_succ → zF
open Lib renaming hid → zH
section
open Go.RowKit
open CD (OpP BodyP CodeP ae blAt fnAt)
set_option maxRecDepth 100000 in
set_option maxHeartbeats 3200000 in
theorem do_leave{K:Kst}{mf m:Nat}{W0 W:World}{fs:List FrS}{f:FrS}{st:Int}(h:Doing K mf W0 W fs f st m)(a:Nat)(ha:a<K.va f.num)(hi:insK K f=.iface 220 (.agg #[.int .i64 a])) :
 Calls Tryz.prog 82 #[.pointer (some ⟨K.Rb,0,none⟩),.pointer (some ⟨f.fb,0,none⟩)] W fun e w'=>DoE K mf W0 fs f st m e w':=by
 obtain⟨q,cap,ht,_⟩:=h.g.top
 obtain⟨b1,b2,b3,b4⟩:=h.bounds
 have HI:=zH hi
 have G:=zH h.g
 have HT:=zH ht
 have HH:=zH h
 have HD:=zH ha
 clear ha
 have n_constant:=@bC 220 (by decide) (.agg #[.int .i64 a])
 have n_binary:=@cw 220 (by decide) (.agg #[.int .i64 a])
 have n_load:=@dQ 220 (by decide) (.agg #[.int .i64 a])
 have n_wrap:=@eV 220 (by decide) (.agg #[.int .i64 a])
 have n_store:=@eH 220 (by decide) (.agg #[.int .i64 a])
 have n_input:=@fD 220 (by decide) (.agg #[.int .i64 a])
 have n_output:=@fE 220 (by decide) (.agg #[.int .i64 a])
 have n_release:=@fX 220 (by decide) (.agg #[.int .i64 a])
 have n_call:=@ox 220 (by decide) (.agg #[.int .i64 a])
 have n_jump:=@no_jump 220 (by decide) (.agg #[.int .i64 a])
 have n_branch:=@no_branch 220 (by decide) (.agg #[.int .i64 a])
 have y_leave:=yes_leave (.agg #[.int .i64 a])
 clear h hi ht
 go_enter Tryz.func82,Tryz.ntmps82
 go_upto_region 37 with(go_at_call 124;refine(ck HT.out ⟨b2,b3⟩).mono ?_;rintro e w1 ⟨rfl,d1,hw1⟩;rw[HI.out];have HW:=zH hw1;clear hw1)
 obtain⟨w2,ew2⟩:∃w2,w2=w1.alloc (.cells #[.int .i64 a] 220):=⟨_,rfl⟩
 rw[<-ew2]
 obtain⟨g2,ho2,hb2,hB2⟩:=G.out.held HW.out ew2
 have HO2:=zH ho2
 have G2:=zH g2
 have y0:=cell_of_row _ _ 0 _ _ _ ho2
 obtain⟨vg,c2,hva,hvB,hnv,hv,hfz,hset⟩:=g2.vals
 have ha:=HD.out
 have hm:=HH.out.ok.most
 have i_a:(0:Int)<=a/\(a:Int)<K.most:=by omega
 obtain⟨za,hza⟩:=hv a ha
 have G3:=zH (g2.drewN 1)
 clear g2 ho2 ew2 hv hfz hset hnv
 go_region_with (go_at_call 134;refine(leave_any HH.out.ok (W:=World.drew w2) G3.out _).mono ?_;rintro e w3 ⟨rfl,hl3⟩)
 all_goals (
  go_wp2_with fail
  first | go_end0 | refine bodyPost_ret (results_none rfl _ _ _) rfl ?_
  unfold LeaveE at hl3
  rcases hl3 with⟨_,h⟩ | ⟨gs,g,_,h⟩ <;> exact .inl ⟨rfl,_,h.more (by omega)⟩)
set_option maxRecDepth 100000 in
set_option maxHeartbeats 6400000 in
theorem do_call{K:Kst}{mf m:Nat}{W0 W:World}{fs:List FrS}{f:FrS}{st:Int}(h:Doing K mf W0 W fs f st m)(d r:Nat)(xa:Option Addr)(xc:Nat)(xs:List Int)(hd:d<K.va f.num)(hr:r<K.nf)(hx:Row K.B0 W (.slice xa xs.length xc) xs)(hl:xs.length<=100000)(hj:∀j,j<xs.length->0<=xs[j]?.getD 0/\xs[j]?.getD 0<K.va f.num)(hi:insK K f=.iface 208 (.agg #[.int .i64 d,.int .i64 r,.slice xa xs.length xc])) :
 Calls Tryz.prog 82 #[.pointer (some ⟨K.Rb,0,none⟩),.pointer (some ⟨f.fb,0,none⟩)] W fun e w'=>DoE K mf W0 fs f st m e w':=by
 obtain⟨q,cap,ht,_⟩:=h.g.top
 obtain⟨b1,b2,b3,b4⟩:=h.bounds
 have HI:=zH hi
 have G:=zH h.g
 have HT:=zH ht
 have HH:=zH h
 have HR:=zH (And.intro hr hl)
 have HX:=zH hx
 have HJ:=zH hj
 have HCK:=zH (show fQ K f r from⟨d,_,hd,hi⟩)
 clear hd hr hx hl hj
 have n_constant:=@bC 208 (by decide) (.agg #[.int .i64 d,.int .i64 r,.slice xa xs.length xc])
 have n_binary:=@cw 208 (by decide) (.agg #[.int .i64 d,.int .i64 r,.slice xa xs.length xc])
 have n_load:=@dQ 208 (by decide) (.agg #[.int .i64 d,.int .i64 r,.slice xa xs.length xc])
 have n_wrap:=@eV 208 (by decide) (.agg #[.int .i64 d,.int .i64 r,.slice xa xs.length xc])
 have n_store:=@eH 208 (by decide) (.agg #[.int .i64 d,.int .i64 r,.slice xa xs.length xc])
 have n_input:=@fD 208 (by decide) (.agg #[.int .i64 d,.int .i64 r,.slice xa xs.length xc])
 have n_output:=@fE 208 (by decide) (.agg #[.int .i64 d,.int .i64 r,.slice xa xs.length xc])
 have n_release:=@fX 208 (by decide) (.agg #[.int .i64 d,.int .i64 r,.slice xa xs.length xc])
 have y_call:=yes_call (.agg #[.int .i64 d,.int .i64 r,.slice xa xs.length xc])
 clear h hi ht
 go_enter Tryz.func82,Tryz.ntmps82
 go_upto_region 28 with(go_at_call 124;refine(ck HT.out ⟨b2,b3⟩).mono ?_;rintro e w1 ⟨rfl,d1,hw1⟩;rw[HI.out];have HW:=zH hw1;clear hw1)
 obtain⟨w2,ew2⟩:∃w2,w2=w1.alloc (.cells #[.int .i64 d,.int .i64 r,.slice xa xs.length xc] 208):=⟨_,rfl⟩
 rw[<-ew2]
 obtain⟨g2,ho2,hb2,hB2⟩:=G.out.held HW.out ew2
 have HO2:=zH ho2
 have G2:=zH g2
 obtain⟨y0,y1,y2⟩:=obj3 ho2
 obtain⟨_,_,hva,_⟩:=g2.vals
 have HVA:=zH hva
 have hB3:K.B0<=w2.heap.size:=Nat.le_trans hB2 hb2.size
 have hLD:fs.length<K.D:=HT.out.nD
 have H3:=zH (And.intro (g2.frm _ _ (aQ _ _)) (g2.core.rmn fs.length hLD))
 have HX2:=zH (HX.out.below (hb2.mono hB2))
 have HSM:=zH (some_any (W:=w2.drew) (H3.out.1) H3.out.2 xa xc xs HX2.out HR.out.2 HH.out.ok.most (fun j hj=>⟨(HJ.out j hj).1,by have:=(HJ.out j hj).2;have:=HVA.out;omega⟩) hB3)
 have G3:=zH (g2.drewN 1)
 change Hid (Mach _ _ _ (World.drew w2) _ _ _) at G3
 have y9:w2.drew.cell? ⟨w1.heap.size,1,none⟩=some (.int .i64 r):=y1
 clear g2 ho2 ew2 hva
 by_cases hx:fs.length+1=K.D
 ·have HX9:=zH hx
  clear hx hLD
  refine wp_region_held_drew (S:=(fun _=>True)) (by kernel_rfl) ?_ (fun hHeld=>?_)
  ·exact trivial
  refine tkV 0 (.pointer (some ⟨K.Rb,0,none⟩)) rfl (fun W hSW=>?_) hHeld ?_
  ·((try dsimp only at hSW);go_split_ands;go_simp <;> with_reducible rfl)
  try simp only[zA,zB,zC,Act.put,zD,zE,zF]
  refine tkV 1 (.pointer (some ⟨w1.heap.size,1,none⟩)) rfl (fun W hSW=>?_) hHeld ?_
  ·((try dsimp only at hSW);go_split_ands;go_simp <;> with_reducible rfl)
  try simp only[zA,zB,zC,Act.put,zD,zE,zF]
  refine tkV 3 (.pointer (some ⟨f.fb,0,none⟩)) rfl (fun W hSW=>?_) hHeld ?_
  ·((try dsimp only at hSW);go_split_ands;go_simp <;> with_reducible rfl)
  try simp only[zA,zB,zC,Act.put,zD,zE,zF]
  refine tkV 4 (.pointer (some ⟨w1.heap.size,2,none⟩)) rfl (fun W hSW=>?_) hHeld ?_
  ·((try dsimp only at hSW);go_split_ands;go_simp <;> with_reducible rfl)
  try simp only[zA,zB,zC,Act.put,zD,zE,zF]
  refine wpAnyH_ready (rs:=[2,5]) (by kernel_rfl) (by simp) ?_
  refine AllReadyH.cons rfl (fun KK hKK=>?_) (AllReadyH.cons rfl (fun KK hKK=>?_) (AllReadyH.nil))
  ·try simp only[zA,zB,zC]
   go_simp
   refine hKK.out _ _ ?_ (fun hHeld=>?_)
   ·exact trivial
   clear hKK KK
   try simp only[zA,zB,zC,Act.put,zD,zE,zF]
   refine wpAnyH_ready (rs:=[5]) (by kernel_rfl) (by simp) ?_
   refine AllReadyH.cons rfl (fun KK hKK=>?_) (AllReadyH.nil)
   try simp only[zA,zB,zC]
   go_simp
   refine hKK.out _ _ ?_ (fun hHeld=>?_)
   ·exact trivial
   clear hKK KK
   try simp only[zA,zB,zC,Act.put,zD,zE,zF]
   refine wpAnyH_ready (rs:=[6]) (by kernel_rfl) (by simp) ?_
   refine AllReadyH.cons rfl (fun KK hKK=>?_) (AllReadyH.nil)
   try simp only[zA,zB,zC]
   go_simp
   (go_at_call 131;refine HSM.out.mono ?_;rintro e w3 ⟨v3,zs,rfl,ho3,hb3⟩;obtain⟨sa,sc,rfl⟩:=GG.ap ho3;have y8:=aK hb3 y9;have HO3:=zH ho3;have G4:=zH (G3.out.on hb3);clear ho3 hb3)
   try go_wp2_with fail
   refine hKK.out _ _ ?_ (fun hHeld=>?_)
   ·exact trivial
   clear hKK KK
   try simp only[zA,zB,zC,Act.put,zD,zE,zF]
   refine wpAnyH_ready (rs:=[7]) (by kernel_rfl) (by simp) ?_
   refine AllReadyH.cons rfl (fun KK hKK=>?_) (AllReadyH.nil)
   try simp only[zA,zB,zC]
   go_simp
   (go_at_call 29;refine(iR G4.out HH.out.ok r HR.out.1 HCK.out HO3.out HX9.out).mono ?_;rintro e w4 ⟨rfl,hg4⟩;unfold Over)
   try go_wp2_with fail
   clear hKK KK
   simp only[bodyPost,true_and,Exit.inBlock,Exit.then]
   exact .inr ⟨22,rfl,fun _=>⟨HX9.out,_,HCK.out⟩,_,hg4.more (by omega)⟩
  ·try simp only[zA,zB,zC]
   go_simp
   refine hKK.out _ _ ?_ (fun hHeld=>?_)
   ·exact trivial
   clear hKK KK
   try simp only[zA,zB,zC,Act.put,zD,zE,zF]
   refine wpAnyH_ready (rs:=[2,6]) (by kernel_rfl) (by simp) ?_
   refine AllReadyH.cons rfl (fun KK hKK=>?_) (AllReadyH.cons rfl (fun KK hKK=>?_) (AllReadyH.nil))
   ·try simp only[zA,zB,zC]
    go_simp
    refine hKK.out _ _ ?_ (fun hHeld=>?_)
    ·exact trivial
    clear hKK KK
    try simp only[zA,zB,zC,Act.put,zD,zE,zF]
    refine wpAnyH_ready (rs:=[6]) (by kernel_rfl) (by simp) ?_
    refine AllReadyH.cons rfl (fun KK hKK=>?_) (AllReadyH.nil)
    try simp only[zA,zB,zC]
    go_simp
    (go_at_call 131;refine HSM.out.mono ?_;rintro e w3 ⟨v3,zs,rfl,ho3,hb3⟩;obtain⟨sa,sc,rfl⟩:=GG.ap ho3;have y8:=aK hb3 y9;have HO3:=zH ho3;have G4:=zH (G3.out.on hb3);clear ho3 hb3)
    try go_wp2_with fail
    refine hKK.out _ _ ?_ (fun hHeld=>?_)
    ·exact trivial
    clear hKK KK
    try simp only[zA,zB,zC,Act.put,zD,zE,zF]
    refine wpAnyH_ready (rs:=[7]) (by kernel_rfl) (by simp) ?_
    refine AllReadyH.cons rfl (fun KK hKK=>?_) (AllReadyH.nil)
    try simp only[zA,zB,zC]
    go_simp
    (go_at_call 29;refine(iR G4.out HH.out.ok r HR.out.1 HCK.out HO3.out HX9.out).mono ?_;rintro e w4 ⟨rfl,hg4⟩;unfold Over)
    try go_wp2_with fail
    clear hKK KK
    simp only[bodyPost,true_and,Exit.inBlock,Exit.then]
    exact .inr ⟨22,rfl,fun _=>⟨HX9.out,_,HCK.out⟩,_,hg4.more (by omega)⟩
   ·try simp only[zA,zB,zC]
    go_simp
    (go_at_call 131;refine HSM.out.mono ?_;rintro e w3 ⟨v3,zs,rfl,ho3,hb3⟩;obtain⟨sa,sc,rfl⟩:=GG.ap ho3;have y8:=aK hb3 y9;have HO3:=zH ho3;have G4:=zH (G3.out.on hb3);clear ho3 hb3)
    try go_wp2_with fail
    refine hKK.out _ _ ?_ (fun hHeld=>?_)
    ·exact trivial
    clear hKK KK
    try simp only[zA,zB,zC,Act.put,zD,zE,zF]
    refine wpAnyH_ready (rs:=[2]) (by kernel_rfl) (by simp) ?_
    refine AllReadyH.cons rfl (fun KK hKK=>?_) (AllReadyH.nil)
    try simp only[zA,zB,zC]
    go_simp
    refine hKK.out _ _ ?_ (fun hHeld=>?_)
    ·exact trivial
    clear hKK KK
    try simp only[zA,zB,zC,Act.put,zD,zE,zF]
    refine wpAnyH_ready (rs:=[7]) (by kernel_rfl) (by simp) ?_
    refine AllReadyH.cons rfl (fun KK hKK=>?_) (AllReadyH.nil)
    try simp only[zA,zB,zC]
    go_simp
    (go_at_call 29;refine(iR G4.out HH.out.ok r HR.out.1 HCK.out HO3.out HX9.out).mono ?_;rintro e w4 ⟨rfl,hg4⟩;unfold Over)
    try go_wp2_with fail
    clear hKK KK
    simp only[bodyPost,true_and,Exit.inBlock,Exit.then]
    exact .inr ⟨22,rfl,fun _=>⟨HX9.out,_,HCK.out⟩,_,hg4.more (by omega)⟩
 ·have HX9:=zH hx
  clear hx hLD
  refine wp_region_held_drew (S:=(fun _=>True)) (by kernel_rfl) ?_ (fun hHeld=>?_)
  ·exact trivial
  refine tkV 0 (.pointer (some ⟨K.Rb,0,none⟩)) rfl (fun W hSW=>?_) hHeld ?_
  ·((try dsimp only at hSW);go_split_ands;go_simp <;> with_reducible rfl)
  try simp only[zA,zB,zC,Act.put,zD,zE,zF]
  refine tkV 1 (.pointer (some ⟨w1.heap.size,1,none⟩)) rfl (fun W hSW=>?_) hHeld ?_
  ·((try dsimp only at hSW);go_split_ands;go_simp <;> with_reducible rfl)
  try simp only[zA,zB,zC,Act.put,zD,zE,zF]
  refine tkV 3 (.pointer (some ⟨f.fb,0,none⟩)) rfl (fun W hSW=>?_) hHeld ?_
  ·((try dsimp only at hSW);go_split_ands;go_simp <;> with_reducible rfl)
  try simp only[zA,zB,zC,Act.put,zD,zE,zF]
  refine tkV 4 (.pointer (some ⟨w1.heap.size,2,none⟩)) rfl (fun W hSW=>?_) hHeld ?_
  ·((try dsimp only at hSW);go_split_ands;go_simp <;> with_reducible rfl)
  try simp only[zA,zB,zC,Act.put,zD,zE,zF]
  refine wpAnyH_ready (rs:=[2,5]) (by kernel_rfl) (by simp) ?_
  refine AllReadyH.cons rfl (fun KK hKK=>?_) (AllReadyH.cons rfl (fun KK hKK=>?_) (AllReadyH.nil))
  ·try simp only[zA,zB,zC]
   go_simp
   refine hKK.out _ _ ?_ (fun hHeld=>?_)
   ·exact trivial
   clear hKK KK
   try simp only[zA,zB,zC,Act.put,zD,zE,zF]
   refine wpAnyH_ready (rs:=[5]) (by kernel_rfl) (by simp) ?_
   refine AllReadyH.cons rfl (fun KK hKK=>?_) (AllReadyH.nil)
   try simp only[zA,zB,zC]
   go_simp
   refine hKK.out _ _ ?_ (fun hHeld=>?_)
   ·exact trivial
   clear hKK KK
   try simp only[zA,zB,zC,Act.put,zD,zE,zF]
   refine wpAnyH_ready (rs:=[6]) (by kernel_rfl) (by simp) ?_
   refine AllReadyH.cons rfl (fun KK hKK=>?_) (AllReadyH.nil)
   try simp only[zA,zB,zC]
   go_simp
   (go_at_call 131;refine HSM.out.mono ?_;rintro e w3 ⟨v3,zs,rfl,ho3,hb3⟩;obtain⟨sa,sc,rfl⟩:=GG.ap ho3;have y8:=aK hb3 y9;have HO3:=zH ho3;have G4:=zH (G3.out.on hb3);clear ho3 hb3)
   try go_wp2_with fail
   refine hKK.out _ _ ?_ (fun hHeld=>?_)
   ·exact trivial
   clear hKK KK
   try simp only[zA,zB,zC,Act.put,zD,zE,zF]
   refine wpAnyH_ready (rs:=[7]) (by kernel_rfl) (by simp) ?_
   refine AllReadyH.cons rfl (fun KK hKK=>?_) (AllReadyH.nil)
   try simp only[zA,zB,zC]
   go_simp
   (go_at_call 29;refine(iQ G4.out HH.out.ok r HR.out.1 HCK.out HO3.out HX9.out).mono ?_;rintro e w4 ⟨rfl,gs,hg4⟩)
   try go_wp2_with fail
   refine hKK.out _ _ ?_ (fun hHeld=>?_)
   ·exact trivial
   clear hKK KK
   try simp only[zA,zB,zC,Act.put,zD,zE,zF]
   refine wpAnyH_done (by kernel_rfl) ?_ _
   clear hHeld
   go_wp2_with fail
   first | go_end0 | refine bodyPost_ret (results_none rfl _ _ _) rfl ?_
   exact .inl ⟨rfl,gs,hg4.more (by omega)⟩
  ·try simp only[zA,zB,zC]
   go_simp
   refine hKK.out _ _ ?_ (fun hHeld=>?_)
   ·exact trivial
   clear hKK KK
   try simp only[zA,zB,zC,Act.put,zD,zE,zF]
   refine wpAnyH_ready (rs:=[2,6]) (by kernel_rfl) (by simp) ?_
   refine AllReadyH.cons rfl (fun KK hKK=>?_) (AllReadyH.cons rfl (fun KK hKK=>?_) (AllReadyH.nil))
   ·try simp only[zA,zB,zC]
    go_simp
    refine hKK.out _ _ ?_ (fun hHeld=>?_)
    ·exact trivial
    clear hKK KK
    try simp only[zA,zB,zC,Act.put,zD,zE,zF]
    refine wpAnyH_ready (rs:=[6]) (by kernel_rfl) (by simp) ?_
    refine AllReadyH.cons rfl (fun KK hKK=>?_) (AllReadyH.nil)
    try simp only[zA,zB,zC]
    go_simp
    (go_at_call 131;refine HSM.out.mono ?_;rintro e w3 ⟨v3,zs,rfl,ho3,hb3⟩;obtain⟨sa,sc,rfl⟩:=GG.ap ho3;have y8:=aK hb3 y9;have HO3:=zH ho3;have G4:=zH (G3.out.on hb3);clear ho3 hb3)
    try go_wp2_with fail
    refine hKK.out _ _ ?_ (fun hHeld=>?_)
    ·exact trivial
    clear hKK KK
    try simp only[zA,zB,zC,Act.put,zD,zE,zF]
    refine wpAnyH_ready (rs:=[7]) (by kernel_rfl) (by simp) ?_
    refine AllReadyH.cons rfl (fun KK hKK=>?_) (AllReadyH.nil)
    try simp only[zA,zB,zC]
    go_simp
    (go_at_call 29;refine(iQ G4.out HH.out.ok r HR.out.1 HCK.out HO3.out HX9.out).mono ?_;rintro e w4 ⟨rfl,gs,hg4⟩)
    try go_wp2_with fail
    refine hKK.out _ _ ?_ (fun hHeld=>?_)
    ·exact trivial
    clear hKK KK
    try simp only[zA,zB,zC,Act.put,zD,zE,zF]
    refine wpAnyH_done (by kernel_rfl) ?_ _
    clear hHeld
    go_wp2_with fail
    first | go_end0 | refine bodyPost_ret (results_none rfl _ _ _) rfl ?_
    exact .inl ⟨rfl,gs,hg4.more (by omega)⟩
   ·try simp only[zA,zB,zC]
    go_simp
    (go_at_call 131;refine HSM.out.mono ?_;rintro e w3 ⟨v3,zs,rfl,ho3,hb3⟩;obtain⟨sa,sc,rfl⟩:=GG.ap ho3;have y8:=aK hb3 y9;have HO3:=zH ho3;have G4:=zH (G3.out.on hb3);clear ho3 hb3)
    try go_wp2_with fail
    refine hKK.out _ _ ?_ (fun hHeld=>?_)
    ·exact trivial
    clear hKK KK
    try simp only[zA,zB,zC,Act.put,zD,zE,zF]
    refine wpAnyH_ready (rs:=[2]) (by kernel_rfl) (by simp) ?_
    refine AllReadyH.cons rfl (fun KK hKK=>?_) (AllReadyH.nil)
    try simp only[zA,zB,zC]
    go_simp
    refine hKK.out _ _ ?_ (fun hHeld=>?_)
    ·exact trivial
    clear hKK KK
    try simp only[zA,zB,zC,Act.put,zD,zE,zF]
    refine wpAnyH_ready (rs:=[7]) (by kernel_rfl) (by simp) ?_
    refine AllReadyH.cons rfl (fun KK hKK=>?_) (AllReadyH.nil)
    try simp only[zA,zB,zC]
    go_simp
    (go_at_call 29;refine(iQ G4.out HH.out.ok r HR.out.1 HCK.out HO3.out HX9.out).mono ?_;rintro e w4 ⟨rfl,gs,hg4⟩)
    try go_wp2_with fail
    refine hKK.out _ _ ?_ (fun hHeld=>?_)
    ·exact trivial
    clear hKK KK
    try simp only[zA,zB,zC,Act.put,zD,zE,zF]
    refine wpAnyH_done (by kernel_rfl) ?_ _
    clear hHeld
    go_wp2_with fail
    first | go_end0 | refine bodyPost_ret (results_none rfl _ _ _) rfl ?_
    exact .inl ⟨rfl,gs,hg4.more (by omega)⟩
end
end Go.Proofs.YtjngffgkllakaaaGreatDoor.IP
namespace Go.Proofs.YtjngffgkllakaaaGreatDoor
open List renaming getElem_toArray → zA, getElem_cons_succ → zB, getElem_cons_zero → zC, setIfInBounds_toArray → zD, set_cons_zero → zE, set_cons_succ → zF
open Lib renaming hid → zH
section
open Go.RowKit
def U(a:Int):Nat:=(IntKind.u64.wrap a).toNat
def fBit(op:Nat)(x y:Bool):Bool:=if op=7 then x || y else if op=8 then x != y else x && y
def opN(op a b:Nat):Nat:=if op=7 then a ||| b else if op=8 then a ^^^ b else a &&& b
def Part(op a b k n:Nat):Prop:=n<2 ^ k/\∀j,j<k->n.testBit j=fBit op (a.testBit j) (b.testBit j)
end
section
open Go.RowKit
def doI(op a b:Int):Int × Int :=
 if op<1∨12<op then (0,1) else
 if (op=4∨op=5)/\b=0 then (0,20) else
 if op=1 then (wrap64 (a+b),0) else if op=2 then (wrap64 (a-b),0) else if op=3 then (wrap64 (a*b),0) else
 if op=4 then (wrap64 (a.tdiv b),0) else if op=5 then (wrap64 (a.tmod b),0) else
 if op=6 then (wrap64 (opN 6 (U a) (U b):Int),0) else if op=7 then (wrap64 (opN 7 (U a) (U b):Int),0) else if op=8 then (wrap64 (opN 8 (U a) (U b):Int),0) else
 if op=9 then (wrap64 (a*2 ^ (U b % 64)),0) else if op=10 then (a / 2 ^ (U b % 64),0) else
 if op=11 then (if a=b then 1 else 0,0) else (if a<b then 1 else 0,0)
end
section
open Go.RowKit
set_option maxHeartbeats 800000 in
theorem ij(b:Bool)(w:World) :
 Calls Tryz.prog 216 #[.bool b] w fun e w'=>e=.returned (.int .i64 (if b=true then 1 else 0))/\w'=w:=by
 cases b
 ·go_enter Tryz.func216,Tryz.ntmps216
  go_wp2_with fail
  go_ret
  exact⟨rfl,rfl⟩
 ·go_enter Tryz.func216,Tryz.ntmps216
  go_wp2_with fail
  go_ret
  exact⟨rfl,rfl⟩
def eqI(a b:Int):Int:=if a=b then 1 else 0
def mP(a b:Int):Int:=if a<b then 1 else 0
def bR(op:Int):Bool:=op == 4 || op == 5
set_option maxHeartbeats 800000 in
theorem bp(op:Int)(w:World) :
 Calls Tryz.prog 177 #[.int .u8 op] w fun e w'=>e=.returned (.bool (bR op))/\w'=w:=by
 cases h4:(op == 4)
 ·cases h5:(op == 5)
  ·have HV:=zH (show bR op=false by unfold bR;rw[h4,h5];rfl)
   go_enter Tryz.func177,Tryz.ntmps177
   go_wp2_with fail
   go_ret
   exact⟨af HV.out.symm,rfl⟩
  ·have HV:=zH (show bR op=true by unfold bR;rw[h4,h5];rfl)
   go_enter Tryz.func177,Tryz.ntmps177
   go_wp2_with fail
   go_ret
   exact⟨af HV.out.symm,rfl⟩
 ·have HV:=zH (show bR op=true by unfold bR;rw[h4];rfl)
  go_enter Tryz.func177,Tryz.ntmps177
  go_wp2_with fail
  go_ret
  exact⟨af HV.out.symm,rfl⟩
set_option maxHeartbeats 800000 in
theorem cl_1(a b:Int)(w:World) :
 Calls Tryz.prog 205 #[.int .i64 a,.int .i64 b] w fun e w'=>e=.returned (.int .i64 (wrap64 (a+b)))/\w'=w:=by
 go_enter Tryz.func205,Tryz.ntmps205
 go_wp2_with fail
 go_ret
 exact⟨rfl,rfl⟩
set_option maxHeartbeats 800000 in
theorem cl_2(a b:Int)(w:World) :
 Calls Tryz.prog 206 #[.int .i64 a,.int .i64 b] w fun e w'=>e=.returned (.int .i64 (wrap64 (a-b)))/\w'=w:=by
 go_enter Tryz.func206,Tryz.ntmps206
 go_wp2_with fail
 go_ret
 exact⟨rfl,rfl⟩
set_option maxHeartbeats 800000 in
theorem cl_3(a b:Int)(w:World) :
 Calls Tryz.prog 207 #[.int .i64 a,.int .i64 b] w fun e w'=>e=.returned (.int .i64 (wrap64 (a*b)))/\w'=w:=by
 go_enter Tryz.func207,Tryz.ntmps207
 go_wp2_with fail
 go_ret
 exact⟨rfl,rfl⟩
set_option maxHeartbeats 800000 in
theorem cl_4(a b:Int)(hz:b≠0)(w:World) :
 Calls Tryz.prog 208 #[.int .i64 a,.int .i64 b] w fun e w'=>e=.returned (.int .i64 (wrap64 (a.tdiv b)))/\w'=w:=by
 go_enter Tryz.func208,Tryz.ntmps208
 go_wp2_with fail
 go_ret
 exact⟨rfl,rfl⟩
set_option maxHeartbeats 800000 in
theorem cl_5(a b:Int)(hz:b≠0)(w:World) :
 Calls Tryz.prog 209 #[.int .i64 a,.int .i64 b] w fun e w'=>e=.returned (.int .i64 (a.tmod b))/\w'=w:=by
 go_enter Tryz.func209,Tryz.ntmps209
 go_wp2_with fail
 go_ret
 exact⟨rfl,rfl⟩
theorem wrap_i(n:Nat):IntKind.i64.wrap (n:Int)=wrap64 (n:Int):=IntWalk.i64_left _
theorem il(a:Int):(BitVec.ofInt IntKind.i64.bits a).toNat=U a:=by
 rw[BitVec.toNat_ofInt];unfold U;rw[IntKind.wrap_u64];rfl
theorem lG(a b:Int):bits .and .i64 a b=wrap64 (opN 6 (U a) (U b):Int):=by
 have e:bits .and .i64 a b=IntKind.i64.wrap (((BitVec.ofInt IntKind.i64.bits a &&& BitVec.ofInt IntKind.i64.bits b).toNat:Nat):Int):=rfl
 rw[e,BitVec.toNat_and,il,il];exact wrap_i (U a &&& U b)
theorem bits_or_U(a b:Int):bits .or .i64 a b=wrap64 (opN 7 (U a) (U b):Int):=by
 have e:bits .or .i64 a b=IntKind.i64.wrap (((BitVec.ofInt IntKind.i64.bits a ||| BitVec.ofInt IntKind.i64.bits b).toNat:Nat):Int):=rfl
 rw[e,BitVec.toNat_or,il,il];exact wrap_i (U a ||| U b)
theorem rU(a b:Int):bits .xor .i64 a b=wrap64 (opN 8 (U a) (U b):Int):=by
 have e:bits .xor .i64 a b=IntKind.i64.wrap (((BitVec.ofInt IntKind.i64.bits a ^^^ BitVec.ofInt IntKind.i64.bits b).toNat:Nat):Int):=rfl
 rw[e,BitVec.toNat_xor,il,il];exact wrap_i (U a ^^^ U b)
theorem U_63:U 63=63:=by decide
theorem and63i(b:Int):bits .and .i64 b 63=((U b % 64:Nat):Int):=by
 rw[lG,U_63]
 show wrap64 ((U b &&& 63:Nat):Int)=_
 rw[show (63:Nat)=2 ^ 6-1 from rfl,Nat.and_two_pow_sub_one_eq_mod]
 exact IntWalk.wrap64_in _ (by have:U b % 2 ^ 6<2 ^ 6:=Nat.mod_lt _ (by decide);omega)
theorem tmod_in(a b:Int)(ha:(Lit.int .i64 a).wf=true)(hb:(Lit.int .i64 b).wf=true)(hz:b≠0):wrap64 (a.tmod b)=a.tmod b:=by
 refine IntWalk.wrap64_in _ ?_
 have:=wf_i64_bd hb
 have e:(a.tmod b).natAbs<b.natAbs:=by rw[Int.natAbs_tmod];exact Nat.mod_lt _ (by omega)
 omega
set_option maxHeartbeats 800000 in
theorem cl_6(a b:Int)(w:World) :
 Calls Tryz.prog 210 #[.int .i64 a,.int .i64 b] w fun e w'=>e=.returned (.int .i64 (bits .and .i64 a b))/\w'=w:=by
 go_enter Tryz.func210,Tryz.ntmps210
 go_wp2_with fail
 go_ret
 exact⟨rfl,rfl⟩
theorem cl_7(a b:Int)(w:World) :
 Calls Tryz.prog 211 #[.int .i64 a,.int .i64 b] w fun e w'=>e=.returned (.int .i64 (bits .or .i64 a b))/\w'=w:=by
 go_enter Tryz.func211,Tryz.ntmps211
 go_wp2_with fail
 go_ret
 exact⟨rfl,rfl⟩
theorem cl_8(a b:Int)(w:World) :
 Calls Tryz.prog 212 #[.int .i64 a,.int .i64 b] w fun e w'=>e=.returned (.int .i64 (bits .xor .i64 a b))/\w'=w:=by
 go_enter Tryz.func212,Tryz.ntmps212
 go_wp2_with fail
 go_ret
 exact⟨rfl,rfl⟩
theorem cl_9(a b:Int)(w:World) :
 Calls Tryz.prog 213 #[.int .i64 a,.int .i64 b] w fun e w'=>e=.returned (.int .i64 (wrap64 (a*2 ^ (U b % 64))))/\w'=w:=by
 have HV:=and63i b
 have h64:U b % 64<64:=Nat.mod_lt _ (by decide)
 go_enter Tryz.func213,Tryz.ntmps213
 go_wp2_with fail
 go_ret
 exact⟨rfl,rfl⟩
theorem cl_10(a b:Int)(w:World) :
 Calls Tryz.prog 214 #[.int .i64 a,.int .i64 b] w fun e w'=>e=.returned (.int .i64 (a / 2 ^ (U b % 64)))/\w'=w:=by
 have HV:=and63i b
 have h64:U b % 64<64:=Nat.mod_lt _ (by decide)
 go_enter Tryz.func214,Tryz.ntmps214
 go_wp2_with fail
 go_ret
 exact⟨rfl,rfl⟩
theorem cl_11(a b:Int)(w:World) :
 Calls Tryz.prog 215 #[.int .i64 a,.int .i64 b] w fun e w'=>e=.returned (.int .i64 (eqI a b))/\w'=w:=by
 cases h:(a == b)
 ·have HV:=zH (show (0:Int)=eqI a b by unfold eqI;rw[if_neg (beq_eq_false_iff_ne.1 h)])
  go_enter Tryz.func215,Tryz.ntmps215
  go_wp2_with fail
  refine(ij _ _).mono ?_
  rintro e w1 ⟨rfl,rfl⟩
  go_wp2_with fail
  go_ret
  exact⟨cC HV.out,rfl⟩
 ·have HV:=zH (show (1:Int)=eqI a b by unfold eqI;rw[if_pos (beq_iff_eq.1 h)])
  go_enter Tryz.func215,Tryz.ntmps215
  go_wp2_with fail
  refine(ij _ _).mono ?_
  rintro e w1 ⟨rfl,rfl⟩
  go_wp2_with fail
  go_ret
  exact⟨cC HV.out,rfl⟩
theorem cl_12(a b:Int)(w:World) :
 Calls Tryz.prog 217 #[.int .i64 a,.int .i64 b] w fun e w'=>e=.returned (.int .i64 (mP a b))/\w'=w:=by
 by_cases h:a<b
 ·have HV:=zH (show (1:Int)=mP a b by unfold mP;rw[if_pos h])
  go_enter Tryz.func217,Tryz.ntmps217
  go_wp2_with fail
  refine(ij _ _).mono ?_
  rintro e w1 ⟨rfl,rfl⟩
  go_wp2_with fail
  go_ret
  exact⟨cC HV.out,rfl⟩
 ·have HV:=zH (show (0:Int)=mP a b by unfold mP;rw[if_neg h])
  go_enter Tryz.func217,Tryz.ntmps217
  go_wp2_with fail
  refine(ij _ _).mono ?_
  rintro e w1 ⟨rfl,rfl⟩
  go_wp2_with fail
  go_ret
  exact⟨cC HV.out,rfl⟩
end
section
open Go.RowKit
open Go.Maps (Keyed int_keyed keyOf_int_mk)
def k8(n:Int):Lit:=.int .u8 n
def dg:DataW Unit :=
 (((((((((((((DataW.map []).put (k8 1) (fnD 205)).put (k8 2) (fnD 206)).put (k8 3) (fnD 207)).put (k8 4) (fnD 208)).put (k8 5) (fnD 209)).put (k8 6) (fnD 210)).put (k8 7) (fnD 211)).put (k8 8) (fnD 212)).put (k8 9) (fnD 213)).put (k8 10) (fnD 214)).put (k8 11) (fnD 215)).put (k8 12) (fnD 217))
theorem law8:Keyed Tryz.prog 5:=int_keyed Tryz.underlying5
theorem wf8{a:Int}(h0:0<=a)(h1:a<=255):(Lit.int .u8 a).wf=true:=by
 simp only[Lit.wf,Bool.and_eq_true,decide_eq_true_eq];exact⟨h0,h1⟩
theorem key8{a:Int}(h0:0<=a)(h1:a<=255):keyOf Tryz.prog 5 (.int .u8 a)=some (k8 a):=keyOf_int_mk Tryz.underlying5 (wf8 h0 h1)
theorem zeroFn(w:World):(zeroValue 227).run Tryz.prog w=.ok .nilFunc w:=by kernel_rfl
set_option maxRecDepth 100000 in
set_option maxHeartbeats 3200000 in
theorem bD(op:Int)(h0:0<=op)(h1:op<=255)(w:World) :
 Calls Tryz.prog 176 #[.int .u8 op] w fun e w'=>∃v ps,e=.returned v/\gB v=some (dg.atKey (k8 op) .nil,ps)/\Below w.heap.size w w':=by
 have hmm:=@run_makeMap Tryz.prog
 have hkey:=zH (key8 h0 h1)
 clear h0 h1
 have hown:(w.alloc (.map #[] 0)).ownsMap Tryz.prog 5 gB w.heap.size 0 (.map []):=World.ownsMap_made _ _ _ _
 have hb:Below w.heap.size w (w.alloc (.map #[] 0)):=(Below.refl _ _).alloc (Nat.le_refl _) _
 go_enter Tryz.func176,Tryz.ntmps176
 go_wp2_with (first
  | (refine jh _ rfl _ _ _ 291 rfl 5 227 law8 Tryz.underlying291 gB w.heap.size _ _ rfl hown (by unfold maxLen;omega) _ _ _ rfl rfl (key8 (by omega) (by omega)) (fnD _) [] rfl ?_
     clear hown
     intro w1 hown hg
     have hb1:=hb.grown hg hb.size (fun k e=>by cases e;exact Nat.le_refl _)
     clear hb hg
     have hb:=hb1
     clear hb1)
  | (at_lookup
     refine jg _ rfl _ _ 291 rfl 5 227 law8 Tryz.underlying291 gB _ (zeroFn _) _ _ rfl w.heap.size _ _ rfl hown _ _ rfl hkey.out ?_
     intro v ps hv)
  | fail)
 go_ret
 exact⟨_,_,rfl,hv,hb⟩
end
section
open Go.RowKit
theorem ct{op a b x y:Int}(h:doI op a b=(x,y)):Ending.returned (.tuple #[.int .i64 x,.int .i64 y])=.returned (.tuple #[.int .i64 (doI op a b).1,.int .i64 (doI op a b).2]):=by rw[h]
theorem cL(g:Nat)(w:World):(Go.binOp .eql 227 (.func (.func g) #[] #[]) .nilFunc).run Tryz.prog w=.ok (.bool false) w:=by kernel_rfl
theorem eql_nil(w:World):(Go.binOp .eql 227 .nilFunc .nilFunc).run Tryz.prog w=.ok (.bool true) w:=by kernel_rfl
theorem doesD_out(op:Int)(h:op<1∨12<op):dg.atKey (k8 op) (.nil:DataW Unit)=.nil:=by
 have hne:∀k:Int,1<=k->k<=12->k8 op≠k8 k:=fun k h1 h2 e=>by
  have:op=k:=by injection e
  omega
 unfold dg
 rw[Go.Maps.atKey_put_other (hne 12 (by decide) (by decide))]
 rw[Go.Maps.atKey_put_other (hne 11 (by decide) (by decide))]
 rw[Go.Maps.atKey_put_other (hne 10 (by decide) (by decide))]
 rw[Go.Maps.atKey_put_other (hne 9 (by decide) (by decide))]
 rw[Go.Maps.atKey_put_other (hne 8 (by decide) (by decide))]
 rw[Go.Maps.atKey_put_other (hne 7 (by decide) (by decide))]
 rw[Go.Maps.atKey_put_other (hne 6 (by decide) (by decide))]
 rw[Go.Maps.atKey_put_other (hne 5 (by decide) (by decide))]
 rw[Go.Maps.atKey_put_other (hne 4 (by decide) (by decide))]
 rw[Go.Maps.atKey_put_other (hne 3 (by decide) (by decide))]
 rw[Go.Maps.atKey_put_other (hne 2 (by decide) (by decide))]
 rw[Go.Maps.atKey_put_other (hne 1 (by decide) (by decide))]
 rfl
set_option maxRecDepth 100000 in
set_option maxHeartbeats 1600000 in
theorem pdo_1(a b:Int)(w:World) :
 Calls Tryz.prog 126 #[.int .u8 1,.int .i64 a,.int .i64 b] w fun e w'=>e=.returned (.tuple #[.int .i64 (doI 1 a b).1,.int .i64 (doI 1 a b).2])/\Below w.heap.size w w':=by
 have hd:dg.atKey (k8 1) (.nil:DataW Unit)=fnD 205:=by kernel_rfl
 have HV:=zH (show doI 1 a b=(wrap64 (a+b),0) by rfl)
 have hnn:=cL 205
 go_enter Tryz.func126,Tryz.ntmps126
 go_wp2_with fail
 refine(bD 1 (by decide) (by decide) _).mono ?_
 rintro e w1 ⟨v,ps,rfl,hv,hb⟩
 rw[hd] at hv
 obtain rfl:=bm hv
 clear hv
 go_wp2_with fail
 refine(bp _ _).mono ?_
 rintro e w2 ⟨rfl,rfl⟩
 rw[show bR 1=false from by decide]
 go_wp2_with fail
 refine(cl_1 a b _).mono ?_
 rintro e w3 ⟨rfl,rfl⟩
 go_wp2_with fail
 go_ret2
 exact⟨ct HV.out,hb⟩
set_option maxRecDepth 100000 in
set_option maxHeartbeats 1600000 in
theorem pdo_2(a b:Int)(w:World) :
 Calls Tryz.prog 126 #[.int .u8 2,.int .i64 a,.int .i64 b] w fun e w'=>e=.returned (.tuple #[.int .i64 (doI 2 a b).1,.int .i64 (doI 2 a b).2])/\Below w.heap.size w w':=by
 have hd:dg.atKey (k8 2) (.nil:DataW Unit)=fnD 206:=by kernel_rfl
 have HV:=zH (show doI 2 a b=(wrap64 (a-b),0) by rfl)
 have hnn:=cL 206
 go_enter Tryz.func126,Tryz.ntmps126
 go_wp2_with fail
 refine(bD 2 (by decide) (by decide) _).mono ?_
 rintro e w1 ⟨v,ps,rfl,hv,hb⟩
 rw[hd] at hv
 obtain rfl:=bm hv
 clear hv
 go_wp2_with fail
 refine(bp _ _).mono ?_
 rintro e w2 ⟨rfl,rfl⟩
 rw[show bR 2=false from by decide]
 go_wp2_with fail
 refine(cl_2 a b _).mono ?_
 rintro e w3 ⟨rfl,rfl⟩
 go_wp2_with fail
 go_ret2
 exact⟨ct HV.out,hb⟩
set_option maxRecDepth 100000 in
set_option maxHeartbeats 1600000 in
theorem pdo_3(a b:Int)(w:World) :
 Calls Tryz.prog 126 #[.int .u8 3,.int .i64 a,.int .i64 b] w fun e w'=>e=.returned (.tuple #[.int .i64 (doI 3 a b).1,.int .i64 (doI 3 a b).2])/\Below w.heap.size w w':=by
 have hd:dg.atKey (k8 3) (.nil:DataW Unit)=fnD 207:=by kernel_rfl
 have HV:=zH (show doI 3 a b=(wrap64 (a*b),0) by rfl)
 have hnn:=cL 207
 go_enter Tryz.func126,Tryz.ntmps126
 go_wp2_with fail
 refine(bD 3 (by decide) (by decide) _).mono ?_
 rintro e w1 ⟨v,ps,rfl,hv,hb⟩
 rw[hd] at hv
 obtain rfl:=bm hv
 clear hv
 go_wp2_with fail
 refine(bp _ _).mono ?_
 rintro e w2 ⟨rfl,rfl⟩
 rw[show bR 3=false from by decide]
 go_wp2_with fail
 refine(cl_3 a b _).mono ?_
 rintro e w3 ⟨rfl,rfl⟩
 go_wp2_with fail
 go_ret2
 exact⟨ct HV.out,hb⟩
set_option maxRecDepth 100000 in
set_option maxHeartbeats 1600000 in
theorem pdo_4(a b:Int)(ha:(Lit.int .i64 a).wf=true)(hb0:(Lit.int .i64 b).wf=true)(hz:b≠0)(w:World) :
 Calls Tryz.prog 126 #[.int .u8 4,.int .i64 a,.int .i64 b] w fun e w'=>e=.returned (.tuple #[.int .i64 (doI 4 a b).1,.int .i64 (doI 4 a b).2])/\Below w.heap.size w w':=by
 have hd:dg.atKey (k8 4) (.nil:DataW Unit)=fnD 208:=by kernel_rfl
 have HV:=zH (show doI 4 a b=(wrap64 (a.tdiv b),0) by unfold doI;rw[if_neg (by decide),if_neg (fun e=>hz e.2)];rfl)
 have HZ:=zH hz
 have hq:(b == 0)=false:=by rw[beq_eq_false_iff_ne];exact hz
 clear ha hb0 hz
 have hnn:=cL 208
 go_enter Tryz.func126,Tryz.ntmps126
 go_wp2_with fail
 refine(bD 4 (by decide) (by decide) _).mono ?_
 rintro e w1 ⟨v,ps,rfl,hv,hb⟩
 rw[hd] at hv
 obtain rfl:=bm hv
 clear hv
 go_wp2_with fail
 refine(bp _ _).mono ?_
 rintro e w2 ⟨rfl,rfl⟩
 rw[show bR 4=true from by decide]
 go_wp2_with fail
 refine(cl_4 a b HZ.out _).mono ?_
 rintro e w3 ⟨rfl,rfl⟩
 go_wp2_with fail
 go_ret2
 exact⟨ct HV.out,hb⟩
set_option maxRecDepth 100000 in
set_option maxHeartbeats 1600000 in
theorem pdo_4z(a b:Int)(hz:b=0)(w:World) :
 Calls Tryz.prog 126 #[.int .u8 4,.int .i64 a,.int .i64 b] w fun e w'=>e=.returned (.tuple #[.int .i64 (doI 4 a b).1,.int .i64 (doI 4 a b).2])/\Below w.heap.size w w':=by
 have hd:dg.atKey (k8 4) (.nil:DataW Unit)=fnD 208:=by kernel_rfl
 have HV:=zH (show doI 4 a b=(0,20) by unfold doI;rw[if_neg (by decide),if_pos ⟨by decide,hz⟩])
 have hq:(b == 0)=true:=by rw[beq_iff_eq];exact hz
 clear hz
 have hnn:=cL 208
 go_enter Tryz.func126,Tryz.ntmps126
 go_wp2_with fail
 refine(bD 4 (by decide) (by decide) _).mono ?_
 rintro e w1 ⟨v,ps,rfl,hv,hb⟩
 rw[hd] at hv
 obtain rfl:=bm hv
 clear hv
 go_wp2_with fail
 refine(bp _ _).mono ?_
 rintro e w2 ⟨rfl,rfl⟩
 rw[show bR 4=true from by decide]
 go_wp2_with fail
 go_ret2
 exact⟨ct HV.out,hb⟩
set_option maxRecDepth 100000 in
set_option maxHeartbeats 1600000 in
theorem pdo_5(a b:Int)(ha:(Lit.int .i64 a).wf=true)(hb0:(Lit.int .i64 b).wf=true)(hz:b≠0)(w:World) :
 Calls Tryz.prog 126 #[.int .u8 5,.int .i64 a,.int .i64 b] w fun e w'=>e=.returned (.tuple #[.int .i64 (doI 5 a b).1,.int .i64 (doI 5 a b).2])/\Below w.heap.size w w':=by
 have hd:dg.atKey (k8 5) (.nil:DataW Unit)=fnD 209:=by kernel_rfl
 have HV:=zH (show doI 5 a b=(a.tmod b,0) by rw[<-tmod_in a b ha hb0 hz];unfold doI;rw[if_neg (by decide),if_neg (fun e=>hz e.2)];rfl)
 have HZ:=zH hz
 have hq:(b == 0)=false:=by rw[beq_eq_false_iff_ne];exact hz
 clear ha hb0 hz
 have hnn:=cL 209
 go_enter Tryz.func126,Tryz.ntmps126
 go_wp2_with fail
 refine(bD 5 (by decide) (by decide) _).mono ?_
 rintro e w1 ⟨v,ps,rfl,hv,hb⟩
 rw[hd] at hv
 obtain rfl:=bm hv
 clear hv
 go_wp2_with fail
 refine(bp _ _).mono ?_
 rintro e w2 ⟨rfl,rfl⟩
 rw[show bR 5=true from by decide]
 go_wp2_with fail
 refine(cl_5 a b HZ.out _).mono ?_
 rintro e w3 ⟨rfl,rfl⟩
 go_wp2_with fail
 go_ret2
 exact⟨ct HV.out,hb⟩
set_option maxRecDepth 100000 in
set_option maxHeartbeats 1600000 in
theorem pdo_5z(a b:Int)(hz:b=0)(w:World) :
 Calls Tryz.prog 126 #[.int .u8 5,.int .i64 a,.int .i64 b] w fun e w'=>e=.returned (.tuple #[.int .i64 (doI 5 a b).1,.int .i64 (doI 5 a b).2])/\Below w.heap.size w w':=by
 have hd:dg.atKey (k8 5) (.nil:DataW Unit)=fnD 209:=by kernel_rfl
 have HV:=zH (show doI 5 a b=(0,20) by unfold doI;rw[if_neg (by decide),if_pos ⟨by decide,hz⟩])
 have hq:(b == 0)=true:=by rw[beq_iff_eq];exact hz
 clear hz
 have hnn:=cL 209
 go_enter Tryz.func126,Tryz.ntmps126
 go_wp2_with fail
 refine(bD 5 (by decide) (by decide) _).mono ?_
 rintro e w1 ⟨v,ps,rfl,hv,hb⟩
 rw[hd] at hv
 obtain rfl:=bm hv
 clear hv
 go_wp2_with fail
 refine(bp _ _).mono ?_
 rintro e w2 ⟨rfl,rfl⟩
 rw[show bR 5=true from by decide]
 go_wp2_with fail
 go_ret2
 exact⟨ct HV.out,hb⟩
set_option maxRecDepth 100000 in
set_option maxHeartbeats 1600000 in
theorem pdo_6(a b:Int)(w:World) :
 Calls Tryz.prog 126 #[.int .u8 6,.int .i64 a,.int .i64 b] w fun e w'=>e=.returned (.tuple #[.int .i64 (doI 6 a b).1,.int .i64 (doI 6 a b).2])/\Below w.heap.size w w':=by
 have hd:dg.atKey (k8 6) (.nil:DataW Unit)=fnD 210:=by kernel_rfl
 have HV:=zH (show doI 6 a b=(bits .and .i64 a b,0) by rw[lG];rfl)
 have hnn:=cL 210
 go_enter Tryz.func126,Tryz.ntmps126
 go_wp2_with fail
 refine(bD 6 (by decide) (by decide) _).mono ?_
 rintro e w1 ⟨v,ps,rfl,hv,hb⟩
 rw[hd] at hv
 obtain rfl:=bm hv
 clear hv
 go_wp2_with fail
 refine(bp _ _).mono ?_
 rintro e w2 ⟨rfl,rfl⟩
 rw[show bR 6=false from by decide]
 go_wp2_with fail
 refine(cl_6 a b _).mono ?_
 rintro e w3 ⟨rfl,rfl⟩
 go_wp2_with fail
 go_ret2
 exact⟨ct HV.out,hb⟩
set_option maxRecDepth 100000 in
set_option maxHeartbeats 1600000 in
theorem pdo_7(a b:Int)(w:World) :
 Calls Tryz.prog 126 #[.int .u8 7,.int .i64 a,.int .i64 b] w fun e w'=>e=.returned (.tuple #[.int .i64 (doI 7 a b).1,.int .i64 (doI 7 a b).2])/\Below w.heap.size w w':=by
 have hd:dg.atKey (k8 7) (.nil:DataW Unit)=fnD 211:=by kernel_rfl
 have HV:=zH (show doI 7 a b=(bits .or .i64 a b,0) by rw[bits_or_U];rfl)
 have hnn:=cL 211
 go_enter Tryz.func126,Tryz.ntmps126
 go_wp2_with fail
 refine(bD 7 (by decide) (by decide) _).mono ?_
 rintro e w1 ⟨v,ps,rfl,hv,hb⟩
 rw[hd] at hv
 obtain rfl:=bm hv
 clear hv
 go_wp2_with fail
 refine(bp _ _).mono ?_
 rintro e w2 ⟨rfl,rfl⟩
 rw[show bR 7=false from by decide]
 go_wp2_with fail
 refine(cl_7 a b _).mono ?_
 rintro e w3 ⟨rfl,rfl⟩
 go_wp2_with fail
 go_ret2
 exact⟨ct HV.out,hb⟩
set_option maxRecDepth 100000 in
set_option maxHeartbeats 1600000 in
theorem pdo_8(a b:Int)(w:World) :
 Calls Tryz.prog 126 #[.int .u8 8,.int .i64 a,.int .i64 b] w fun e w'=>e=.returned (.tuple #[.int .i64 (doI 8 a b).1,.int .i64 (doI 8 a b).2])/\Below w.heap.size w w':=by
 have hd:dg.atKey (k8 8) (.nil:DataW Unit)=fnD 212:=by kernel_rfl
 have HV:=zH (show doI 8 a b=(bits .xor .i64 a b,0) by rw[rU];rfl)
 have hnn:=cL 212
 go_enter Tryz.func126,Tryz.ntmps126
 go_wp2_with fail
 refine(bD 8 (by decide) (by decide) _).mono ?_
 rintro e w1 ⟨v,ps,rfl,hv,hb⟩
 rw[hd] at hv
 obtain rfl:=bm hv
 clear hv
 go_wp2_with fail
 refine(bp _ _).mono ?_
 rintro e w2 ⟨rfl,rfl⟩
 rw[show bR 8=false from by decide]
 go_wp2_with fail
 refine(cl_8 a b _).mono ?_
 rintro e w3 ⟨rfl,rfl⟩
 go_wp2_with fail
 go_ret2
 exact⟨ct HV.out,hb⟩
set_option maxRecDepth 100000 in
set_option maxHeartbeats 1600000 in
theorem pdo_9(a b:Int)(w:World) :
 Calls Tryz.prog 126 #[.int .u8 9,.int .i64 a,.int .i64 b] w fun e w'=>e=.returned (.tuple #[.int .i64 (doI 9 a b).1,.int .i64 (doI 9 a b).2])/\Below w.heap.size w w':=by
 have hd:dg.atKey (k8 9) (.nil:DataW Unit)=fnD 213:=by kernel_rfl
 have HV:=zH (show doI 9 a b=(wrap64 (a*2 ^ (U b % 64)),0) by rfl)
 have hnn:=cL 213
 go_enter Tryz.func126,Tryz.ntmps126
 go_wp2_with fail
 refine(bD 9 (by decide) (by decide) _).mono ?_
 rintro e w1 ⟨v,ps,rfl,hv,hb⟩
 rw[hd] at hv
 obtain rfl:=bm hv
 clear hv
 go_wp2_with fail
 refine(bp _ _).mono ?_
 rintro e w2 ⟨rfl,rfl⟩
 rw[show bR 9=false from by decide]
 go_wp2_with fail
 refine(cl_9 a b _).mono ?_
 rintro e w3 ⟨rfl,rfl⟩
 go_wp2_with fail
 go_ret2
 exact⟨ct HV.out,hb⟩
set_option maxRecDepth 100000 in
set_option maxHeartbeats 1600000 in
theorem pdo_10(a b:Int)(w:World) :
 Calls Tryz.prog 126 #[.int .u8 10,.int .i64 a,.int .i64 b] w fun e w'=>e=.returned (.tuple #[.int .i64 (doI 10 a b).1,.int .i64 (doI 10 a b).2])/\Below w.heap.size w w':=by
 have hd:dg.atKey (k8 10) (.nil:DataW Unit)=fnD 214:=by kernel_rfl
 have HV:=zH (show doI 10 a b=(a / 2 ^ (U b % 64),0) by rfl)
 have hnn:=cL 214
 go_enter Tryz.func126,Tryz.ntmps126
 go_wp2_with fail
 refine(bD 10 (by decide) (by decide) _).mono ?_
 rintro e w1 ⟨v,ps,rfl,hv,hb⟩
 rw[hd] at hv
 obtain rfl:=bm hv
 clear hv
 go_wp2_with fail
 refine(bp _ _).mono ?_
 rintro e w2 ⟨rfl,rfl⟩
 rw[show bR 10=false from by decide]
 go_wp2_with fail
 refine(cl_10 a b _).mono ?_
 rintro e w3 ⟨rfl,rfl⟩
 go_wp2_with fail
 go_ret2
 exact⟨ct HV.out,hb⟩
set_option maxRecDepth 100000 in
set_option maxHeartbeats 1600000 in
theorem pdo_11(a b:Int)(w:World) :
 Calls Tryz.prog 126 #[.int .u8 11,.int .i64 a,.int .i64 b] w fun e w'=>e=.returned (.tuple #[.int .i64 (doI 11 a b).1,.int .i64 (doI 11 a b).2])/\Below w.heap.size w w':=by
 have hd:dg.atKey (k8 11) (.nil:DataW Unit)=fnD 215:=by kernel_rfl
 have HV:=zH (show doI 11 a b=(eqI a b,0) by show ((if a=b then 1 else 0:Int),(0:Int))=_;rfl)
 have hnn:=cL 215
 go_enter Tryz.func126,Tryz.ntmps126
 go_wp2_with fail
 refine(bD 11 (by decide) (by decide) _).mono ?_
 rintro e w1 ⟨v,ps,rfl,hv,hb⟩
 rw[hd] at hv
 obtain rfl:=bm hv
 clear hv
 go_wp2_with fail
 refine(bp _ _).mono ?_
 rintro e w2 ⟨rfl,rfl⟩
 rw[show bR 11=false from by decide]
 go_wp2_with fail
 refine(cl_11 a b _).mono ?_
 rintro e w3 ⟨rfl,rfl⟩
 go_wp2_with fail
 go_ret2
 exact⟨ct HV.out,hb⟩
set_option maxRecDepth 100000 in
set_option maxHeartbeats 1600000 in
theorem pdo_12(a b:Int)(w:World) :
 Calls Tryz.prog 126 #[.int .u8 12,.int .i64 a,.int .i64 b] w fun e w'=>e=.returned (.tuple #[.int .i64 (doI 12 a b).1,.int .i64 (doI 12 a b).2])/\Below w.heap.size w w':=by
 have hd:dg.atKey (k8 12) (.nil:DataW Unit)=fnD 217:=by kernel_rfl
 have HV:=zH (show doI 12 a b=(mP a b,0) by show ((if a<b then 1 else 0:Int),(0:Int))=_;rfl)
 have hnn:=cL 217
 go_enter Tryz.func126,Tryz.ntmps126
 go_wp2_with fail
 refine(bD 12 (by decide) (by decide) _).mono ?_
 rintro e w1 ⟨v,ps,rfl,hv,hb⟩
 rw[hd] at hv
 obtain rfl:=bm hv
 clear hv
 go_wp2_with fail
 refine(bp _ _).mono ?_
 rintro e w2 ⟨rfl,rfl⟩
 rw[show bR 12=false from by decide]
 go_wp2_with fail
 refine(cl_12 a b _).mono ?_
 rintro e w3 ⟨rfl,rfl⟩
 go_wp2_with fail
 go_ret2
 exact⟨ct HV.out,hb⟩
set_option maxRecDepth 100000 in
set_option maxHeartbeats 1600000 in
theorem pdo_out(op a b:Int)(ho:op<1∨12<op)(h0:0<=op)(h1:op<=255)(w:World) :
 Calls Tryz.prog 126 #[.int .u8 op,.int .i64 a,.int .i64 b] w fun e w'=>e=.returned (.tuple #[.int .i64 (doI op a b).1,.int .i64 (doI op a b).2])/\Below w.heap.size w w':=by
 have HD:=zH (doesD_out op ho)
 have HV:=zH (show doI op a b=(0,1) by unfold doI;rw[if_pos ho])
 have H0:=zH h0
 have H1:=zH h1
 clear ho h0 h1
 have hnn:=eql_nil
 go_enter Tryz.func126,Tryz.ntmps126
 go_wp2_with fail
 refine(bD op H0.out H1.out _).mono ?_
 rintro e w1 ⟨v,ps,rfl,hv,hb⟩
 rw[HD.out] at hv
 obtain rfl:=ru hv
 clear hv
 go_wp2_with fail
 go_ret2
 exact⟨ct HV.out,hb⟩
theorem do_any(op a b:Int)(h0:0<=op)(h1:op<=255)(ha:(Lit.int .i64 a).wf=true)(hb:(Lit.int .i64 b).wf=true)(w:World) :
 Calls Tryz.prog 126 #[.int .u8 op,.int .i64 a,.int .i64 b] w fun e w'=>e=.returned (.tuple #[.int .i64 (doI op a b).1,.int .i64 (doI op a b).2])/\Below w.heap.size w w':=by
 by_cases ho:op<1∨12<op
 ·exact pdo_out op a b ho h0 h1 w
 ·rcases (show op=1∨op=2∨op=3∨op=4∨op=5∨op=6∨op=7∨op=8∨op=9∨op=10∨op=11∨op=12 by omega) with rfl | rfl | rfl | rfl | rfl | rfl | rfl | rfl | rfl | rfl | rfl | rfl
  ·exact pdo_1 a b w
  ·exact pdo_2 a b w
  ·exact pdo_3 a b w
  ·by_cases hz:b=0
   ·exact pdo_4z a b hz w
   ·exact pdo_4 a b ha hb hz w
  ·by_cases hz:b=0
   ·exact pdo_5z a b hz w
   ·exact pdo_5 a b ha hb hz w
  ·exact pdo_6 a b w
  ·exact pdo_7 a b w
  ·exact pdo_8 a b w
  ·exact pdo_9 a b w
  ·exact pdo_10 a b w
  ·exact pdo_11 a b w
  ·exact pdo_12 a b w
end
end Go.Proofs.YtjngffgkllakaaaGreatDoor
namespace Go.Proofs.YtjngffgkllakaaaGreatDoor.IP
open List renaming getElem_toArray → zA, getElem_cons_succ → zB, getElem_cons_zero → zC, setIfInBounds_toArray → zD, set_cons_zero → zE, set_cons_succ → zF
open Lib renaming hid → zH
section
open Go.RowKit
def DoA(k:Int)(e:Ending):Prop:=∃z:Int,e=.returned (.tuple #[.int .i64 z,.int .i64 k])
set_option maxRecDepth 100000 in
set_option maxHeartbeats 1600000 in
theorem do_4(a b:Int)(hz:b≠0)(w:World) :
 Calls Tryz.prog 126 #[.int .u8 4,.int .i64 a,.int .i64 b] w fun e w'=>DoA 0 e/\Below w.heap.size w w':=by
 have hd:dg.atKey (k8 4) (.nil:DataW Unit)=fnD 208:=by kernel_rfl
 have HZ:=zH hz
 have hq:(b == 0)=false:=by rw[beq_eq_false_iff_ne];exact hz
 clear hz
 have hnn:=cL 208
 go_enter Tryz.func126,Tryz.ntmps126
 go_wp2_with fail
 refine(bD 4 (by decide) (by decide) _).mono ?_
 rintro e w1 ⟨v,ps,rfl,hv,hb⟩
 rw[hd] at hv
 obtain rfl:=bm hv
 clear hv
 go_wp2_with fail
 refine(bp _ _).mono ?_
 rintro e w2 ⟨rfl,rfl⟩
 rw[show bR 4=true from by decide]
 go_wp2_with fail
 refine(cl_4 a b HZ.out _).mono ?_
 rintro e w3 ⟨rfl,rfl⟩
 go_wp2_with fail
 go_ret2
 exact⟨⟨_,rfl⟩,hb⟩
set_option maxRecDepth 100000 in
set_option maxHeartbeats 1600000 in
theorem do_5(a b:Int)(hz:b≠0)(w:World) :
 Calls Tryz.prog 126 #[.int .u8 5,.int .i64 a,.int .i64 b] w fun e w'=>DoA 0 e/\Below w.heap.size w w':=by
 have hd:dg.atKey (k8 5) (.nil:DataW Unit)=fnD 209:=by kernel_rfl
 have HZ:=zH hz
 have hq:(b == 0)=false:=by rw[beq_eq_false_iff_ne];exact hz
 clear hz
 have hnn:=cL 209
 go_enter Tryz.func126,Tryz.ntmps126
 go_wp2_with fail
 refine(bD 5 (by decide) (by decide) _).mono ?_
 rintro e w1 ⟨v,ps,rfl,hv,hb⟩
 rw[hd] at hv
 obtain rfl:=bm hv
 clear hv
 go_wp2_with fail
 refine(bp _ _).mono ?_
 rintro e w2 ⟨rfl,rfl⟩
 rw[show bR 5=true from by decide]
 go_wp2_with fail
 refine(cl_5 a b HZ.out _).mono ?_
 rintro e w3 ⟨rfl,rfl⟩
 go_wp2_with fail
 go_ret2
 exact⟨⟨_,rfl⟩,hb⟩
theorem dJ{op a b:Int}{k:Int}(h:(doI op a b).2=k){e:Ending}(he:e=.returned (.tuple #[.int .i64 (doI op a b).1,.int .i64 (doI op a b).2])):DoA k e:=⟨_,by rw[he,h]⟩
theorem do_ok(op a b:Int)(ho:1<=op/\op<=12)(hx:¬((op=4∨op=5)/\b=0))(w:World):Calls Tryz.prog 126 #[.int .u8 op,.int .i64 a,.int .i64 b] w fun e w'=>DoA 0 e/\Below w.heap.size w w':=by
 rcases (show op=1∨op=2∨op=3∨op=4∨op=5∨op=6∨op=7∨op=8∨op=9∨op=10∨op=11∨op=12 by omega) with rfl | rfl | rfl | rfl | rfl | rfl | rfl | rfl | rfl | rfl | rfl | rfl
 ·exact(pdo_1 a b w).mono fun e w' h=>⟨dJ (by unfold doI;rfl) h.1,h.2⟩
 ·exact(pdo_2 a b w).mono fun e w' h=>⟨dJ (by unfold doI;rfl) h.1,h.2⟩
 ·exact(pdo_3 a b w).mono fun e w' h=>⟨dJ (by unfold doI;rfl) h.1,h.2⟩
 ·exact do_4 a b (fun e=>hx ⟨.inl rfl,e⟩) w
 ·exact do_5 a b (fun e=>hx ⟨.inr rfl,e⟩) w
 ·exact(pdo_6 a b w).mono fun e w' h=>⟨dJ (by unfold doI;rfl) h.1,h.2⟩
 ·exact(pdo_7 a b w).mono fun e w' h=>⟨dJ (by unfold doI;rfl) h.1,h.2⟩
 ·exact(pdo_8 a b w).mono fun e w' h=>⟨dJ (by unfold doI;rfl) h.1,h.2⟩
 ·exact(pdo_9 a b w).mono fun e w' h=>⟨dJ (by unfold doI;rfl) h.1,h.2⟩
 ·exact(pdo_10 a b w).mono fun e w' h=>⟨dJ (by unfold doI;rfl) h.1,h.2⟩
 ·exact(pdo_11 a b w).mono fun e w' h=>⟨dJ (by unfold doI;rfl) h.1,h.2⟩
 ·exact(pdo_12 a b w).mono fun e w' h=>⟨dJ (by unfold doI;rfl) h.1,h.2⟩
theorem do_bad(op a b:Int)(hx:(op=4∨op=5)/\b=0)(w:World):Calls Tryz.prog 126 #[.int .u8 op,.int .i64 a,.int .i64 b] w fun e w'=>DoA 20 e/\Below w.heap.size w w':=by
 obtain⟨rfl | rfl,hz⟩:=hx
 ·exact(pdo_4z a b hz w).mono fun e w' h=>⟨dJ (by unfold doI;rw[if_neg (by decide),if_pos ⟨.inl rfl,hz⟩]) h.1,h.2⟩
 ·exact(pdo_5z a b hz w).mono fun e w' h=>⟨dJ (by unfold doI;rw[if_neg (by decide),if_pos ⟨.inr rfl,hz⟩]) h.1,h.2⟩
end
section
open Go.RowKit
open CD (OpP BodyP CodeP ae blAt fnAt)
set_option maxRecDepth 100000 in
set_option maxHeartbeats 3200000 in
theorem do_bin{K:Kst}{mf m:Nat}{W0 W:World}{fs:List FrS}{f:FrS}{st:Int}(h:Doing K mf W0 W fs f st m)(d a b:Nat)(o:Int)(ho:1<=o/\o<=12)(hd:d<K.va f.num)(ha:a<K.va f.num)(hb:b<K.va f.num)(hi:insK K f=.iface 200 (.agg #[.int .i64 d,.int .u8 o,.int .i64 a,.int .i64 b]))(hz:¬f.pl+1=K.len f.num f.bl) :
 Calls Tryz.prog 82 #[.pointer (some ⟨K.Rb,0,none⟩),.pointer (some ⟨f.fb,0,none⟩)] W fun e w'=>DoE K mf W0 fs f st m e w':=by
 obtain⟨q,cap,ht,_⟩:=h.g.top
 obtain⟨b1,b2,b3,b4⟩:=h.bounds
 have HI:=zH hi
 have G:=zH h.g
 have HT:=zH ht
 have HH:=zH h
 have HZ:=zH hz
 clear hz
 have HD:=zH (And.intro hd (And.intro ha hb))
 have HO:=zH ho
 clear hd ha hb ho
 have n_constant:=@bC 200 (by decide) (.agg #[.int .i64 d,.int .u8 o,.int .i64 a,.int .i64 b])
 have y_binary:=rP (.agg #[.int .i64 d,.int .u8 o,.int .i64 a,.int .i64 b])
 clear h hi ht
 go_enter Tryz.func82,Tryz.ntmps82
 go_upto_region 6 with(go_at_call 124;refine(ck HT.out ⟨b2,b3⟩).mono ?_;rintro e w1 ⟨rfl,d1,hw1⟩;rw[HI.out];have HW:=zH hw1;clear hw1)
 obtain⟨w2,ew2⟩:∃w2,w2=w1.alloc (.cells #[.int .i64 d,.int .u8 o,.int .i64 a,.int .i64 b] 200):=⟨_,rfl⟩
 rw[<-ew2]
 obtain⟨g2,ho2,hb2,hB2⟩:=G.out.held HW.out ew2
 have HO2:=zH ho2
 have G2:=zH g2
 obtain⟨y0,y1,y2,y3⟩:=obj4 ho2
 obtain⟨vg,c2,hva,hvB,hnv,hv,hfz,hset⟩:=g2.vals
 obtain⟨hd,ha,hb⟩:=HD.out
 have hm:=HH.out.ok.most
 have i1:(0:Int)<=d/\(d:Int)<K.most:=by omega
 have i2:(0:Int)<=a/\(a:Int)<K.most:=by omega
 have i3:(0:Int)<=b/\(b:Int)<K.most:=by omega
 have hfr2:=g2.frm _ _ (aQ _ _)
 have hB3:K.B0<=w2.heap.size:=Nat.le_trans hB2 hb2.size
 have HK:=zH (show ∀V,Kept K (fun _=>False) w2 V->(fun V=>Kept K (fun _=>False) w2 V/\V.cell? ⟨f.fb,2,none⟩=some (.slice (some ⟨vg,0,none⟩) K.most K.most)/\V.cell? ⟨w1.heap.size,0,none⟩=some (.int .i64 d)/\V.cell? ⟨w1.heap.size,1,none⟩=some (.int .u8 o)/\V.cell? ⟨w1.heap.size,2,none⟩=some (.int .i64 a)/\V.cell? ⟨w1.heap.size,3,none⟩=some (.int .i64 b)) V from fun V hV=>⟨hV,hV.cell hfr2 (by decide) (fun e=>e) c2,hV.cell ho2 (by decide) (fun e=>e) y0,hV.cell ho2 (by decide) (fun e=>e) y1,hV.cell ho2 (by decide) (fun e=>e) y2,hV.cell ho2 (by decide) (fun e=>e) y3⟩)
 obtain⟨za,hza⟩:=hv a ha
 obtain⟨zb,hzb⟩:=hv b hb
 have HN:=zH hnv
 have HK3:=zH (Kept.refl (X:=fun _=>False) hB3).drew
 clear hv hnv hfz hset ew2 ho2 hfr2 y0 y1 y2 y3 c2 g2
 refine wp_region_held_drew (S:=(fun V=>Kept K (fun _=>False) w2 V/\V.cell? ⟨f.fb,2,none⟩=some (.slice (some ⟨vg,0,none⟩) K.most K.most)/\V.cell? ⟨w1.heap.size,0,none⟩=some (.int .i64 d)/\V.cell? ⟨w1.heap.size,1,none⟩=some (.int .u8 o)/\V.cell? ⟨w1.heap.size,2,none⟩=some (.int .i64 a)/\V.cell? ⟨w1.heap.size,3,none⟩=some (.int .i64 b))) (by kernel_rfl) ?_ (fun hHeld=>?_)
 ·exact HK.out _ HK3.out
 refine tkV 0 (.pointer (some ⟨f.fb,0,none⟩)) rfl (fun W hSW=>?_) hHeld ?_
 ·((try dsimp only at hSW);go_split_ands;go_simp <;> with_reducible rfl)
 try simp only[zA,zB,zC,Act.put,zD,zE,zF]
 refine tkV 1 (.pointer (some ⟨f.fb,0,none⟩)) rfl (fun W hSW=>?_) hHeld ?_
 ·((try dsimp only at hSW);go_split_ands;go_simp <;> with_reducible rfl)
 try simp only[zA,zB,zC,Act.put,zD,zE,zF]
 refine tkV 2 (.pointer (some ⟨f.fb,2,none⟩)) rfl (fun W hSW=>?_) hHeld ?_
 ·((try dsimp only at hSW);go_split_ands;go_simp <;> with_reducible rfl)
 try simp only[zA,zB,zC,Act.put,zD,zE,zF]
 refine tkV 3 (.slice (some ⟨vg,0,none⟩) K.most K.most) rfl (fun W hSW=>?_) hHeld ?_
 ·((try dsimp only at hSW);go_split_ands;go_simp <;> with_reducible rfl)
 try simp only[zA,zB,zC,Act.put,zD,zE,zF]
 refine tkV 4 (.pointer (some ⟨w1.heap.size,0,none⟩)) rfl (fun W hSW=>?_) hHeld ?_
 ·((try dsimp only at hSW);go_split_ands;go_simp <;> with_reducible rfl)
 try simp only[zA,zB,zC,Act.put,zD,zE,zF]
 refine tkV 5 (.int .i64 d) rfl (fun W hSW=>?_) hHeld ?_
 ·((try dsimp only at hSW);go_split_ands;go_simp <;> with_reducible rfl)
 try simp only[zA,zB,zC,Act.put,zD,zE,zF]
 refine tkV 6 (.pointer (some ⟨w1.heap.size,1,none⟩)) rfl (fun W hSW=>?_) hHeld ?_
 ·((try dsimp only at hSW);go_split_ands;go_simp <;> with_reducible rfl)
 try simp only[zA,zB,zC,Act.put,zD,zE,zF]
 refine tkV 7 (.int .u8 o) rfl (fun W hSW=>?_) hHeld ?_
 ·((try dsimp only at hSW);go_split_ands;go_simp <;> with_reducible rfl)
 try simp only[zA,zB,zC,Act.put,zD,zE,zF]
 refine tkV 8 (.pointer (some ⟨f.fb,0,none⟩)) rfl (fun W hSW=>?_) hHeld ?_
 ·((try dsimp only at hSW);go_split_ands;go_simp <;> with_reducible rfl)
 try simp only[zA,zB,zC,Act.put,zD,zE,zF]
 refine tkV 9 (.pointer (some ⟨f.fb,0,none⟩)) rfl (fun W hSW=>?_) hHeld ?_
 ·((try dsimp only at hSW);go_split_ands;go_simp <;> with_reducible rfl)
 try simp only[zA,zB,zC,Act.put,zD,zE,zF]
 refine tkV 10 (.pointer (some ⟨f.fb,2,none⟩)) rfl (fun W hSW=>?_) hHeld ?_
 ·((try dsimp only at hSW);go_split_ands;go_simp <;> with_reducible rfl)
 try simp only[zA,zB,zC,Act.put,zD,zE,zF]
 refine tkV 11 (.slice (some ⟨vg,0,none⟩) K.most K.most) rfl (fun W hSW=>?_) hHeld ?_
 ·((try dsimp only at hSW);go_split_ands;go_simp <;> with_reducible rfl)
 try simp only[zA,zB,zC,Act.put,zD,zE,zF]
 refine tkV 12 (.pointer (some ⟨w1.heap.size,2,none⟩)) rfl (fun W hSW=>?_) hHeld ?_
 ·((try dsimp only at hSW);go_split_ands;go_simp <;> with_reducible rfl)
 try simp only[zA,zB,zC,Act.put,zD,zE,zF]
 refine tkV 13 (.int .i64 a) rfl (fun W hSW=>?_) hHeld ?_
 ·((try dsimp only at hSW);go_split_ands;go_simp <;> with_reducible rfl)
 try simp only[zA,zB,zC,Act.put,zD,zE,zF]
 refine tkV 14 (.pointer (some ⟨vg,a,none⟩)) rfl (fun W hSW=>?_) hHeld ?_
 ·((try dsimp only at hSW);go_split_ands;go_simp <;> with_reducible rfl)
 try simp only[zA,zB,zC,Act.put,zD,zE,zF]
 refine tkV 16 (.pointer (some ⟨f.fb,0,none⟩)) rfl (fun W hSW=>?_) hHeld ?_
 ·((try dsimp only at hSW);go_split_ands;go_simp <;> with_reducible rfl)
 try simp only[zA,zB,zC,Act.put,zD,zE,zF]
 refine tkV 17 (.pointer (some ⟨f.fb,0,none⟩)) rfl (fun W hSW=>?_) hHeld ?_
 ·((try dsimp only at hSW);go_split_ands;go_simp <;> with_reducible rfl)
 try simp only[zA,zB,zC,Act.put,zD,zE,zF]
 refine tkV 18 (.pointer (some ⟨f.fb,2,none⟩)) rfl (fun W hSW=>?_) hHeld ?_
 ·((try dsimp only at hSW);go_split_ands;go_simp <;> with_reducible rfl)
 try simp only[zA,zB,zC,Act.put,zD,zE,zF]
 refine tkV 19 (.slice (some ⟨vg,0,none⟩) K.most K.most) rfl (fun W hSW=>?_) hHeld ?_
 ·((try dsimp only at hSW);go_split_ands;go_simp <;> with_reducible rfl)
 try simp only[zA,zB,zC,Act.put,zD,zE,zF]
 refine tkV 20 (.pointer (some ⟨w1.heap.size,3,none⟩)) rfl (fun W hSW=>?_) hHeld ?_
 ·((try dsimp only at hSW);go_split_ands;go_simp <;> with_reducible rfl)
 try simp only[zA,zB,zC,Act.put,zD,zE,zF]
 refine tkV 21 (.int .i64 b) rfl (fun W hSW=>?_) hHeld ?_
 ·((try dsimp only at hSW);go_split_ands;go_simp <;> with_reducible rfl)
 try simp only[zA,zB,zC,Act.put,zD,zE,zF]
 refine tkV 22 (.pointer (some ⟨vg,b,none⟩)) rfl (fun W hSW=>?_) hHeld ?_
 ·((try dsimp only at hSW);go_split_ands;go_simp <;> with_reducible rfl)
 try simp only[zA,zB,zC,Act.put,zD,zE,zF]
 by_cases hx:(o=4∨o=5)/\zb=0
 ·have HX:=zH hx
  clear hx
  refine wpAnyH_ready (rs:=[15,23]) (by kernel_rfl) (by simp) ?_
  refine AllReadyH.cons rfl (fun KK hKK=>?_) (AllReadyH.cons rfl (fun KK hKK=>?_) (AllReadyH.nil))
  ·try simp only[zA,zB,zC]
   go_simp
   refine hKK.out _ _ ?_ (fun hHeld=>?_)
   ·exact HK.out _ HK3.out
   clear hKK KK
   try simp only[zA,zB,zC,Act.put,zD,zE,zF]
   refine wpAnyH_ready (rs:=[23]) (by kernel_rfl) (by simp) ?_
   refine AllReadyH.cons rfl (fun KK hKK=>?_) (AllReadyH.nil)
   try simp only[zA,zB,zC]
   go_simp
   refine hKK.out _ _ ?_ (fun hHeld=>?_)
   ·exact HK.out _ HK3.out
   clear hKK KK
   try simp only[zA,zB,zC,Act.put,zD,zE,zF]
   refine wpAnyH_ready (rs:=[24]) (by kernel_rfl) (by simp) ?_
   refine AllReadyH.cons rfl (fun KK hKK=>?_) (AllReadyH.nil)
   try simp only[zA,zB,zC]
   go_simp
   (go_at_call 126;refine(do_bad _ _ _ HX.out _).mono ?_;rintro e w3 ⟨⟨z3,rfl⟩,hb3⟩)
   try go_wp2_with fail
   refine hKK.out _ _ ?_ (fun hHeld=>?_)
   ·exact HK.out _ (HK3.out.on hb3)
   clear hKK KK
   try simp only[zA,zB,zC,Act.put,zD,zE,zF]
   refine tkV 25 (.int .i64 z3) rfl (fun W hSW=>?_) hHeld ?_
   ·((try dsimp only at hSW);go_split_ands;go_simp <;> with_reducible rfl)
   try simp only[zA,zB,zC,Act.put,zD,zE,zF]
   refine tkV 26 (.int .i64 20) rfl (fun W hSW=>?_) hHeld ?_
   ·((try dsimp only at hSW);go_split_ands;go_simp <;> with_reducible rfl)
   try simp only[zA,zB,zC,Act.put,zD,zE,zF]
   refine wpAnyH_ready (rs:=[27]) (by kernel_rfl) (by simp) ?_
   refine AllReadyH.cons rfl (fun KK hKK=>?_) (AllReadyH.nil)
   try simp only[zA,zB,zC]
   go_simp
   (go_at_call 125;refine(oj _ _ _ rfl).mono ?_;rintro e w4 ⟨rfl,hw⟩;rw[hw];clear hw;unfold Over)
   try go_wp2_with fail
   clear hKK KK
   simp only[bodyPost,true_and,Exit.inBlock,Exit.then]
   exact .inr ⟨20,rfl,fun h=>absurd h (by decide),_,((HK3.out.on hb3).mach G2.out).more (by omega)⟩
  ·try simp only[zA,zB,zC]
   go_simp
   refine hKK.out _ _ ?_ (fun hHeld=>?_)
   ·exact HK.out _ HK3.out
   clear hKK KK
   try simp only[zA,zB,zC,Act.put,zD,zE,zF]
   refine wpAnyH_ready (rs:=[15]) (by kernel_rfl) (by simp) ?_
   refine AllReadyH.cons rfl (fun KK hKK=>?_) (AllReadyH.nil)
   try simp only[zA,zB,zC]
   go_simp
   refine hKK.out _ _ ?_ (fun hHeld=>?_)
   ·exact HK.out _ HK3.out
   clear hKK KK
   try simp only[zA,zB,zC,Act.put,zD,zE,zF]
   refine wpAnyH_ready (rs:=[24]) (by kernel_rfl) (by simp) ?_
   refine AllReadyH.cons rfl (fun KK hKK=>?_) (AllReadyH.nil)
   try simp only[zA,zB,zC]
   go_simp
   (go_at_call 126;refine(do_bad _ _ _ HX.out _).mono ?_;rintro e w3 ⟨⟨z3,rfl⟩,hb3⟩)
   try go_wp2_with fail
   refine hKK.out _ _ ?_ (fun hHeld=>?_)
   ·exact HK.out _ (HK3.out.on hb3)
   clear hKK KK
   try simp only[zA,zB,zC,Act.put,zD,zE,zF]
   refine tkV 25 (.int .i64 z3) rfl (fun W hSW=>?_) hHeld ?_
   ·((try dsimp only at hSW);go_split_ands;go_simp <;> with_reducible rfl)
   try simp only[zA,zB,zC,Act.put,zD,zE,zF]
   refine tkV 26 (.int .i64 20) rfl (fun W hSW=>?_) hHeld ?_
   ·((try dsimp only at hSW);go_split_ands;go_simp <;> with_reducible rfl)
   try simp only[zA,zB,zC,Act.put,zD,zE,zF]
   refine wpAnyH_ready (rs:=[27]) (by kernel_rfl) (by simp) ?_
   refine AllReadyH.cons rfl (fun KK hKK=>?_) (AllReadyH.nil)
   try simp only[zA,zB,zC]
   go_simp
   (go_at_call 125;refine(oj _ _ _ rfl).mono ?_;rintro e w4 ⟨rfl,hw⟩;rw[hw];clear hw;unfold Over)
   try go_wp2_with fail
   clear hKK KK
   simp only[bodyPost,true_and,Exit.inBlock,Exit.then]
   exact .inr ⟨20,rfl,fun h=>absurd h (by decide),_,((HK3.out.on hb3).mach G2.out).more (by omega)⟩
 ·have HX:=zH hx
  clear hx
  refine wpAnyH_ready (rs:=[15,23]) (by kernel_rfl) (by simp) ?_
  refine AllReadyH.cons rfl (fun KK hKK=>?_) (AllReadyH.cons rfl (fun KK hKK=>?_) (AllReadyH.nil))
  ·try simp only[zA,zB,zC]
   go_simp
   refine hKK.out _ _ ?_ (fun hHeld=>?_)
   ·exact HK.out _ HK3.out
   clear hKK KK
   try simp only[zA,zB,zC,Act.put,zD,zE,zF]
   refine wpAnyH_ready (rs:=[23]) (by kernel_rfl) (by simp) ?_
   refine AllReadyH.cons rfl (fun KK hKK=>?_) (AllReadyH.nil)
   try simp only[zA,zB,zC]
   go_simp
   refine hKK.out _ _ ?_ (fun hHeld=>?_)
   ·exact HK.out _ HK3.out
   clear hKK KK
   try simp only[zA,zB,zC,Act.put,zD,zE,zF]
   refine wpAnyH_ready (rs:=[24]) (by kernel_rfl) (by simp) ?_
   refine AllReadyH.cons rfl (fun KK hKK=>?_) (AllReadyH.nil)
   try simp only[zA,zB,zC]
   go_simp
   (go_at_call 126;refine(do_ok _ _ _ HO.out HX.out _).mono ?_;rintro e w3 ⟨⟨z3,rfl⟩,hb3⟩)
   try go_wp2_with fail
   refine hKK.out _ _ ?_ (fun hHeld=>?_)
   ·exact HK.out _ (HK3.out.on hb3)
   clear hKK KK
   try simp only[zA,zB,zC,Act.put,zD,zE,zF]
   refine tkV 25 (.int .i64 z3) rfl (fun W hSW=>?_) hHeld ?_
   ·((try dsimp only at hSW);go_split_ands;go_simp <;> with_reducible rfl)
   try simp only[zA,zB,zC,Act.put,zD,zE,zF]
   refine tkV 26 (.int .i64 0) rfl (fun W hSW=>?_) hHeld ?_
   ·((try dsimp only at hSW);go_split_ands;go_simp <;> with_reducible rfl)
   try simp only[zA,zB,zC,Act.put,zD,zE,zF]
   have v3:=zH (HN.out.chg (HK3.out.on hb3).chg)
   obtain⟨zd,hzd⟩:=v3.out.cell (show d<K.most by omega)
   have hfd:=v3.out.frozen d
   refine wpAnyH_ready (rs:=[27]) (by kernel_rfl) (by simp) ?_
   refine AllReadyH.cons rfl (fun KK hKK=>?_) (AllReadyH.nil)
   try simp only[zA,zB,zC]
   go_simp
   (go_at_call 125;refine(oh _ _).mono ?_;rintro e w4 ⟨rfl,hw⟩;rw[hw];clear hw)
   try go_wp2_with fail
   refine hKK.out _ _ ?_ (fun hHeld=>?_)
   ·exact HK.out _ (HK3.out.on hb3)
   clear hKK KK
   try simp only[zA,zB,zC,Act.put,zD,zE,zF]
   refine tkV 28 (.pointer (some ⟨vg,d,none⟩)) rfl (fun W hSW=>?_) hHeld ?_
   ·((try dsimp only at hSW);go_split_ands;go_simp <;> with_reducible rfl)
   try simp only[zA,zB,zC,Act.put,zD,zE,zF]
   refine wpAnyH_ready (rs:=[29]) (by kernel_rfl) (by simp) ?_
   refine AllReadyH.cons rfl (fun KK hKK=>?_) (AllReadyH.nil)
   try simp only[zA,zB,zC]
   go_simp
   refine hKK.out _ _ ?_ (fun hHeld=>?_)
   ·exact HK.out _ ((HK3.out.on hb3).num v3.out hvB _ _)
   clear hKK KK
   try simp only[zA,zB,zC,Act.put,zD,zE,zF]
   refine wpAnyH_done (by kernel_rfl) ?_ _
   have g3:=((HK3.out.on hb3).num v3.out hvB d z3).mach G2.out
   clear hHeld hzd hfd hza hzb
   generalize World.setCell w3 _ _=w5 at g3 ⊢
   obtain⟨p1,p2,p3⟩:=g3.next HZ.out
   have HP:=zH p3
   clear p3 g3
   go_wp2_with fail
   go_end0
   exact .inl ⟨rfl,_,HP.out.more (by omega)⟩
  ·try simp only[zA,zB,zC]
   go_simp
   refine hKK.out _ _ ?_ (fun hHeld=>?_)
   ·exact HK.out _ HK3.out
   clear hKK KK
   try simp only[zA,zB,zC,Act.put,zD,zE,zF]
   refine wpAnyH_ready (rs:=[15]) (by kernel_rfl) (by simp) ?_
   refine AllReadyH.cons rfl (fun KK hKK=>?_) (AllReadyH.nil)
   try simp only[zA,zB,zC]
   go_simp
   refine hKK.out _ _ ?_ (fun hHeld=>?_)
   ·exact HK.out _ HK3.out
   clear hKK KK
   try simp only[zA,zB,zC,Act.put,zD,zE,zF]
   refine wpAnyH_ready (rs:=[24]) (by kernel_rfl) (by simp) ?_
   refine AllReadyH.cons rfl (fun KK hKK=>?_) (AllReadyH.nil)
   try simp only[zA,zB,zC]
   go_simp
   (go_at_call 126;refine(do_ok _ _ _ HO.out HX.out _).mono ?_;rintro e w3 ⟨⟨z3,rfl⟩,hb3⟩)
   try go_wp2_with fail
   refine hKK.out _ _ ?_ (fun hHeld=>?_)
   ·exact HK.out _ (HK3.out.on hb3)
   clear hKK KK
   try simp only[zA,zB,zC,Act.put,zD,zE,zF]
   refine tkV 25 (.int .i64 z3) rfl (fun W hSW=>?_) hHeld ?_
   ·((try dsimp only at hSW);go_split_ands;go_simp <;> with_reducible rfl)
   try simp only[zA,zB,zC,Act.put,zD,zE,zF]
   refine tkV 26 (.int .i64 0) rfl (fun W hSW=>?_) hHeld ?_
   ·((try dsimp only at hSW);go_split_ands;go_simp <;> with_reducible rfl)
   try simp only[zA,zB,zC,Act.put,zD,zE,zF]
   have v3:=zH (HN.out.chg (HK3.out.on hb3).chg)
   obtain⟨zd,hzd⟩:=v3.out.cell (show d<K.most by omega)
   have hfd:=v3.out.frozen d
   refine wpAnyH_ready (rs:=[27]) (by kernel_rfl) (by simp) ?_
   refine AllReadyH.cons rfl (fun KK hKK=>?_) (AllReadyH.nil)
   try simp only[zA,zB,zC]
   go_simp
   (go_at_call 125;refine(oh _ _).mono ?_;rintro e w4 ⟨rfl,hw⟩;rw[hw];clear hw)
   try go_wp2_with fail
   refine hKK.out _ _ ?_ (fun hHeld=>?_)
   ·exact HK.out _ (HK3.out.on hb3)
   clear hKK KK
   try simp only[zA,zB,zC,Act.put,zD,zE,zF]
   refine tkV 28 (.pointer (some ⟨vg,d,none⟩)) rfl (fun W hSW=>?_) hHeld ?_
   ·((try dsimp only at hSW);go_split_ands;go_simp <;> with_reducible rfl)
   try simp only[zA,zB,zC,Act.put,zD,zE,zF]
   refine wpAnyH_ready (rs:=[29]) (by kernel_rfl) (by simp) ?_
   refine AllReadyH.cons rfl (fun KK hKK=>?_) (AllReadyH.nil)
   try simp only[zA,zB,zC]
   go_simp
   refine hKK.out _ _ ?_ (fun hHeld=>?_)
   ·exact HK.out _ ((HK3.out.on hb3).num v3.out hvB _ _)
   clear hKK KK
   try simp only[zA,zB,zC,Act.put,zD,zE,zF]
   refine wpAnyH_done (by kernel_rfl) ?_ _
   have g3:=((HK3.out.on hb3).num v3.out hvB d z3).mach G2.out
   clear hHeld hzd hfd hza hzb
   generalize World.setCell w3 _ _=w5 at g3 ⊢
   obtain⟨p1,p2,p3⟩:=g3.next HZ.out
   have HP:=zH p3
   clear p3 g3
   go_wp2_with fail
   go_end0
   exact .inl ⟨rfl,_,HP.out.more (by omega)⟩
end
section
open Go.RowKit
open CD (OpP BodyP CodeP ae blAt fnAt)
set_option maxRecDepth 100000 in
set_option maxHeartbeats 3200000 in
theorem do_load{K:Kst}{mf m:Nat}{W0 W:World}{fs:List FrS}{f:FrS}{st:Int}(h:Doing K mf W0 W fs f st m)(d r a:Nat)(hd:d<K.va f.num)(hr:r<K.na)(ha:a<K.va f.num)(hi:insK K f=.iface 202 (.agg #[.int .i64 d,.int .i64 r,.int .i64 a]))(hz:¬f.pl+1=K.len f.num f.bl) :
 Calls Tryz.prog 82 #[.pointer (some ⟨K.Rb,0,none⟩),.pointer (some ⟨f.fb,0,none⟩)] W fun e w'=>DoE K mf W0 fs f st m e w':=by
 obtain⟨q,cap,ht,_⟩:=h.g.top
 obtain⟨b1,b2,b3,b4⟩:=h.bounds
 have HI:=zH hi
 have G:=zH h.g
 have HT:=zH ht
 have HH:=zH h
 have HZ:=zH hz
 clear hz
 have HD:=zH (And.intro hd (And.intro hr ha))
 clear hd hr ha
 have n_constant:=@bC 202 (by decide) (.agg #[.int .i64 d,.int .i64 r,.int .i64 a])
 have n_binary:=@cw 202 (by decide) (.agg #[.int .i64 d,.int .i64 r,.int .i64 a])
 have y_load:=yes_load (.agg #[.int .i64 d,.int .i64 r,.int .i64 a])
 clear h hi ht
 go_enter Tryz.func82,Tryz.ntmps82
 go_upto_region 9 with(go_at_call 124;refine(ck HT.out ⟨b2,b3⟩).mono ?_;rintro e w1 ⟨rfl,d1,hw1⟩;rw[HI.out];have HW:=zH hw1;clear hw1)
 obtain⟨w2,ew2⟩:∃w2,w2=w1.alloc (.cells #[.int .i64 d,.int .i64 r,.int .i64 a] 202):=⟨_,rfl⟩
 rw[<-ew2]
 obtain⟨g2,ho2,hb2,hB2⟩:=G.out.held HW.out ew2
 have HO2:=zH ho2
 have G2:=zH g2
 obtain⟨y0,y1,y2⟩:=obj3 ho2
 obtain⟨vg,c2,hva,hvB,hnv,hv,hfz,hset⟩:=g2.vals
 obtain⟨hd,hr,ha⟩:=HD.out
 have hm:=HH.out.ok.most
 have i_d:(0:Int)<=d/\(d:Int)<K.most:=by omega
 have i_a:(0:Int)<=a/\(a:Int)<K.most:=by omega
 have hfr2:=g2.frm _ _ (aQ _ _)
 have hB3:K.B0<=w2.heap.size:=Nat.le_trans hB2 hb2.size
 obtain⟨frv,ag,ac,aq,acs,hrun,eav,hag,hgr,harr,haq,hs1⟩:=g2.arr hr
 have hna:=HH.out.ok.na
 have hsz:=HH.out.ok.sz _ hr
 have HK:=zH (show ∀V,Kept K (fun _=>False) w2 V->(fun V=>Kept K (fun _=>False) w2 V/\V.cell? ⟨f.fb,2,none⟩=some (.slice (some ⟨vg,0,none⟩) K.most K.most)/\V.cell? ⟨w1.heap.size,0,none⟩=some (.int .i64 d)/\V.cell? ⟨w1.heap.size,1,none⟩=some (.int .i64 r)/\V.cell? ⟨w1.heap.size,2,none⟩=some (.int .i64 a)) V from fun V hV=>⟨hV,hV.cell hfr2 (by decide) (fun e=>e) c2,hV.cell ho2 (by decide) (fun e=>e) y0,hV.cell ho2 (by decide) (fun e=>e) y1,hV.cell ho2 (by decide) (fun e=>e) y2⟩)
 obtain⟨za,hza⟩:=hv a ha
 obtain⟨zd,hzd⟩:=hv d hd
 have hfd:=hfz d
 have HN:=zH hnv
 have HK3:=zH (Kept.refl (X:=fun _=>False) hB3).drew
 have HC:=zH (And.intro (show RunM K w2.drew frv st from hrun) (show w2.drew.cell? ⟨ag,r,none⟩=some (.slice (some ⟨aq,0,none⟩) (K.sz r) (K.sz r)) from hgr))
 have HE:=zH eav
 have HA:=zH harr
 have HR:=zH hr
 clear hv hnv hfz hset ew2 ho2 hfr2 y0 y1 y2 c2 g2 hrun eav hag hgr harr
 by_cases hx:0<=za/\za<K.sz r
 ·obtain⟨k,rfl⟩:∃k:Nat,za=(k:Int):=⟨za.toNat,by omega⟩
  have HX:=zH (show k<K.sz r by omega)
  obtain⟨zc,hzc⟩:=HA.out.cell HX.out
  clear hx
  refine wp_region_held_drew (S:=(fun V=>Kept K (fun _=>False) w2 V/\V.cell? ⟨f.fb,2,none⟩=some (.slice (some ⟨vg,0,none⟩) K.most K.most)/\V.cell? ⟨w1.heap.size,0,none⟩=some (.int .i64 d)/\V.cell? ⟨w1.heap.size,1,none⟩=some (.int .i64 r)/\V.cell? ⟨w1.heap.size,2,none⟩=some (.int .i64 a))) (by kernel_rfl) ?_ (fun hHeld=>?_)
  ·exact HK.out _ HK3.out
  refine tkV 0 (.pointer (some ⟨f.fb,0,none⟩)) rfl (fun W hSW=>?_) hHeld ?_
  ·((try dsimp only at hSW);go_split_ands;go_simp <;> with_reducible rfl)
  try simp only[zA,zB,zC,Act.put,zD,zE,zF]
  refine tkV 1 (.pointer (some ⟨f.fb,0,none⟩)) rfl (fun W hSW=>?_) hHeld ?_
  ·((try dsimp only at hSW);go_split_ands;go_simp <;> with_reducible rfl)
  try simp only[zA,zB,zC,Act.put,zD,zE,zF]
  refine tkV 2 (.pointer (some ⟨f.fb,2,none⟩)) rfl (fun W hSW=>?_) hHeld ?_
  ·((try dsimp only at hSW);go_split_ands;go_simp <;> with_reducible rfl)
  try simp only[zA,zB,zC,Act.put,zD,zE,zF]
  refine tkV 3 (.slice (some ⟨vg,0,none⟩) K.most K.most) rfl (fun W hSW=>?_) hHeld ?_
  ·((try dsimp only at hSW);go_split_ands;go_simp <;> with_reducible rfl)
  try simp only[zA,zB,zC,Act.put,zD,zE,zF]
  refine tkV 4 (.pointer (some ⟨w1.heap.size,0,none⟩)) rfl (fun W hSW=>?_) hHeld ?_
  ·((try dsimp only at hSW);go_split_ands;go_simp <;> with_reducible rfl)
  try simp only[zA,zB,zC,Act.put,zD,zE,zF]
  refine tkV 5 (.int .i64 d) rfl (fun W hSW=>?_) hHeld ?_
  ·((try dsimp only at hSW);go_split_ands;go_simp <;> with_reducible rfl)
  try simp only[zA,zB,zC,Act.put,zD,zE,zF]
  refine tkV 6 (.pointer (some ⟨K.Rb,0,none⟩)) rfl (fun W hSW=>?_) hHeld ?_
  ·((try dsimp only at hSW);go_split_ands;go_simp <;> with_reducible rfl)
  try simp only[zA,zB,zC,Act.put,zD,zE,zF]
  refine tkV 7 (.pointer (some ⟨w1.heap.size,1,none⟩)) rfl (fun W hSW=>?_) hHeld ?_
  ·((try dsimp only at hSW);go_split_ands;go_simp <;> with_reducible rfl)
  try simp only[zA,zB,zC,Act.put,zD,zE,zF]
  refine tkV 8 (.int .i64 r) rfl (fun W hSW=>?_) hHeld ?_
  ·((try dsimp only at hSW);go_split_ands;go_simp <;> with_reducible rfl)
  try simp only[zA,zB,zC,Act.put,zD,zE,zF]
  refine tkV 9 (.pointer (some ⟨f.fb,0,none⟩)) rfl (fun W hSW=>?_) hHeld ?_
  ·((try dsimp only at hSW);go_split_ands;go_simp <;> with_reducible rfl)
  try simp only[zA,zB,zC,Act.put,zD,zE,zF]
  refine tkV 10 (.pointer (some ⟨f.fb,0,none⟩)) rfl (fun W hSW=>?_) hHeld ?_
  ·((try dsimp only at hSW);go_split_ands;go_simp <;> with_reducible rfl)
  try simp only[zA,zB,zC,Act.put,zD,zE,zF]
  refine tkV 11 (.pointer (some ⟨f.fb,2,none⟩)) rfl (fun W hSW=>?_) hHeld ?_
  ·((try dsimp only at hSW);go_split_ands;go_simp <;> with_reducible rfl)
  try simp only[zA,zB,zC,Act.put,zD,zE,zF]
  refine tkV 12 (.slice (some ⟨vg,0,none⟩) K.most K.most) rfl (fun W hSW=>?_) hHeld ?_
  ·((try dsimp only at hSW);go_split_ands;go_simp <;> with_reducible rfl)
  try simp only[zA,zB,zC,Act.put,zD,zE,zF]
  refine tkV 13 (.pointer (some ⟨w1.heap.size,2,none⟩)) rfl (fun W hSW=>?_) hHeld ?_
  ·((try dsimp only at hSW);go_split_ands;go_simp <;> with_reducible rfl)
  try simp only[zA,zB,zC,Act.put,zD,zE,zF]
  refine tkV 14 (.int .i64 a) rfl (fun W hSW=>?_) hHeld ?_
  ·((try dsimp only at hSW);go_split_ands;go_simp <;> with_reducible rfl)
  try simp only[zA,zB,zC,Act.put,zD,zE,zF]
  refine tkV 15 (.pointer (some ⟨vg,a,none⟩)) rfl (fun W hSW=>?_) hHeld ?_
  ·((try dsimp only at hSW);go_split_ands;go_simp <;> with_reducible rfl)
  try simp only[zA,zB,zC,Act.put,zD,zE,zF]
  refine wpAnyH_ready (rs:=[16]) (by kernel_rfl) (by simp) ?_
  refine AllReadyH.cons rfl (fun KK hKK=>?_) (AllReadyH.nil)
  try simp only[zA,zB,zC]
  go_simp
  refine hKK.out _ _ ?_ (fun hHeld=>?_)
  ·exact HK.out _ HK3.out
  clear hKK KK
  try simp only[zA,zB,zC,Act.put,zD,zE,zF]
  refine wpAnyH_ready (rs:=[17]) (by kernel_rfl) (by simp) ?_
  refine AllReadyH.cons rfl (fun KK hKK=>?_) (AllReadyH.nil)
  try simp only[zA,zB,zC]
  go_simp
  (go_at_call 127;refine(kw HC.out.1 HE.out (by omega) HR.out HC.out.2 (by omega) HX.out).mono ?_;rintro e w4 ⟨rfl,hw⟩;rw[hw];clear hw)
  try go_wp2_with fail
  refine hKK.out _ _ ?_ (fun hHeld=>?_)
  ·exact HK.out _ HK3.out
  clear hKK KK
  try simp only[zA,zB,zC,Act.put,zD,zE,zF]
  refine tkV 18 (.pointer (some ⟨aq,k,none⟩)) rfl (fun W hSW=>?_) hHeld ?_
  ·((try dsimp only at hSW);go_split_ands;go_simp <;> with_reducible rfl)
  try simp only[zA,zB,zC,Act.put,zD,zE,zF]
  refine wpAnyH_ready (rs:=[19]) (by kernel_rfl) (by simp) ?_
  refine AllReadyH.cons rfl (fun KK hKK=>?_) (AllReadyH.nil)
  try simp only[zA,zB,zC]
  go_simp
  refine hKK.out _ _ ?_ (fun hHeld=>?_)
  ·exact HK.out _ HK3.out
  clear hKK KK
  try simp only[zA,zB,zC,Act.put,zD,zE,zF]
  refine tkV 20 (.pointer (some ⟨vg,d,none⟩)) rfl (fun W hSW=>?_) hHeld ?_
  ·((try dsimp only at hSW);go_split_ands;go_simp <;> with_reducible rfl)
  try simp only[zA,zB,zC,Act.put,zD,zE,zF]
  refine wpAnyH_ready (rs:=[21]) (by kernel_rfl) (by simp) ?_
  refine AllReadyH.cons rfl (fun KK hKK=>?_) (AllReadyH.nil)
  try simp only[zA,zB,zC]
  go_simp
  refine hKK.out _ _ ?_ (fun hHeld=>?_)
  ·exact HK.out _ (HK3.out.num (HN.out.chg HK3.out.chg) hvB _ _)
  clear hKK KK
  try simp only[zA,zB,zC,Act.put,zD,zE,zF]
  refine wpAnyH_done (by kernel_rfl) ?_ _
  have g3:=(HK3.out.num (HN.out.chg HK3.out.chg) hvB d zc).mach G2.out
  clear hHeld hzd hfd hza hzc
  change Mach K mf W0 (World.drew (World.setCell w2 _ _)) _ _ _ at g3
  generalize World.drew (World.setCell w2 _ _)=w5 at g3 ⊢
  obtain⟨p1,p2,p3⟩:=g3.next HZ.out
  have HP:=zH p3
  clear p3 g3
  go_wp2_with fail
  go_end0
  exact .inl ⟨rfl,_,HP.out.more (by omega)⟩
 ·have HX:=zH hx
  clear hx
  refine wp_region_held_drew (S:=(fun V=>Kept K (fun _=>False) w2 V/\V.cell? ⟨f.fb,2,none⟩=some (.slice (some ⟨vg,0,none⟩) K.most K.most)/\V.cell? ⟨w1.heap.size,0,none⟩=some (.int .i64 d)/\V.cell? ⟨w1.heap.size,1,none⟩=some (.int .i64 r)/\V.cell? ⟨w1.heap.size,2,none⟩=some (.int .i64 a))) (by kernel_rfl) ?_ (fun hHeld=>?_)
  ·exact HK.out _ HK3.out
  refine tkV 0 (.pointer (some ⟨f.fb,0,none⟩)) rfl (fun W hSW=>?_) hHeld ?_
  ·((try dsimp only at hSW);go_split_ands;go_simp <;> with_reducible rfl)
  try simp only[zA,zB,zC,Act.put,zD,zE,zF]
  refine tkV 1 (.pointer (some ⟨f.fb,0,none⟩)) rfl (fun W hSW=>?_) hHeld ?_
  ·((try dsimp only at hSW);go_split_ands;go_simp <;> with_reducible rfl)
  try simp only[zA,zB,zC,Act.put,zD,zE,zF]
  refine tkV 2 (.pointer (some ⟨f.fb,2,none⟩)) rfl (fun W hSW=>?_) hHeld ?_
  ·((try dsimp only at hSW);go_split_ands;go_simp <;> with_reducible rfl)
  try simp only[zA,zB,zC,Act.put,zD,zE,zF]
  refine tkV 3 (.slice (some ⟨vg,0,none⟩) K.most K.most) rfl (fun W hSW=>?_) hHeld ?_
  ·((try dsimp only at hSW);go_split_ands;go_simp <;> with_reducible rfl)
  try simp only[zA,zB,zC,Act.put,zD,zE,zF]
  refine tkV 4 (.pointer (some ⟨w1.heap.size,0,none⟩)) rfl (fun W hSW=>?_) hHeld ?_
  ·((try dsimp only at hSW);go_split_ands;go_simp <;> with_reducible rfl)
  try simp only[zA,zB,zC,Act.put,zD,zE,zF]
  refine tkV 5 (.int .i64 d) rfl (fun W hSW=>?_) hHeld ?_
  ·((try dsimp only at hSW);go_split_ands;go_simp <;> with_reducible rfl)
  try simp only[zA,zB,zC,Act.put,zD,zE,zF]
  refine tkV 6 (.pointer (some ⟨K.Rb,0,none⟩)) rfl (fun W hSW=>?_) hHeld ?_
  ·((try dsimp only at hSW);go_split_ands;go_simp <;> with_reducible rfl)
  try simp only[zA,zB,zC,Act.put,zD,zE,zF]
  refine tkV 7 (.pointer (some ⟨w1.heap.size,1,none⟩)) rfl (fun W hSW=>?_) hHeld ?_
  ·((try dsimp only at hSW);go_split_ands;go_simp <;> with_reducible rfl)
  try simp only[zA,zB,zC,Act.put,zD,zE,zF]
  refine tkV 8 (.int .i64 r) rfl (fun W hSW=>?_) hHeld ?_
  ·((try dsimp only at hSW);go_split_ands;go_simp <;> with_reducible rfl)
  try simp only[zA,zB,zC,Act.put,zD,zE,zF]
  refine tkV 9 (.pointer (some ⟨f.fb,0,none⟩)) rfl (fun W hSW=>?_) hHeld ?_
  ·((try dsimp only at hSW);go_split_ands;go_simp <;> with_reducible rfl)
  try simp only[zA,zB,zC,Act.put,zD,zE,zF]
  refine tkV 10 (.pointer (some ⟨f.fb,0,none⟩)) rfl (fun W hSW=>?_) hHeld ?_
  ·((try dsimp only at hSW);go_split_ands;go_simp <;> with_reducible rfl)
  try simp only[zA,zB,zC,Act.put,zD,zE,zF]
  refine tkV 11 (.pointer (some ⟨f.fb,2,none⟩)) rfl (fun W hSW=>?_) hHeld ?_
  ·((try dsimp only at hSW);go_split_ands;go_simp <;> with_reducible rfl)
  try simp only[zA,zB,zC,Act.put,zD,zE,zF]
  refine tkV 12 (.slice (some ⟨vg,0,none⟩) K.most K.most) rfl (fun W hSW=>?_) hHeld ?_
  ·((try dsimp only at hSW);go_split_ands;go_simp <;> with_reducible rfl)
  try simp only[zA,zB,zC,Act.put,zD,zE,zF]
  refine tkV 13 (.pointer (some ⟨w1.heap.size,2,none⟩)) rfl (fun W hSW=>?_) hHeld ?_
  ·((try dsimp only at hSW);go_split_ands;go_simp <;> with_reducible rfl)
  try simp only[zA,zB,zC,Act.put,zD,zE,zF]
  refine tkV 14 (.int .i64 a) rfl (fun W hSW=>?_) hHeld ?_
  ·((try dsimp only at hSW);go_split_ands;go_simp <;> with_reducible rfl)
  try simp only[zA,zB,zC,Act.put,zD,zE,zF]
  refine tkV 15 (.pointer (some ⟨vg,a,none⟩)) rfl (fun W hSW=>?_) hHeld ?_
  ·((try dsimp only at hSW);go_split_ands;go_simp <;> with_reducible rfl)
  try simp only[zA,zB,zC,Act.put,zD,zE,zF]
  refine wpAnyH_ready (rs:=[16]) (by kernel_rfl) (by simp) ?_
  refine AllReadyH.cons rfl (fun KK hKK=>?_) (AllReadyH.nil)
  try simp only[zA,zB,zC]
  go_simp
  refine hKK.out _ _ ?_ (fun hHeld=>?_)
  ·exact HK.out _ HK3.out
  clear hKK KK
  try simp only[zA,zB,zC,Act.put,zD,zE,zF]
  refine wpAnyH_ready (rs:=[17]) (by kernel_rfl) (by simp) ?_
  refine AllReadyH.cons rfl (fun KK hKK=>?_) (AllReadyH.nil)
  try simp only[zA,zB,zC]
  go_simp
  (go_at_call 127;refine(ju HC.out.1 HE.out (by omega) HR.out HC.out.2 (by omega) HX.out).mono ?_;rintro e w4 ⟨rfl,hw⟩;rw[hw];clear hw;unfold Over)
  try go_wp2_with fail
  clear hKK KK
  simp only[bodyPost,true_and,Exit.inBlock,Exit.then]
  exact .inr ⟨21,rfl,fun h=>absurd h (by decide),_,(HK3.out.mach G2.out).more (by omega)⟩
set_option maxRecDepth 100000 in
set_option maxHeartbeats 3200000 in
theorem do_wrap{K:Kst}{mf m:Nat}{W0 W:World}{fs:List FrS}{f:FrS}{st:Int}(h:Doing K mf W0 W fs f st m)(d r a:Nat)(hd:d<K.va f.num)(hr:r<K.na)(ha:a<K.va f.num)(hi:insK K f=.iface 204 (.agg #[.int .i64 d,.int .i64 r,.int .i64 a]))(hz:¬f.pl+1=K.len f.num f.bl) :
 Calls Tryz.prog 82 #[.pointer (some ⟨K.Rb,0,none⟩),.pointer (some ⟨f.fb,0,none⟩)] W fun e w'=>DoE K mf W0 fs f st m e w':=by
 obtain⟨q,cap,ht,_⟩:=h.g.top
 obtain⟨b1,b2,b3,b4⟩:=h.bounds
 have HI:=zH hi
 have G:=zH h.g
 have HT:=zH ht
 have HH:=zH h
 have HZ:=zH hz
 clear hz
 have HD:=zH (And.intro hd (And.intro hr ha))
 clear hd hr ha
 have n_constant:=@bC 204 (by decide) (.agg #[.int .i64 d,.int .i64 r,.int .i64 a])
 have n_binary:=@cw 204 (by decide) (.agg #[.int .i64 d,.int .i64 r,.int .i64 a])
 have n_load:=@dQ 204 (by decide) (.agg #[.int .i64 d,.int .i64 r,.int .i64 a])
 have y_wrap:=yes_wrap (.agg #[.int .i64 d,.int .i64 r,.int .i64 a])
 clear h hi ht
 go_enter Tryz.func82,Tryz.ntmps82
 go_upto_region 12 with(go_at_call 124;refine(ck HT.out ⟨b2,b3⟩).mono ?_;rintro e w1 ⟨rfl,d1,hw1⟩;rw[HI.out];have HW:=zH hw1;clear hw1)
 obtain⟨w2,ew2⟩:∃w2,w2=w1.alloc (.cells #[.int .i64 d,.int .i64 r,.int .i64 a] 204):=⟨_,rfl⟩
 rw[<-ew2]
 obtain⟨g2,ho2,hb2,hB2⟩:=G.out.held HW.out ew2
 have HO2:=zH ho2
 have G2:=zH g2
 obtain⟨y0,y1,y2⟩:=obj3 ho2
 obtain⟨vg,c2,hva,hvB,hnv,hv,hfz,hset⟩:=g2.vals
 obtain⟨hd,hr,ha⟩:=HD.out
 have hm:=HH.out.ok.most
 have i_d:(0:Int)<=d/\(d:Int)<K.most:=by omega
 have i_a:(0:Int)<=a/\(a:Int)<K.most:=by omega
 have hfr2:=g2.frm _ _ (aQ _ _)
 have hB3:K.B0<=w2.heap.size:=Nat.le_trans hB2 hb2.size
 obtain⟨frv,ag,ac,aq,acs,hrun,eav,hag,hgr,harr,haq,hs1⟩:=g2.arr hr
 have hna:=HH.out.ok.na
 have hsz:=HH.out.ok.sz _ hr
 have i_r:(0:Int)<=r/\(r:Int)<K.na:=by omega
 have x1:=hrun.cells.2.1
 rw[eav] at x1
 have HK:=zH (show ∀V,Kept K (fun _=>False) w2 V->(fun V=>Kept K (fun _=>False) w2 V/\V.cell? ⟨f.fb,2,none⟩=some (.slice (some ⟨vg,0,none⟩) K.most K.most)/\V.cell? ⟨K.Rb,1,none⟩=some (.slice (some ⟨ag,0,none⟩) K.na ac)/\V.cell? ⟨ag,r,none⟩=some (.slice (some ⟨aq,0,none⟩) (K.sz r) (K.sz r))/\V.cell? ⟨w1.heap.size,0,none⟩=some (.int .i64 d)/\V.cell? ⟨w1.heap.size,1,none⟩=some (.int .i64 r)/\V.cell? ⟨w1.heap.size,2,none⟩=some (.int .i64 a)) V from fun V hV=>⟨hV,hV.cell hfr2 (by decide) (fun e=>e) c2,hV.cell hrun (by decide) (fun e=>e) x1,hV.cell hag (by decide) (fun e=>e) hgr,hV.cell ho2 (by decide) (fun e=>e) y0,hV.cell ho2 (by decide) (fun e=>e) y1,hV.cell ho2 (by decide) (fun e=>e) y2⟩)
 obtain⟨za,hza⟩:=hv a ha
 obtain⟨zd,hzd⟩:=hv d hd
 have hfd:=hfz d
 have HN:=zH hnv
 have HK3:=zH (Kept.refl (X:=fun _=>False) hB3).drew
 have HS1:=zH hs1
 clear hv hnv hfz hset ew2 ho2 hfr2 y0 y1 y2 c2 g2 hrun eav hag hgr harr x1
 refine wp_region_held_drew (S:=(fun V=>Kept K (fun _=>False) w2 V/\V.cell? ⟨f.fb,2,none⟩=some (.slice (some ⟨vg,0,none⟩) K.most K.most)/\V.cell? ⟨K.Rb,1,none⟩=some (.slice (some ⟨ag,0,none⟩) K.na ac)/\V.cell? ⟨ag,r,none⟩=some (.slice (some ⟨aq,0,none⟩) (K.sz r) (K.sz r))/\V.cell? ⟨w1.heap.size,0,none⟩=some (.int .i64 d)/\V.cell? ⟨w1.heap.size,1,none⟩=some (.int .i64 r)/\V.cell? ⟨w1.heap.size,2,none⟩=some (.int .i64 a))) (by kernel_rfl) ?_ (fun hHeld=>?_)
 ·exact HK.out _ HK3.out
 refine tkV 0 (.pointer (some ⟨f.fb,0,none⟩)) rfl (fun W hSW=>?_) hHeld ?_
 ·((try dsimp only at hSW);go_split_ands;go_simp <;> with_reducible rfl)
 try simp only[zA,zB,zC,Act.put,zD,zE,zF]
 refine tkV 1 (.pointer (some ⟨f.fb,0,none⟩)) rfl (fun W hSW=>?_) hHeld ?_
 ·((try dsimp only at hSW);go_split_ands;go_simp <;> with_reducible rfl)
 try simp only[zA,zB,zC,Act.put,zD,zE,zF]
 refine tkV 2 (.pointer (some ⟨f.fb,2,none⟩)) rfl (fun W hSW=>?_) hHeld ?_
 ·((try dsimp only at hSW);go_split_ands;go_simp <;> with_reducible rfl)
 try simp only[zA,zB,zC,Act.put,zD,zE,zF]
 refine tkV 3 (.slice (some ⟨vg,0,none⟩) K.most K.most) rfl (fun W hSW=>?_) hHeld ?_
 ·((try dsimp only at hSW);go_split_ands;go_simp <;> with_reducible rfl)
 try simp only[zA,zB,zC,Act.put,zD,zE,zF]
 refine tkV 4 (.pointer (some ⟨w1.heap.size,0,none⟩)) rfl (fun W hSW=>?_) hHeld ?_
 ·((try dsimp only at hSW);go_split_ands;go_simp <;> with_reducible rfl)
 try simp only[zA,zB,zC,Act.put,zD,zE,zF]
 refine tkV 5 (.int .i64 d) rfl (fun W hSW=>?_) hHeld ?_
 ·((try dsimp only at hSW);go_split_ands;go_simp <;> with_reducible rfl)
 try simp only[zA,zB,zC,Act.put,zD,zE,zF]
 refine tkV 6 (.pointer (some ⟨f.fb,0,none⟩)) rfl (fun W hSW=>?_) hHeld ?_
 ·((try dsimp only at hSW);go_split_ands;go_simp <;> with_reducible rfl)
 try simp only[zA,zB,zC,Act.put,zD,zE,zF]
 refine tkV 7 (.pointer (some ⟨f.fb,0,none⟩)) rfl (fun W hSW=>?_) hHeld ?_
 ·((try dsimp only at hSW);go_split_ands;go_simp <;> with_reducible rfl)
 try simp only[zA,zB,zC,Act.put,zD,zE,zF]
 refine tkV 8 (.pointer (some ⟨f.fb,2,none⟩)) rfl (fun W hSW=>?_) hHeld ?_
 ·((try dsimp only at hSW);go_split_ands;go_simp <;> with_reducible rfl)
 try simp only[zA,zB,zC,Act.put,zD,zE,zF]
 refine tkV 9 (.slice (some ⟨vg,0,none⟩) K.most K.most) rfl (fun W hSW=>?_) hHeld ?_
 ·((try dsimp only at hSW);go_split_ands;go_simp <;> with_reducible rfl)
 try simp only[zA,zB,zC,Act.put,zD,zE,zF]
 refine tkV 10 (.pointer (some ⟨w1.heap.size,2,none⟩)) rfl (fun W hSW=>?_) hHeld ?_
 ·((try dsimp only at hSW);go_split_ands;go_simp <;> with_reducible rfl)
 try simp only[zA,zB,zC,Act.put,zD,zE,zF]
 refine tkV 11 (.int .i64 a) rfl (fun W hSW=>?_) hHeld ?_
 ·((try dsimp only at hSW);go_split_ands;go_simp <;> with_reducible rfl)
 try simp only[zA,zB,zC,Act.put,zD,zE,zF]
 refine tkV 12 (.pointer (some ⟨vg,a,none⟩)) rfl (fun W hSW=>?_) hHeld ?_
 ·((try dsimp only at hSW);go_split_ands;go_simp <;> with_reducible rfl)
 try simp only[zA,zB,zC,Act.put,zD,zE,zF]
 refine tkV 14 (.pointer (some ⟨K.Rb,0,none⟩)) rfl (fun W hSW=>?_) hHeld ?_
 ·((try dsimp only at hSW);go_split_ands;go_simp <;> with_reducible rfl)
 try simp only[zA,zB,zC,Act.put,zD,zE,zF]
 refine tkV 15 (.pointer (some ⟨K.Rb,0,none⟩)) rfl (fun W hSW=>?_) hHeld ?_
 ·((try dsimp only at hSW);go_split_ands;go_simp <;> with_reducible rfl)
 try simp only[zA,zB,zC,Act.put,zD,zE,zF]
 refine tkV 16 (.pointer (some ⟨K.Rb,1,none⟩)) rfl (fun W hSW=>?_) hHeld ?_
 ·((try dsimp only at hSW);go_split_ands;go_simp <;> with_reducible rfl)
 try simp only[zA,zB,zC,Act.put,zD,zE,zF]
 refine tkV 17 (.slice (some ⟨ag,0,none⟩) K.na ac) rfl (fun W hSW=>?_) hHeld ?_
 ·((try dsimp only at hSW);go_split_ands;go_simp <;> with_reducible rfl)
 try simp only[zA,zB,zC,Act.put,zD,zE,zF]
 refine tkV 18 (.pointer (some ⟨w1.heap.size,1,none⟩)) rfl (fun W hSW=>?_) hHeld ?_
 ·((try dsimp only at hSW);go_split_ands;go_simp <;> with_reducible rfl)
 try simp only[zA,zB,zC,Act.put,zD,zE,zF]
 refine tkV 19 (.int .i64 r) rfl (fun W hSW=>?_) hHeld ?_
 ·((try dsimp only at hSW);go_split_ands;go_simp <;> with_reducible rfl)
 try simp only[zA,zB,zC,Act.put,zD,zE,zF]
 refine tkV 20 (.pointer (some ⟨ag,r,none⟩)) rfl (fun W hSW=>?_) hHeld ?_
 ·((try dsimp only at hSW);go_split_ands;go_simp <;> with_reducible rfl)
 try simp only[zA,zB,zC,Act.put,zD,zE,zF]
 refine tkV 21 (.slice (some ⟨aq,0,none⟩) (K.sz r) (K.sz r)) rfl (fun W hSW=>?_) hHeld ?_
 ·((try dsimp only at hSW);go_split_ands;go_simp <;> with_reducible rfl)
 try simp only[zA,zB,zC,Act.put,zD,zE,zF]
 refine tkV 22 (.int .i64 (K.sz r:Nat)) rfl (fun W hSW=>?_) hHeld ?_
 ·((try dsimp only at hSW);go_split_ands;go_simp <;> with_reducible rfl)
 try simp only[zA,zB,zC,Act.put,zD,zE,zF]
 refine wpAnyH_ready (rs:=[13]) (by kernel_rfl) (by simp) ?_
 refine AllReadyH.cons rfl (fun KK hKK=>?_) (AllReadyH.nil)
 try simp only[zA,zB,zC]
 go_simp
 refine hKK.out _ _ ?_ (fun hHeld=>?_)
 ·exact HK.out _ HK3.out
 clear hKK KK
 try simp only[zA,zB,zC,Act.put,zD,zE,zF]
 refine wpAnyH_ready (rs:=[23]) (by kernel_rfl) (by simp) ?_
 refine AllReadyH.cons rfl (fun KK hKK=>?_) (AllReadyH.nil)
 try simp only[zA,zB,zC]
 go_simp
 (go_at_call 128;refine(pR _ _ _ (by have:=HS1.out;omega)).mono ?_;rintro e w4 ⟨⟨zc,rfl⟩,hw⟩;rw[hw];clear hw)
 try go_wp2_with fail
 refine hKK.out _ _ ?_ (fun hHeld=>?_)
 ·exact HK.out _ HK3.out
 clear hKK KK
 try simp only[zA,zB,zC,Act.put,zD,zE,zF]
 refine tkV 24 (.pointer (some ⟨vg,d,none⟩)) rfl (fun W hSW=>?_) hHeld ?_
 ·((try dsimp only at hSW);go_split_ands;go_simp <;> with_reducible rfl)
 try simp only[zA,zB,zC,Act.put,zD,zE,zF]
 refine wpAnyH_ready (rs:=[25]) (by kernel_rfl) (by simp) ?_
 refine AllReadyH.cons rfl (fun KK hKK=>?_) (AllReadyH.nil)
 try simp only[zA,zB,zC]
 go_simp
 refine hKK.out _ _ ?_ (fun hHeld=>?_)
 ·exact HK.out _ (HK3.out.num (HN.out.chg HK3.out.chg) hvB _ _)
 clear hKK KK
 try simp only[zA,zB,zC,Act.put,zD,zE,zF]
 refine wpAnyH_done (by kernel_rfl) ?_ _
 have g3:=(HK3.out.num (HN.out.chg HK3.out.chg) hvB d zc).mach G2.out
 clear hHeld hzd hfd hza
 change Mach K mf W0 (World.drew (World.setCell w2 _ _)) _ _ _ at g3
 generalize World.drew (World.setCell w2 _ _)=w5 at g3 ⊢
 obtain⟨p1,p2,p3⟩:=g3.next HZ.out
 have HP:=zH p3
 clear p3 g3
 go_wp2_with fail
 go_end0
 exact .inl ⟨rfl,_,HP.out.more (by omega)⟩
end
end Go.Proofs.YtjngffgkllakaaaGreatDoor.IP
