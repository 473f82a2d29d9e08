/- A part of a proof: laws that the last text uses. -/
import Derived.Test.YtjngffgkllakaaaGreatDoorZ01
import Derived.Test.YtjngffgkllakaaaGreatDoorZ02
import Derived.Test.YtjngffgkllakaaaGreatDoorZ03
import Derived.Test.YtjngffgkllakaaaGreatDoorZ04
import Derived.Shelf.Small.Bits
import Derived.Shelf.Strconv.Itoa0
import Derived.Shelf.Sort.Plain
import Derived.Shelf.Bits.Mul64
import Derived.Shelf.Slices.Turned
import Derived.Shelf.Slices.Reverse
import Derived.Shelf.Slices.Equal
import Derived.Ground.Names2Prog
import Derived.Shelf.Slices.Clone
import Derived.Shelf.Slices.CompactI
import Derived.Shelf.Slices.Cells
import Derived.Shelf.Slices.In.SortNone
import Derived.Shelf.Slices.Empties2
import Derived.Test.YtjngffgkllakaaaGreatDoorProg
import Derived.RangeFuncBox
import Derived.RangeFuncFrom
import Derived.Maps.AppendAt
import Derived.Sort.OwnSortedInts
import Derived.Lib.SlicesCompact
import Derived.Deep.Cut
import Derived.Deep.RegionHeld3
import Derived.Deep.AppendLies
set_option linter.unusedSimpArgs false
set_option linter.unusedVariables false
namespace Go.Proofs.YtjngffgkllakaaaGreatDoor
open List renaming getElem_toArray → zA, getElem_cons_succ → zB, getElem_cons_zero → zC, setIfInBounds_toArray → zD, set_cons_zero → zE, set_cons_succ → zF
open Lib renaming hid → zH
section
open Go.RowKit
theorem ia(n:Nat)(p:Nat->Bool):(∃k:Nat,GG.cE n p=(k:Int)/\k<n)∨GG.cE n p = -1:=by
 unfold GG.cE
 cases e:(List.range n).find? p with
 | none=>exact .inr rfl
 | some k=>exact .inl ⟨k,rfl,List.mem_range.1 (List.mem_of_find?_eq_some e)⟩
def gr(to:List (List Int)):Prop:=ft to = -1/\fU to = -1/\((GG.bR to)[0]?.getD []).length=0
set_option maxRecDepth 100000 in
set_option maxHeartbeats 3200000 in
theorem sK{v:Value}{to:List (List Int)}(W:World)(hv:aq W.heap.size W v to)(hx:cQ to)(hr:GG.al to=true)(h0:0<to.length) :
 Calls Tryz.prog 88 #[v] W fun e W'=>(∃i k:Nat,e=.returned (.tuple #[.int .i64 i,.int .i64 k])/\(k=0↔gr to)/\i<to.length)/\Below W.heap.size W W':=by
 have HV:=zH hv
 have HX:=zH hx
 have hl:ft to=GG.cE to.length (fun x=>!GG.reachB to (-1) 0 x):=if_pos hr
 have hs:fU to=GG.cE to.length (fun x=>!GG.endsB to x):=if_pos hr
 have hb:gH to=GG.bR to:=if_pos hr
 have HBE:=zH hb
 have hbl:0<(GG.bR to).length:=by rw[GG.cg];exact h0
 have HBL:=zH hbl
 obtain⟨va,vc,rfl⟩:=hv.form
 clear hv hx hr hb hbl
 rcases ia to.length (fun x=>!GG.reachB to (-1) 0 x) with⟨k,ek,hk⟩ | ek
 ·rw[ek] at hl
  have HL:=zH hl
  have HK:=zH (show (16=0↔gr to)/\k<to.length from⟨⟨(fun h=>by cases h),(fun h=>by have:=h.1;omega)⟩,hk⟩)
  clear hl hs ek hk
  go_enter Tryz.func88,Tryz.ntmps88
  go_wp2_with (go_at_call 138;refine(iv _ HV.out HX.out).mono ?_;rintro e w' ⟨rfl,hB⟩;have HB:=zH hB;clear hB;rw[HL.out,gX])
  go_ret2
  exact⟨⟨k,16,rfl,HK.out⟩,HB.out⟩
 ·rw[ek] at hl
  have HL:=zH hl
  rcases ia to.length (fun x=>!GG.endsB to x) with⟨k,ek2,hk⟩ | ek2
  ·rw[ek2] at hs
   have HS:=zH hs
   have HK:=zH (show (17=0↔gr to)/\k<to.length from⟨⟨(fun h=>by cases h),(fun h=>by have:=h.2.1;omega)⟩,hk⟩)
   clear hl hs ek ek2 hk
   go_enter Tryz.func88,Tryz.ntmps88
   go_wp2_with (first
    | (go_at_call 138;refine(iv _ HV.out HX.out).mono ?_;rintro e w' ⟨rfl,hB⟩;have HB:=zH hB;clear hB;rw[HL.out,dg])
    | (go_at_call 139;refine(nt _ (HV.out.on HB.out HB.out.size) HX.out).mono ?_;rintro e w2 ⟨rfl,hB2⟩;have HB2:=zH (bstep HB.out hB2);clear hB2;rw[HS.out,gX]))
   go_ret2
   exact⟨⟨k,17,rfl,HK.out⟩,HB2.out⟩
  ·rw[ek2] at hs
   have HS:=zH hs
   have HK:=zH (show ((GG.bR to)[0]?.getD []).length=0->gr to from fun h=>⟨hl,hs,h⟩)
   clear hl hs ek ek2
   have HZ:=zH h0
   clear h0
   go_enter Tryz.func88,Tryz.ntmps88
   go_upto_region 7 with(first
    | (go_at_call 138;refine(iv _ HV.out HX.out).mono ?_;rintro e w' ⟨rfl,hB⟩;have HB:=zH hB;clear hB;rw[HL.out,dg])
    | (go_at_call 139;refine(nt _ (HV.out.on HB.out HB.out.size) HX.out).mono ?_;rintro e w2 ⟨rfl,hB2⟩;have HB2:=zH (bstep HB.out hB2);clear hB2;rw[HS.out,dg]))
   obtain⟨z,ez⟩:∃z,z=((GG.bR to)[0]?.getD []).length:=⟨_,rfl⟩
   by_cases hz:z=0
   ·subst hz
    have HZZ:=zH ez.symm
    clear ez
    go_wp2_with (go_at_call 90;refine(iy _ (HV.out.on HB2.out HB2.out.size) HX.out).mono ?_;rintro e w3 ⟨bv,rfl,hg3,hB3⟩;rw[HBE.out] at hg3;have HB3:=zH (bstep HB2.out hB3);obtain⟨b,off,cap,rfl⟩:=hg3.addr HBL.out;obtain⟨ra,rc,hrow,_⟩:=hg3.at HBL.out;rw[Nat.add_zero,HZZ.out] at hrow;have hbl:=HBL.out;clear hg3 hB3)
    go_ret2
    exact⟨⟨0,0,rfl,⟨fun _=>HK.out HZZ.out,fun _=>rfl⟩,HZ.out⟩,HB3.out⟩
   ·have HZZ:=zH ez.symm
    have HZ1:=zH hz
    clear ez
    go_wp2_with (go_at_call 90;refine(iy _ (HV.out.on HB2.out HB2.out.size) HX.out).mono ?_;rintro e w3 ⟨bv,rfl,hg3,hB3⟩;rw[HBE.out] at hg3;have HB3:=zH (bstep HB2.out hB3);obtain⟨b,off,cap,rfl⟩:=hg3.addr HBL.out;obtain⟨ra,rc,hrow,_⟩:=hg3.at HBL.out;rw[Nat.add_zero,HZZ.out] at hrow;have hbl:=HBL.out;clear hg3 hB3)
    go_ret2
    exact⟨⟨0,18,rfl,⟨(fun h=>by cases h),(fun h=>absurd (HZZ.out.symm.trans h.2.2) HZ1.out)⟩,HZ.out⟩,HB3.out⟩
theorem nK{B B':Nat}{e:TypeId}{k:Nat}{v:Value}{n:Nat}{xs:List Value}{w:World}(h:w.ownsRow B e k v n xs)(hb:B'<=B):w.ownsRow B' e k v n xs:=by
 refine⟨h.1,?_⟩
 rcases h.2 with h2 | ⟨g,cap,cur,h3,h4,h5⟩
 ·exact .inl h2
 ·exact .inr ⟨g,cap,cur,h3,by omega,h5⟩
theorem sL{B:Nat}{e:TypeId}{k:Nat}{v:Value}{n:Nat}{xs:List Value}{w w':World}(h:w.ownsRow B e k v n xs)(hb:Below w.heap.size w w'):w'.ownsRow B e k v n xs :=
 h.kept (row:=none) ⟨hb.os,hb.tape,hb.output,hb.size,fun j hj _=>hb.block j hj⟩ (by cases hv:v.ownBlock <;> simp)
theorem qH{B:Nat}{w w':World}{vs:List Value}{to:List (List Int)}(h:GG.Rows B w vs to)(hb:Below w.heap.size w w'):GG.Rows B w' vs to :=
 h.grown (b:=none) ⟨hb.os,hb.tape,hb.output,hb.size,fun j hj _=>hb.block j hj⟩ (fun k e=>by cases e)
noncomputable def chainsTo (xs:List Int) (i:Nat):List (List Int):=(List.range i).map fun(j:Nat)=>DD.chainL xs (j:Int)
noncomputable def chainsL (xs:List Int):List (List Int):=chainsTo xs xs.length
theorem ng(xs:List Int)(i:Nat):chainsTo xs i ++ [DD.chainL xs (i:Int)]=chainsTo xs (i+1):=by
 unfold chainsTo
 rw[List.range_succ,List.map_append]
 rfl
theorem ib(xs:List Int)(i:Nat):(chainsTo xs i).length=i:=by unfold chainsTo;rw[List.length_map,List.length_range]
theorem mf(xs:List Int){i:Nat}(hi:i<xs.length):(chainsL xs)[i]?.getD []=DD.chainL xs (i:Int):=by
 unfold chainsL chainsTo
 rw[List.getElem?_map,List.getElem?_range hi]
 rfl
set_option maxRecDepth 100000 in
set_option maxHeartbeats 3200000 in
theorem sM{v:Value}{xs:List Int}(W:World)(hv:Row W.heap.size W v xs)(hx:xs.length<=4294967296) :
 Calls Tryz.prog 91 #[v] W fun e W'=>qj W.heap.size (chainsL xs) e W W':=by
 obtain⟨va,vc,rfl⟩:=hv.form
 obtain⟨j0,hj,hy0,hy1,hy2⟩:=info_parts Tryz.infoGRow
 have HV:=zH hv
 clear hv
 go_enter Tryz.func91,Tryz.ntmps91
 go_wp2_with fail
 go_loopw [3,7] (fun o k wr=>∃(i:Nat) (vs:List Value),i<=xs.length/\k=.int .i64 (i:Int)/\wr.ownsRow W.heap.size 54 1 o i vs/\GG.Rows W.heap.size wr vs (chainsTo xs i)/\Below W.heap.size W wr) (fun _ k _=>xs.length-(intOf k).toNat)
 case atStart=>exact⟨0,[],by omega,rfl,World.ownsRow_nil _ _ _ _,GG.Rows.nil _ _,Below.refl _ _⟩
 case round =>
  obtain⟨i,vs,hi',rfl,hO,hR,hB⟩:=hrel
  have HO:=zH hO
  have HR:=zH hR
  have HB:=zH hB
  clear hO hR hB
  by_cases hlt:i<xs.length
  ·have i1:(0:Int)<=i/\(i:Int)<xs.length:=by omega
   have HC:=zH (sJ (i:Int) wr (HV.out.on HB.out HB.out.size) (by omega))
   have HLT:=zH hlt
   have HS:=zH (ng xs i)
   have hcl:=me xs (i:Int)
   obtain⟨ch,ech⟩:∃ch,ch=DD.chainL xs (i:Int):=⟨_,rfl⟩
   rw[<-ech] at HC HS hcl
   clear ech
   go_wp2_with (first
    | (go_at_call 143
       refine HC.out.mono ?_
       rintro e w1 ⟨r,rfl,hr,hb1⟩
       obtain⟨ra,rc,rfl⟩:=GG.aI hr
       have HRO:=zH (nK hr HB.out.size)
       have HOO:=zH (sL HO.out hb1)
       have HRR:=zH (qH HR.out hb1)
       have HB1:=zH (bstep HB.out hb1)
       clear hr hb1)
    | (at_builtin
       refine GG.wpList_append_any rfl _ _ 32 rfl W.heap.size 54 j0 (.slice none 0 0) 1 24 Tryz.underlying32 hj hy0 hy1 hy2 rfl (by decide) u3 i vs rfl (HOO.out.alloc _) (.slice (some ⟨w1.heap.size,0,none⟩) 1 1) 1 [.slice ra ch.length rc] rfl rfl (.inr ⟨_,_,rfl,GG.aW _ _ _⟩) (by intro u hu;rw[List.mem_singleton.1 hu];rfl) (by unfold maxLen;omega) (by omega) (by have:=HB1.out.size;simp;omega) ?_
       intro v2 w2 ho hg
       have HD:=zH (show w2.ownsRow W.heap.size 54 1 v2 (i+1) (vs ++ [.slice ra ch.length rc])/\GG.Rows W.heap.size w2 (vs ++ [.slice ra ch.length rc]) (chainsTo xs (i+1))/\Below W.heap.size W w2 from⟨ho,by rw[<-HS.out];exact((HRR.out.snoc HRO.out).alloc _).kept (HOO.out.alloc _) (by decide) hg,(HB1.out.alloc HB1.out.size _).grown hg (by have:=HB1.out.size;simp;omega) (fun k e=>(HOO.out.lt k e).1)⟩)
       clear ho hg))
   go_roundw
   case rel=>exact⟨i+1,_,HLT.out,by go_num,HD.out.1,HD.out.2.1,HD.out.2.2⟩
   case measure=>have:=HLT.out;simp [intOf];omega
  ·have e0:i=xs.length:=by omega
   subst e0
   have HE:=zH (show aq wr.heap.size wr u3 (chainsL xs) from(show GG.Rows W.heap.size wr vs (chainsL xs) from HR.out).graph (by rw[show (chainsL xs).length=xs.length from ib xs _];exact HO.out))
   go_wp2_with fail
   go_ret
   exact⟨_,rfl,HE.out,HB.out⟩
end
section
open Go.RowKit
open CD (OpP BodyP CodeP aj blAt fnAt)
structure FnM (n₀ Fb:Nat) (b:BodyP) (f:Nat->Int) (back over:List (List Int)) (ba:Option Addr) (bc g:Nat) (kv ov:Value) (W:World):Prop where
 lt:Fb<n₀
 glt:g<n₀
 box:W.heap[Fb]?=some (.cells #[.int .i64 b.pa,.int .i64 b.va,.slice ba b.bs.length bc,.slice (some ⟨g,0,none⟩) b.va.toNat b.va.toNat,kv,ov] 166)
 defs:PN W g b.va.toNat f
 back:aq n₀ W kv back
 over:aq n₀ W ov over
 bs:aU n₀ W (.slice ba b.bs.length bc) b.bs
theorem FnM.below{n₀ Fb:Nat}{b:BodyP}{f:Nat->Int}{back over:List (List Int)}{ba:Option Addr}{bc g:Nat}{kv ov:Value}{A B:World}(h:FnM n₀ Fb b f back over ba bc g kv ov A)(hb:Below n₀ A B):FnM n₀ Fb b f back over ba bc g kv ov B :=
 ⟨h.lt,h.glt,(hb.block _ h.lt).trans h.box,World.rowIs.of_block h.defs (hb.block _ h.glt),h.back.below hb,h.over.below hb,h.bs.below hb⟩
theorem qI{n₀:Nat}{v:Value}{l:List Int}{W:World}(h:Row n₀ W v l)(hl:l.length<=4000)(x:Int)(d:Nat):Calls Tryz.prog 62 #[v,.int .i64 x] (W.drewN d) fun e w'=>e=.returned (.bool (decide (x∈l)))/\∃k,w'=W.drewN k :=
 (pB x (W.drewN d) (h.drewN d) (by omega)).mono fun _ _ h=>⟨h.1,d,h.2⟩
def du(b:BodyP)(f:Nat->Int)(over:List (List Int))(v bi:Nat)(ki:Int):Bool :=
 if (v:Int)<b.pa then true else if f (v*2)=bi then decide (f (v*2+1)<ki) else decide (f (v*2)∈over[bi]?.getD [])
set_option maxRecDepth 100000 in
set_option maxHeartbeats 3200000 in
theorem nL{n₀ Fb:Nat}{b:BodyP}{f:Nat->Int}{back over:List (List Int)}{ba:Option Addr}{bc g:Nat}{kv ov:Value}(v bi:Nat)(ki:Int)(W:World)(h:FnM n₀ Fb b f back over ba bc g kv ov W)(hn:n₀<=W.heap.size)(hv:(v:Int)<b.va)(hva:b.va<=4000)(hbi:bi<over.length)(hol:over.length<=4000)(hor:(over[bi]?.getD []).length<=4000) :
 Calls Tryz.prog 151 #[.pointer (some ⟨Fb,0,none⟩),.int .i64 v,.agg #[.int .i64 bi,.int .i64 ki]] W fun e W'=>e=.returned (.bool (du b f over v bi ki))/\Below W.heap.size W W':=by
 obtain⟨pa,epa⟩:∃pa,pa=b.pa:=⟨_,rfl⟩
 obtain⟨vn,evn⟩:∃vn:Nat,b.va=(vn:Int):=⟨b.va.toNat,by omega⟩
 have hvn:v<vn:=by omega
 have i1:(v:Int)<vn:=by omega
 have i2:vn<=4000:=by omega
 have hbox:=h.box
 rw[evn,Int.toNat_natCast,<-epa] at hbox
 have hd:=h.defs
 rw[evn,Int.toNat_natCast] at hd
 have hlt:=h.lt
 have hglt:=h.glt
 have c0:W.cell? ⟨Fb,0,none⟩=some (.int .i64 pa):=cell_of_row _ _ 0 _ _ _ hbox
 have c3:W.cell? ⟨Fb,3,none⟩=some (.slice (some ⟨g,0,none⟩) vn vn):=cell_of_row _ _ 3 _ _ _ hbox
 have c5:W.cell? ⟨Fb,5,none⟩=some ov:=cell_of_row _ _ 5 _ _ _ hbox
 have d0:W.cell? ⟨g,v*2,none⟩=some (.int .i64 (f (v*2))):=World.rowIs.cell hd (by omega)
 have d1:W.cell? ⟨g,v*2+1,none⟩=some (.int .i64 (f (v*2+1))):=World.rowIs.cell hd (by omega)
 obtain⟨ob,oo,oc,rfl⟩:=h.over.addr (by omega)
 obtain⟨ra,rc,hrow,hr⟩:=h.over.at hbi
 obtain⟨row,erow⟩:∃row,row=over[bi]?.getD []:=⟨_,rfl⟩
 obtain⟨p0,ep0⟩:∃p0,p0=f (v*2):=⟨_,rfl⟩
 obtain⟨p1,ep1⟩:∃p1,p1=f (v*2+1):=⟨_,rfl⟩
 rw[<-ep0] at d0
 rw[<-ep1] at d1
 rw[<-erow] at hrow hr hor
 have HT:=zH (show du b f over v bi ki=(if (v:Int)<pa then true else if p0=bi then decide (p1<ki) else decide (p0∈row)) by unfold du;rw[ep0,ep1,erow,epa])
 have i3:(bi:Int)<over.length:=by omega
 have i4:(0:Int)<=v/\(0:Int)<=bi:=by omega
 have hlW:Fb<W.heap.size:=by omega
 have hgW:g<W.heap.size:=by omega
 have hoW:ob<W.heap.size:=by
  rcases Nat.lt_or_ge ob W.heap.size with h1 | h1
  ·exact h1
  ·simp [World.cell?,Array.getElem?_eq_none h1] at hrow
 have HR:=zH hr
 have HHN:=zH hn
 rw[HT.out]
 clear h hbox hd hr HT erow ep0 ep1 epa hn hlt hglt
 by_cases h1:(v:Int)<pa
 ·rw[if_pos h1]
  go_enter Tryz.func151,Tryz.ntmps151
  go_wp2_with fail
  go_ret
  exact⟨rfl,((Below.refl _ _).alloc (Nat.le_refl _) _).alloc (by simp) _⟩
 ·rw[if_neg h1]
  by_cases h2:p0=(bi:Int)
  ·rw[if_pos h2]
   subst h2
   go_enter Tryz.func151,Tryz.ntmps151
   go_wp2_with fail
   go_ret
   exact⟨rfl,((Below.refl _ _).alloc (Nat.le_refl _) _).alloc (by simp) _⟩
  ·rw[if_neg h2]
   have HBW:=zH (((Below.refl W.heap.size W).alloc (Nat.le_refl _) (.cells #[.int .i64 bi,.int .i64 ki] 242)).alloc (by simp) (.cells #[.int .i64 p0,.int .i64 p1] 242))
   go_enter Tryz.func151,Tryz.ntmps151
   go_upto_region 6 with fail
   have e5:((W.alloc (.cells #[.int .i64 bi,.int .i64 ki] 242)).alloc (.cells #[.int .i64 p0,.int .i64 p1] 242)).cell? ⟨Fb,5,none⟩=some (.slice (some ⟨ob,oo,none⟩) over.length oc):=(HBW.out.cell (p:=⟨Fb,5,none⟩) hlW).trans c5
   have er:((W.alloc (.cells #[.int .i64 bi,.int .i64 ki] 242)).alloc (.cells #[.int .i64 p0,.int .i64 p1] 242)).cell? ⟨ob,oo+bi,none⟩=some (.slice ra row.length rc):=(HBW.out.cell (p:=⟨ob,oo+bi,none⟩) hoW).trans hrow
   have g1:=cell_of_row _ _ 0 _ _ _ (heap_alloc (heap_alloc_new W (.cells #[.int .i64 bi,.int .i64 ki] 242)) (.cells #[.int .i64 p0,.int .i64 p1] 242))
   have g2:=heap_alloc_new (W.alloc (.cells #[.int .i64 bi,.int .i64 ki] 242)) (.cells #[.int .i64 p0,.int .i64 p1] 242)
   rw[World.size_alloc] at g2
   have g3:=cell_of_row _ _ 0 _ _ _ g2
   have HRW:=zH (HR.out.below (HBW.out.mono HHN.out))
   clear g2 c0 c3 c5 d0 d1 hrow HR
   generalize ((W.alloc (.cells #[.int .i64 bi,.int .i64 ki] 242)).alloc (.cells #[.int .i64 p0,.int .i64 p1] 242))=W2 at e5 er g1 g3 HBW HRW ⊢
   replace g1:W2.cell? ⟨W.heap.size,0,none⟩=some (.int .i64 bi):=g1
   replace g3:W2.cell? ⟨W.heap.size+1,0,none⟩=some (.int .i64 p0):=g3
   go_quiet ((go_at_call 62;exact(qI HRW.out (by omega) p0 _)))
   go_wp2_with fail
   go_ret
   exact⟨rfl,HBW.out.trans ⟨rfl,rfl,rfl,Nat.le_refl _,fun _ _=>rfl⟩⟩
def aV(b:BodyP)(x:OpP)(j i:Nat)(k:Int):Int × Int:=if x.k=3 then (x.ys[j]?.getD 0,((blAt b (x.ys[j]?.getD 0).toNat).length:Int)) else ((i:Int),k)
set_option maxRecDepth 100000 in
set_option maxHeartbeats 3200000 in
theorem mg{n₀ Fb:Nat}{b:BodyP}{f:Nat->Int}{back over:List (List Int)}{ba:Option Addr}{bc g:Nat}{kv ov:Value}(x:OpP)(xa ya:Option Addr)(xc yc j i:Nat)(k:Int)(W:World)(h:FnM n₀ Fb b f back over ba bc g kv ov W)(hn:n₀<=W.heap.size)(hy:Row n₀ W (.slice ya x.ys.length yc) x.ys)(hj:x.k=3->j<x.ys.length/\0<=x.ys[j]?.getD 0/\x.ys[j]?.getD 0<(b.bs.length:Nat))(hb:b.bs.length<=4000) :
 Calls Tryz.prog 152 #[.pointer (some ⟨Fb,0,none⟩),.agg (aF (opC x xa xc ya yc)).toArray,.int .i64 j,.agg #[.int .i64 i,.int .i64 k]] W fun e W'=>e=.returned (.agg #[.int .i64 (aV b x j i k).1,.int .i64 (aV b x j i k).2])/\Below W.heap.size W W':=by
 by_cases h3:x.k=3
 ·obtain⟨h4,h5,h6⟩:=hj h3
  obtain⟨yb,yo,rfl,hyc⟩:=hy.cellAt h4
  have hyl:yb<n₀:=by
   rcases hy with⟨_,e⟩ | ⟨b1,o1,c1,e,hb1,_⟩
   ·have e1:(ap x.ys).length=0:=by rw[e];rfl
    rw[aY] at e1
    omega
   ·have e2:=(Value.slice.inj e).1
    simp at e2
    omega
  obtain⟨fr,efr⟩:∃fr:Nat,x.ys[j]?.getD 0=(fr:Int):=⟨(x.ys[j]?.getD 0).toNat,by omega⟩
  have HN:=zH (show aV b x j i k=((fr:Int),((blAt b fr).length:Int)) by unfold aV;rw[if_pos h3,efr,Int.toNat_natCast])
  rw[efr] at hyc h5 h6
  have hfr:fr<b.bs.length:=by omega
  obtain⟨bb,bo,ba',bc',rfl,hbb,hbc,hops⟩:=h.bs.at hfr
  obtain⟨bl,ebl⟩:∃bl,bl=(blAt b fr).length:=⟨_,rfl⟩
  rw[show (b.bs[fr]?.getD []).length=bl from ebl.symm] at hbc
  rw[<-ebl] at HN
  have hbox2:W.cell? ⟨Fb,2,none⟩=some (.slice (some ⟨bb,bo,none⟩) b.bs.length bc):=cell_of_row _ _ 2 _ _ _ h.box
  have hlt:=h.lt
  obtain⟨yl,eyl⟩:∃yl,yl=x.ys.length:=⟨_,rfl⟩
  obtain⟨xk,exk⟩:∃xk,xk=x.k:=⟨_,rfl⟩
  unfold opC aF
  rw[HN.out]
  simp only
  rw[<-eyl] at h4
  rw[<-eyl,h3]
  have HB3:=zH ((((Below.refl W.heap.size W).alloc (Nat.le_refl _) (.cells #[.int .u8 3,.int .u8 x.o,.int .i64 x.d,.int .i64 x.r,.int .i64 x.a,.slice xa x.xs.length xc,.slice (some ⟨yb,yo,none⟩) yl yc,.int .i64 x.n,.int .i64 x.t] 56)).alloc (by simp) (.cells #[.int .i64 i,.int .i64 k] 242)).alloc (by simp;omega) (.cells #[.int .i64 0,.int .i64 0] 242))
  have f1:=cell_of_row _ _ 6 _ _ _ (heap_alloc (heap_alloc (heap_alloc_new W (.cells #[.int .u8 3,.int .u8 x.o,.int .i64 x.d,.int .i64 x.r,.int .i64 x.a,.slice xa x.xs.length xc,.slice (some ⟨yb,yo,none⟩) yl yc,.int .i64 x.n,.int .i64 x.t] 56)) (.cells #[.int .i64 i,.int .i64 k] 242)) (.cells #[.int .i64 0,.int .i64 0] 242))
  have g2:=heap_alloc_new ((W.alloc (.cells #[.int .u8 3,.int .u8 x.o,.int .i64 x.d,.int .i64 x.r,.int .i64 x.a,.slice xa x.xs.length xc,.slice (some ⟨yb,yo,none⟩) yl yc,.int .i64 x.n,.int .i64 x.t] 56)).alloc (.cells #[.int .i64 i,.int .i64 k] 242)) (.cells #[.int .i64 0,.int .i64 0] 242)
  rw[World.size_alloc,World.size_alloc] at g2
  have i1:(0:Int)<=j/\(j:Int)<yl:=by omega
  have i2:(fr:Int)<b.bs.length:=by omega
  clear hops efr h h3 hy hj ebl exk HN eyl
  go_enter Tryz.func152,Tryz.ntmps152
  go_upto_region 3 with fail
  have HG:=zH g2
  have f2:=(HB3.out.cell (p:=⟨yb,yo+j,none⟩) (by show yb<_;omega)).trans hyc
  have f3:=(HB3.out.cell (p:=⟨Fb,2,none⟩) (by show Fb<_;omega)).trans hbox2
  have f4:=(HB3.out.cell (p:=⟨bb,bo+fr,none⟩) (by show bb<_;omega)).trans hbc
  clear g2 hyc hbox2 hbc
  generalize (((W.alloc (.cells #[.int .u8 3,.int .u8 x.o,.int .i64 x.d,.int .i64 x.r,.int .i64 x.a,.slice xa x.xs.length xc,.slice (some ⟨yb,yo,none⟩) yl yc,.int .i64 x.n,.int .i64 x.t] 56)).alloc (.cells #[.int .i64 i,.int .i64 k] 242)).alloc (.cells #[.int .i64 0,.int .i64 0] 242))=W3 at HB3 f1 HG f2 f3 f4 ⊢
  replace f1:W3.cell? ⟨W.heap.size,6,none⟩=some (.slice (some ⟨yb,yo,none⟩) yl yc):=f1
  have z0:W3.cell? ⟨W.heap.size+1+1,0,none⟩=some (.int .i64 0):=cell_of_row _ _ 0 _ _ _ HG.out
  have z1:W3.cell? ⟨W.heap.size+1+1,1,none⟩=some (.int .i64 0):=cell_of_row _ _ 1 _ _ _ HG.out
  have z2:W3.frozen? ⟨W.heap.size+1+1,0,none⟩=false:=by simp [World.frozen?,HG.out]
  have z3:W3.frozen? ⟨W.heap.size+1+1,1,none⟩=false:=by simp [World.frozen?,HG.out]
  go_wp2_with fail
  have y0:((W3.setCell ⟨W.heap.size+1+1,0,none⟩ (.int .i64 fr)).setCell ⟨W.heap.size+1+1,1,none⟩ (.int .i64 bl)).cell? ⟨W.heap.size+1+1,0,none⟩=some (.int .i64 fr) :=
   (World.cell?_setCell_other _ _ _ _ (by simp)).trans (World.cell?_setCell_same' _ _ _ (by rw[z0];rfl))
  have y1:((W3.setCell ⟨W.heap.size+1+1,0,none⟩ (.int .i64 fr)).setCell ⟨W.heap.size+1+1,1,none⟩ (.int .i64 bl)).cell? ⟨W.heap.size+1+1,1,none⟩=some (.int .i64 bl) :=
   World.cell?_setCell_same' _ _ _ (by rw[World.cell?_setCell_other _ _ _ _ (by simp),z1];rfl)
  refine bodyPost_ret (v:=.agg #[.int .i64 fr,.int .i64 bl]) ?_ rfl ?_
  ·simp [results,Tryz.f152,go_sem,y0,y1]
  ·exact⟨rfl,(HB3.out.setCell (p:=⟨W.heap.size+1+1,0,none⟩) (by simp;omega) _).setCell (p:=⟨W.heap.size+1+1,1,none⟩) (by simp;omega) _⟩
 ·have HN:=zH (show aV b x j i k=((i:Int),k) from if_neg h3)
  have HB:=zH h3
  clear h hy hj
  rw[HN.out]
  unfold opC aF
  obtain⟨xk,exk⟩:∃xk,xk=x.k:=⟨_,rfl⟩
  rw[<-exk] at h3
  go_enter Tryz.func152,Tryz.ntmps152
  have HBW:=zH (((Below.refl W.heap.size W).alloc (Nat.le_refl _) (.cells #[.int .u8 x.k,.int .u8 x.o,.int .i64 x.d,.int .i64 x.r,.int .i64 x.a,.slice xa x.xs.length xc,.slice ya x.ys.length yc,.int .i64 x.n,.int .i64 x.t] 56)).alloc (by simp) (.cells #[.int .i64 i,.int .i64 k] 242))
  have g2:=heap_alloc_new ((W.alloc (.cells #[.int .u8 x.k,.int .u8 x.o,.int .i64 x.d,.int .i64 x.r,.int .i64 x.a,.slice xa x.xs.length xc,.slice ya x.ys.length yc,.int .i64 x.n,.int .i64 x.t] 56)).alloc (.cells #[.int .i64 i,.int .i64 k] 242)) (.cells #[.int .i64 i,.int .i64 k] 242)
  rw[World.size_alloc,World.size_alloc] at g2
  have g3:=cell_of_row _ _ 0 _ _ _ g2
  have g4:=cell_of_row _ _ 1 _ _ _ g2
  go_wp2_with fail
  refine bodyPost_ret (v:=.agg #[.int .i64 i,.int .i64 k]) ?_ rfl ?_
  ·simp [results,Tryz.f152,go_sem,g3,g4]
  ·exact⟨rfl,HBW.out.alloc (by simp;omega) _⟩
end
end Go.Proofs.YtjngffgkllakaaaGreatDoor
namespace Go.Proofs
open Go.Shelf
def Tryz.lays189_ren:Go.Shelf.Ren:=⟨fun | 189=>33 | 125=>60 | 257=>59 | 128=>103 | 129=>104 | 294=>94 | 295=>95 | 296=>96 | 297=>97 | 298=>98 | 299=>99 | 216=>100 | 300=>101 | 301=>102 | 328=>153 | 329=>154 | 330=>155 | 331=>156 | 332=>157 | 215=>158 | 343=>192 | n=>n,fun | 28=>54 | 3=>3 | 46=>129 | 0=>0 | 51=>176 | 53=>178 | 4=>4 | 183=>170 | 182=>169 | 131=>99 | 5=>5 | 9=>9 | 218=>252 | 222=>256 | 228=>283 | 229=>93 | n=>n,fun | n=>n⟩
theorem Tryz.lays189:Go.Proofs.Lays.n189 Tryz.prog Tryz.lays189_ren:={
 mixed:=by kernel_rfl
 f125:=Tryz.func60.trans (congrArg some (by kernel_rfl))
 f128:=Tryz.func103.trans (congrArg some (by kernel_rfl))
 f129:=Tryz.func104.trans (congrArg some (by kernel_rfl))
 f189:=Tryz.func33.trans (congrArg some (by kernel_rfl))
 f215:=Tryz.func158.trans (congrArg some (by kernel_rfl))
 f216:=Tryz.func100.trans (congrArg some (by kernel_rfl))
 f257:=Tryz.func59.trans (congrArg some (by kernel_rfl))
 f294:=Tryz.func94.trans (congrArg some (by kernel_rfl))
 f295:=Tryz.func95.trans (congrArg some (by kernel_rfl))
 f296:=Tryz.func96.trans (congrArg some (by kernel_rfl))
 f297:=Tryz.func97.trans (congrArg some (by kernel_rfl))
 f298:=Tryz.func98.trans (congrArg some (by kernel_rfl))
 f299:=Tryz.func99.trans (congrArg some (by kernel_rfl))
 f300:=Tryz.func101.trans (congrArg some (by kernel_rfl))
 f301:=Tryz.func102.trans (congrArg some (by kernel_rfl))
 f328:=Tryz.func153.trans (congrArg some (by kernel_rfl))
 f329:=Tryz.func154.trans (congrArg some (by kernel_rfl))
 f330:=Tryz.func155.trans (congrArg some (by kernel_rfl))
 f331:=Tryz.func156.trans (congrArg some (by kernel_rfl))
 f332:=Tryz.func157.trans (congrArg some (by kernel_rfl))
 f343:=Tryz.func192.trans (congrArg some (by kernel_rfl))
 t0:=Tryz.underlying0
 a0:=Tryz.isAgg0
 z0:=Tryz.sizeOf0
 v0:=Tryz.zeroValue0
 t3:=Tryz.underlying3
 a3:=Tryz.isAgg3
 z3:=Tryz.sizeOf3
 v3:=Tryz.zeroValue3
 t4:=Tryz.underlying4
 a4:=Tryz.isAgg4
 z4:=Tryz.sizeOf4
 v4:=Tryz.zeroValue4
 t5:=Tryz.underlying5
 a5:=Tryz.isAgg5
 z5:=Tryz.sizeOf5
 v5:=Tryz.zeroValue5
 t9:=Tryz.underlying9
 a9:=Tryz.isAgg9
 z9:=Tryz.sizeOf9
 v9:=Tryz.zeroValue9
 t28:=Tryz.underlying54
 a28:=Tryz.isAgg54
 z28:=Tryz.sizeOf54
 v28:=Tryz.zeroValue54
 t46:=Tryz.underlying129
 a46:=Tryz.isAgg129
 z46:=Tryz.sizeOf129
 v46:=Tryz.zeroValue129
 t51:=Tryz.underlying176
 a51:=Tryz.isAgg176
 z51:=Tryz.sizeOf176
 v51:=Tryz.zeroValue176
 t53:=Tryz.underlying178
 a53:=Tryz.isAgg178
 z53:=Tryz.sizeOf178
 v53:=Tryz.zeroValue178
 t131:=Tryz.underlying99
 a131:=Tryz.isAgg99
 z131:=Tryz.sizeOf99
 v131:=Tryz.zeroValue99
 t182:=Tryz.underlying169
 a182:=Tryz.isAgg169
 z182:=Tryz.sizeOf169
 v182:=Tryz.zeroValue169
 t183:=Tryz.underlying170
 a183:=Tryz.isAgg170
 z183:=Tryz.sizeOf170
 v183:=Tryz.zeroValue170
 t218:=Tryz.underlying252
 a218:=Tryz.isAgg252
 z218:=Tryz.sizeOf252
 v218:=Tryz.zeroValue252
 t222:=Tryz.underlying256
 a222:=Tryz.isAgg256
 z222:=Tryz.sizeOf256
 v222:=Tryz.zeroValue256
 t228:=Tryz.underlying283
 a228:=Tryz.isAgg283
 z228:=Tryz.sizeOf283
 v228:=Tryz.zeroValue283
 t229:=Tryz.underlying93
 a229:=Tryz.isAgg93
 z229:=Tryz.sizeOf93
 v229:=Tryz.zeroValue93 }
open Go.Sort Go.RowKit in
theorem Tryz.slices_Sort_int(blk off cap:Nat)(zs:List Int)(w:World)(hH:Holds (Value.int .i64) w blk off zs.toArray)(hblk:blk<w.heap.size)(hsz:zs.length<4611686018427387904) :
 Calls Tryz.prog 33 #[.slice (some ⟨blk,off,none⟩) zs.length cap] w fun e w' =>
  e=.returned (.tuple #[])/\∃n os,w'=grow (putRow (Value.int .i64) (Sort.ahead w n) blk off (zs.mergeSort fun x y=>decide (x<=y)).toArray) os:=Any.slices_Sort_int Tryz.lays189 blk off cap zs w hH hblk hsz
open Go.RowKit Go.Sort in
theorem Tryz.slices_Sort_int_none(p:Option Addr)(cap:Nat)(w:World) :
 Calls Tryz.prog 33 #[.slice p 0 cap] w fun e w'=>e=.returned (.tuple #[])/\w'=w:=Any.slices_Sort_int_none Tryz.lays189 p cap w
end Go.Proofs
namespace Go.Proofs.YtjngffgkllakaaaGreatDoor
open List renaming getElem_toArray → zA, getElem_cons_succ → zB, getElem_cons_zero → zC, setIfInBounds_toArray → zD, set_cons_zero → zE, set_cons_succ → zF
open Lib renaming hid → zH
section
open Go.RowKit Go.Shelf
attribute [local go_sem] Oper.semAt_some
set_option maxRecDepth 100000 in
set_option maxHeartbeats 1600000 in
theorem vals1_in(zs:List Int)(n₀ l Bs:Nat)(a:Option Addr)(c:Nat)(n:Nat)(hn:1<=n)(J Jx:List Int->World->Prop)
 (hY:∀pre x W,J pre W->pre.length<zs.length->YieldAt Fence.wide (n-1) Tryz.prog l #[.int .i64 x] W fun e W' =>
  (e=.returned (.bool true)/\J (pre ++ [x]) W'/\bW n₀ Bs W W')∨(e=.returned (.bool false)/\Jx (pre ++ [x]) W'))
 (W:World) (hBs:W.heap[Bs]?=some (.cells #[.slice a zs.length c] 54)) (hr:Row n₀ W (.slice a zs.length c) zs) (hl:zs.length<=4096) (h0:J [] W) :
 CallsIn Fence.wide n Tryz.prog 223 #[.func (.yield l) #[] #[],.pointer (some ⟨Bs,0,none⟩)] W fun e W'=>(∃v,e=.returned v) /\
  ((∃ys,ys=zs/\J ys W')∨(∃pre,pre <+: zs/\Jx pre W')):=by
 have HR:=zH hr
 have hb:W.cell? ⟨Bs,0,none⟩=some (.slice a zs.length c):=cell_of_row _ _ 0 _ _ _ hBs
 have i0:(zs.length:Int)<=4096:=by omega
 clear hr hBs
 refine callsIn_of_wp Tryz.func223 rfl trivial ?_ rfl
 simp only[Tryz.ntmps223,List.size_toArray,List.length_cons,List.length_nil,Nat.reduceAdd,Nat.reduceSub,Array.replicate_succ,Array.replicate_zero,List.push_toArray,List.append_toArray,List.nil_append,List.cons_append]
 gi_wp2
 gi_loopw [7] (fun k wr=>∃i:Nat,i<=zs.length/\k=.int .i64 (i:Int)/\RowKit.Hid (J (zs.take i) wr/\bW n₀ Bs W wr)) (fun k _=>zs.length-(intOf k).toNat)
 case atStart=>exact⟨0,Nat.zero_le _,rfl,zH ⟨h0,bW.refl _ _ _⟩⟩
 case round =>
  clear hb
  obtain⟨w4,rfl⟩:∃w4,w4=wr:=⟨_,rfl⟩
  obtain⟨i,hi,rfl,HI⟩:=hrel
  by_cases hlt:i<zs.length
  ·obtain⟨zb,zo,rfl,hz⟩:=HR.out.cellAt hlt
   have hzl:zb<n₀:=by
    rcases HR.out with⟨_,e⟩ | ⟨b1,o1,c1,e,hb1,_⟩
    ·have e1:(ap zs).length=0:=by rw[e];rfl
     rw[aY] at e1
     omega
    ·have e2:=(Value.slice.inj e).1
     simp at e2
     omega
   have hz4:w4.cell? ⟨zb,zo+i,none⟩=some (.int .i64 (zs[i]?.getD 0)):=(World.cell?_of_block (a:=⟨zb,zo+i,none⟩) (HI.out.2.2 zb (.inl hzl))).trans hz
   obtain⟨x,ex⟩:∃x,x=zs[i]?.getD 0:=⟨_,rfl⟩
   rw[<-ex] at hz4
   have HT:=zH (show zs.take i ++ [x]=zs.take (i+1) by rw[List.take_succ_eq_append_getElem hlt,ex,List.getElem?_eq_getElem hlt];rfl)
   have HLT:=zH hlt
   have i1:(0:Int)<=i/\(i:Int)<zs.length:=by omega
   obtain⟨fn,tmps,assign,body,hy,hR⟩:=hY (zs.take i) x w4 HI.out.1 (by rw[List.length_take];omega)
   clear hz ex hzl hlt
   gi_wp2
   refine hR.mono ?_
   rintro e W3 (⟨rfl,hJ3,hk3⟩ | ⟨rfl,hJx3⟩)
   ·have HN3:=zH (show J (zs.take (i+1)) W3/\bW n₀ Bs W W3 from⟨by rw[<-HT.out];exact hJ3,HI.out.2.trans hk3⟩)
    clear hJ3 hk3
    gi_wp2
    go_roundw
    case rel=>exact⟨i+1,HLT.out,by go_num,HN3⟩
    case measure=>have:=HLT.out;simp [intOf];omega
   ·gi_wp2
    refine bodyPost_ret (results_none rfl _ _ _) rfl ?_
    exact⟨⟨_,rfl⟩,.inr ⟨_,by rw[HT.out];exact List.take_prefix _ _,hJx3⟩⟩
  ·have e0:i=zs.length:=by omega
   subst e0
   gi_wp2
   go_end0
   exact⟨⟨_,rfl⟩,.inl ⟨zs,rfl,by have:=HI.out.1;rwa [List.take_length] at this⟩⟩
theorem vals_any(a:Option Addr)(len cap:Nat)(w:World):Calls Tryz.prog 191 #[.slice a len cap] w fun e w'=>e=.returned (.func (.func 223) #[] #[.pointer (some ⟨w.heap.size,0,none⟩)])/\w'=w.alloc (.cells #[.slice a len cap] 54):=by
 go_enter Tryz.func191,Tryz.ntmps191
 go_wp2
 go_ret
 exact⟨rfl,rfl⟩
theorem sN(zs:List Int)(n₀ Bs:Nat)(a:Option Addr)(c n:Nat)(hn:1<=n)(w:World)(hs:n₀<=w.heap.size)(hBs:w.heap[Bs]?=some (.cells #[.slice a zs.length c] 54))(hr:Row n₀ w (.slice a zs.length c) zs)(hl:zs.length<=4096) :
 SeqStopsK Fence.wide n Tryz.prog 223 #[.pointer (some ⟨Bs,0,none⟩)] (fun x:Int=>#[Value.int .i64 x]) (bW n₀ Bs) (fun ys=>ys=zs) (fun pre=>pre <+: zs) zs.length w:=fun l J Jx W hW hJ _ hY h0 =>
 vals1_in zs n₀ l Bs a c n hn J Jx hY W ((hW.block Bs (Array.getElem?_eq_some_iff.1 hBs).1).trans hBs) (hr.below (hW.mono hs)) hl h0
theorem sO{W w1:World}{R:Nat}{e:TypeId}{size:Nat}{v:Value}{k:Nat}{xs:List Value}{tmp:Obj}
 (hrow:W.ownsRow R e size v k xs) (hR:R<=W.heap.size) (hgrow:(W.alloc tmp).grownBy w1 v.ownBlock):Below R W w1/\KeepsOthers W w1:=by
 refine⟨((Below.refl R W).alloc hR tmp).grown hgrow (by simp;omega) (fun j ej=>(hrow.lt j ej).1),(KeepsOthers.alloc W tmp).trans (KeepsOthers.of_grownBy hgrow fun j o ej hj=>?_)⟩
 rcases (hrow.alloc tmp).2 with⟨rfl,_⟩ | ⟨g,cap,cur,rfl,_,hgb,_⟩
 ·simp [Value.ownBlock] at ej
 ·obtain rfl:g=j:=by simpa [Value.ownBlock] using ej
  rw[hgb] at hj;cases hj;rfl
theorem pC{W:World}{R B:Nat}{e:TypeId}{size:Nat}{v:Value}{k:Nat}{xs:List Value}(h:W.ownsRow R e size v k xs)(hB:B<R)(u:Value):(W.setCell ⟨B,0,none⟩ u).ownsRow R e size v k xs :=
 h.kept (grownBy_setCell' W B u) (by
  rcases h.2 with⟨rfl,_⟩ | ⟨g,cap,cur,rfl,hg,_⟩
  ·exact .inl rfl
  ·refine .inr fun e'=>?_
   have:g=B:=by simpa [Value.ownBlock] using e'
   omega)
structure ApI (b:Nat) (pre:List Int) (W:World):Prop where
 h:∃v,Boxed W b 54 v/\W.ownsRow (b+1) 3 1 v pre.length (pre.map (Value.int .i64))/\True
 z:b+1<=W.heap.size
theorem ApI.own(b:Nat):Own (ApI b):=fun s A B row hs hg hr =>
 ⟨holdsRow_own (b+1) b 54 3 1 (fun pre:List Int=>pre.length) (fun pre=>pre.map (Value.int .i64)) (fun _ _=>True) s A B row hs.h hg hr,Nat.le_trans hs.z hg.size⟩
theorem bW.of_below{n₀ Bs R:Nat}{A B:World}(h:Below R A B)(hn:n₀<=R)(hb:Bs<R):bW n₀ Bs A B:=⟨h.size,fun k hk=>h.block k (by omega)⟩
set_option maxRecDepth 100000 in
set_option maxHeartbeats 3200000 in
theorem sP(zs:List Int)(n₀ Bs:Nat)(a:Option Addr)(c:Nat)(w:World)(hs:n₀<=w.heap.size)(hBs:w.heap[Bs]?=some (.cells #[.slice a zs.length c] 54))(hr:Row n₀ w (.slice a zs.length c) zs)(hl:zs.length<=4096) :
 Calls Tryz.prog 231 #[.slice none 0 0,.func (.func 223) #[] #[.pointer (some ⟨Bs,0,none⟩)]] w fun e w'=>∃v,e=.returned v/\w'.ownsRow w.heap.size 3 1 v zs.length (ap zs)/\Below w.heap.size w w':=by
 have HR:=zH hr
 have HBs:=zH hBs
 have hBl:=(Array.getElem?_eq_some_iff.1 hBs).1
 clear hr hBs
 refine(callsIn_wide (n:=6)).1 ?_
 refine callsIn_of_wp_marks Tryz.func231 rfl trivial ?_ rfl
 simp only[Tryz.ntmps231,List.size_toArray,List.length_cons,List.length_nil,Nat.reduceAdd,Nat.reduceSub,Array.replicate_succ,Array.replicate_zero,List.push_toArray,List.append_toArray,List.nil_append,List.cons_append]
 refine wpIn_mono (Q:=iX _) ?_ fY
 obtain⟨i0,hi,hz0,hz1,hz2⟩:=info_parts Tryz.infoGInt
 gi_wp2
 have hB1:=(Below.refl w.heap.size w).alloc (Nat.le_refl _) (.cells #[.slice none 0 0] 54)
 have hX:=Boxed.new w 54 (.slice none 0 0)
 have hsz:(w.alloc (.cells #[.slice none 0 0] 54)).heap.size=w.heap.size+1:=World.size_alloc _ _
 have hR1:=(HR.out.below (hB1.mono hs))
 have hBs1:=heap_alloc HBs.out (.cells #[.slice none 0 0] 54)
 generalize w.alloc (.cells #[.slice none 0 0] 54)=W1 at hB1 hX hsz hR1 hBs1 ⊢
 refine wpIn_rangeFunc_ownF rfl (by omega) (gf:=223) (lb:=#[.pointer (some ⟨Bs,0,none⟩)]) rfl trivial (enters_of Tryz.func223 (by kernel_rfl) rfl)
  (sN zs n₀ Bs a c _ (by omega) W1 (by omega) hBs1 hR1 hl) (fun h k=>h.trans k) (px (by omega) (by omega)) (Below.refl _ _) (fun _=>rfl)
  (fun pre W=>ApI w.heap.size pre W/\Below w.heap.size w W)
  (fun _ _ _=>False)
  (OwnFrom.and ((ApI.own _).from _) (ownFrom_below (Nat.le_refl _) (by omega)))
  (fun _ _ _ _ _ hs _ _=>hs)
  ⟨⟨⟨_,hX,World.ownsRow_nil _ _ _ _,trivial⟩,by omega⟩,hB1⟩
  (fun x=>{ tmps:=#[.slice none 0 0,.func (.func 223) #[] #[.pointer (some ⟨Bs,0,none⟩)],.pointer (some ⟨w.heap.size,0,none⟩),undef,.slice none 0 0,.int .i64 x,.func (.func 223) #[] #[.pointer (some ⟨Bs,0,none⟩)],.int .i64 x,undef,undef,undef,undef,undef],defers:=[] }) ?assign ?body ?done ?stop
 case assign =>
  intro l x W K hK
  gi_wp2
  exact hK
 case body =>
  rintro l pre x W ⟨⟨⟨v,hv,hrow,_⟩,hzz⟩,hB⟩ hlt
  obtain⟨a',cap,hva⟩:∃a cap,v=.slice a pre.length cap:=by
   rcases hrow.2 with⟨rfl,h0⟩ | ⟨g,cap,_,rfl,_⟩
   ·exact⟨none,0,by rw[h0]⟩
   ·exact⟨_,_,rfl⟩
  subst hva
  have hvc:=hv.cell
  gi_wp2_with (gi_at_builtin;refine wpListIn_append_own _ rfl _ _ 54 rfl (w.heap.size+1) 3 i0 (.int .i64 0) 1 8 Tryz.underlying54 hi hz0 hz1 hz2 rfl (by decide) _ _ _ rfl (hrow.alloc _) ⟨W.heap.size,0,none⟩ 1 1 [.int .i64 x] rfl rfl (pp _ _ _) (by simp [Value.oneCell']) (by unfold maxLen;omega) (by omega) (by first | (simp;done) | (simp;omega)) ?_;intro v' w3 hown' hgrow _;obtain⟨g',cap',rfl⟩:=ownsRow_succ hown';obtain⟨hb3,hk3⟩:=sO hrow hzz hgrow;have hv3:Boxed w3 w.heap.size 54 (.slice a' pre.length cap):=(hb3.block _ (by omega)).trans hv;have hc1:=hv3.cell;have hf1:=hv3.frozen;clear hvc hgrow)
  have hrow3:w3.ownsRow (w.heap.size+1) 3 1 (.slice (some ⟨g',0,none⟩) (pre.length+1) cap') (pre ++ [x]).length ((pre ++ [x]).map (Value.int .i64)):=by
   rw[List.length_append,List.map_append];exact hown'
  refine⟨hk3.trans (KeepsOthers.setCell _ _ _),(bW.of_below hb3 (by omega) (by omega)).setCell hs (by omega) _ _,⟨⟨_,hv3.set _,pC hrow3 (by omega) _,trivial⟩,by have:=hb3.size;simp;omega⟩,hB.trans ((hb3.mono (by omega)).setCell (p:=⟨w.heap.size,0,none⟩) (by simp) _)⟩
 case done =>
  rintro D ys W hD rfl ⟨⟨⟨v,hv,hrow,_⟩,hzz⟩,hB⟩ hK
  obtain⟨a',cap,rfl⟩:∃a cap,v=.slice a ys.length cap:=by
   rcases hrow.2 with⟨rfl,h0⟩ | ⟨g,cap,_,rfl,_⟩
   ·exact⟨none,0,by rw[h0]⟩
   ·exact⟨_,_,rfl⟩
  have hvc:=hv.cell
  gi_wp2
  refine⟨by simp,.inl ⟨_,_,rfl,run_takeDeferred hK,?_⟩⟩
  exact⟨_,results_tmp rfl _ _ _,_,rfl,nK (ownsRow_putObj hrow _ hK rfl) (by omega),hB.trans (belowK_b (w:=w) (Nat.le_refl _) W D _ _ (by omega) hK rfl rfl)⟩
 case stop =>
  rintro D c pre W _ _ h _
  exact h.elim
theorem qJ(zs:List Int)(n₀ Bs:Nat)(a:Option Addr)(c:Nat)(w:World)(hs:n₀<=w.heap.size)(hBs:w.heap[Bs]?=some (.cells #[.slice a zs.length c] 54))(hr:Row n₀ w (.slice a zs.length c) zs)(hl:zs.length<=4096) :
 Calls Tryz.prog 222 #[.func (.func 223) #[] #[.pointer (some ⟨Bs,0,none⟩)]] w fun e w'=>∃v,e=.returned v/\w'.ownsRow w.heap.size 3 1 v zs.length (ap zs)/\Below w.heap.size w w':=by
 have HA:=zH (sP zs n₀ Bs a c w hs hBs hr hl)
 clear hBs hr
 go_enter Tryz.func222,Tryz.ntmps222
 go_wp2_with (go_at_call 231;refine HA.out.mono ?_;rintro e w1 ⟨v,rfl,ho,hb⟩;obtain⟨va,vc,rfl⟩:=GG.aI ho)
 go_ret
 exact⟨_,rfl,ho,hb⟩
def dX(zs:List Int):List Int:=zs.mergeSort fun x y=>decide (x<=y)
theorem eI(zs:List Int):(dX zs).length=zs.length:=by unfold dX;exact List.length_mergeSort zs
set_option maxHeartbeats 1600000 in
theorem sQ(zs:List Int)(n₀ Bs:Nat)(a:Option Addr)(c:Nat)(w:World)(hs:n₀<=w.heap.size)(hBs:w.heap[Bs]?=some (.cells #[.slice a zs.length c] 54))(hr:Row n₀ w (.slice a zs.length c) zs)(hl:zs.length<=4096) :
 Calls Tryz.prog 190 #[.func (.func 223) #[] #[.pointer (some ⟨Bs,0,none⟩)]] w fun e w'=>∃v,e=.returned v/\w'.ownsRow w.heap.size 3 1 v (dX zs).length (ap (dX zs))/\Below w.heap.size w w':=by
 have HA:=zH (qJ zs n₀ Bs a c w hs hBs hr hl)
 clear hBs hr
 go_enter Tryz.func190,Tryz.ntmps190
 go_upto_region 2 with(go_at_call 222;refine HA.out.mono ?_;rintro e w1 ⟨v,rfl,ho,hb⟩;obtain⟨va,vc,rfl⟩:=GG.aI ho)
 rcases ho.2 with⟨h0,hz⟩ | ⟨g,cap,cur,h0,hbase,hgb,r1,r2,r3,r4⟩
 ·have e0:zs=[]:=List.eq_nil_of_length_eq_zero hz
  subst e0
  have hN:Calls Tryz.prog 33 #[.slice va ([]:List Int).length vc] w1 fun e w'=>e=.returned (.tuple #[])/\w'=w1:=Tryz.slices_Sort_int_none va vc w1
  simp only[List.length_nil] at hN
  go_wp2_with (go_at_call 33;refine hN.mono ?_;rintro e w2 ⟨rfl,rfl⟩)
  go_ret
  exact⟨_,rfl,by rw[show dX []=[] from List.eq_nil_of_length_eq_zero (eI [])];exact ho,hb⟩
 ·cases h0
  have cS:=Tryz.slices_Sort_int g 0 vc zs w1 (holds_of_blockI hgb (by simpa [ap] using r4)) (Array.getElem?_eq_some_iff.1 hgb).1 (by omega)
  have HS:=zH cS
  clear cS
  go_wp2_with (go_at_call 33;refine HS.out.mono ?_;rintro e w2 ⟨rfl,nn,os,rfl⟩)
  go_ret
  exact⟨_,rfl,by rw[eI];exact ownsRow_sortedI (by simp) hbase hgb r1 r2 r3,hb.grown (grownBy_sortedI _) hb.size (fun j hj=>by cases hj;exact hbase)⟩
theorem sR(a b:Value)(xs ys:List Int)(n:Nat)(w:World)(ha:Row n w a xs)(hb:Row n w b ys)(hx:xs.length<=17592186044416)(hy:ys.length<=17592186044416) :
 Calls Tryz.prog 149 #[a,b] w fun e w'=>e=.returned (.bool (decide (xs=ys)))/\∃d,w'=w.drewN d:=by
 obtain⟨aa,ca,rfl⟩:=ha.form
 obtain⟨ab,cb,rfl⟩:=hb.form
 by_cases hl:xs.length=ys.length
 ·by_cases h0:xs.length=0
  ·have e1:xs=[]:=List.eq_nil_of_length_eq_zero h0
   have e2:ys=[]:=List.eq_nil_of_length_eq_zero (by omega)
   subst e1 e2
   exact(Tryz.slices_Equal_int_empty aa ab ca 0 cb w (by omega)).mono fun e w' h=>⟨by rw[h.1];rfl,0,h.2⟩
  ·obtain⟨b1,o1,c1,e1,_,hc1⟩:=ha.at (by omega)
   obtain⟨b2,o2,c2,e2,_,hc2⟩:=hb.at (by omega)
   cases e1
   cases e2
   exact(Tryz.slices_Equal_int b1 o1 xs.length ca b2 o2 ys.length cb xs ys w (by omega) (by omega) (by omega) (by omega) (fun j hj=>by rw[hc1 j hj,List.getD_eq_getElem?_getD]) (fun j hj=>by rw[hc2 j hj,List.getD_eq_getElem?_getD])).mono fun e w' h=>⟨by rw[h.1,List.take_of_length_le (by omega),List.take_of_length_le (by omega)];congr 2;exact(Bool.eq_iff_iff.2 (by simp)),h.2⟩
 ·have hne:((xs.length:Int) != (ys.length:Int))=true:=by rw[bne_iff_ne];omega
  have HE:=zH (show decide (xs=ys)=false from decide_eq_false (fun e=>hl (by rw[e])))
  rw[HE.out]
  clear ha hb hl
  go_enter Tryz.func149,Tryz.ntmps149
  go_wp2_with fail
  go_ret
  exact⟨rfl,0,rfl⟩
theorem just_any(a b:Value)(xs ys:List Int)(n₀:Nat)(w:World)(hn:n₀<=w.heap.size)(ha:Row n₀ w a xs)(hb:Row n₀ w b ys)(hx:xs.length<=4096)(hy:ys.length<=4096) :
 Calls Tryz.prog 150 #[a,b] w fun e w'=>e=.returned (.bool (decide (dX xs=ys)))/\Below w.heap.size w w':=by
 obtain⟨aa,ca,rfl⟩:=ha.form
 obtain⟨ab,cb,rfl⟩:=hb.form
 have HB1:=zH ((Below.refl w.heap.size w).alloc (Nat.le_refl _) (.cells #[.slice aa xs.length ca] 54))
 have HS:=zH (sQ xs n₀ w.heap.size aa ca (w.alloc (.cells #[.slice aa xs.length ca] 54)) (by simp;omega) (heap_alloc_new w _) (ha.below (HB1.out.mono hn)) hx)
 have HRB:=zH hb
 have HNN:=zH hn
 clear ha hb
 go_enter Tryz.func150,Tryz.ntmps150
 go_wp2_with (first
  | (go_at_call 191;refine(vals_any _ _ _ _).mono ?_;rintro e w1 ⟨rfl,rfl⟩)
  | (go_at_call 190;refine HS.out.mono ?_;rintro e w2 ⟨v,rfl,ho,hb2⟩
     have HO:=zH ho
     have HB2:=zH (bstep HB1.out hb2)
     obtain⟨va,vc,rfl⟩:=GG.aI ho
     clear ho hb2)
  | (go_at_call 149;refine(sR _ _ (dX xs) ys _ _ (aS HO.out) ((HRB.out.below (HB2.out.mono HNN.out)).mono (Nat.le_trans HNN.out HB2.out.size)) (by rw[eI];omega) (by omega)).mono ?_;rintro e w3 ⟨rfl,d,rfl⟩))
 go_ret
 exact⟨rfl,HB2.out.trans ⟨rfl,rfl,rfl,Nat.le_refl _,fun _ _=>rfl⟩⟩
end
section
open Go.RowKit
open CD (OpP BodyP CodeP aj blAt fnAt)
def dr(l:List OpP)(j:Nat):List Int:=((l.take j).filter fun x=>decide (x.k=7)).map (·.r)
def dx(b:BodyP)(i:Nat):List Int:=(b.bs.take i).flatMap fun l=>dr l l.length
def dN(b:BodyP):List Int:=dx b b.bs.length
theorem mh{l:List OpP}{j:Nat}(h:j<l.length):dr l (j+1)=dr l j ++ if (aj l j).k=7 then [(aj l j).r] else []:=by
 unfold dr aj
 rw[List.take_add_one,List.getElem?_eq_getElem h,List.filter_append,List.map_append]
 simp only[Option.toList_some,Option.getD_some]
 by_cases e:l[j].k=7
 ·simp [e]
 ·simp [e]
theorem ju{b:BodyP}{i:Nat}(h:i<b.bs.length):dx b (i+1)=dx b i ++ dr (blAt b i) (blAt b i).length:=by
 unfold dx blAt
 rw[List.take_add_one,List.getElem?_eq_getElem h,List.flatMap_append]
 simp
theorem nM(l:List OpP)(j:Nat):(dr l j).length<=j:=by
 unfold dr
 rw[List.length_map]
 exact Nat.le_trans (List.length_filter_le _ _) (by rw[List.length_take];omega)
theorem nN(b:BodyP)(hk:∀k,k<b.bs.length->(blAt b k).length<=300):∀i,i<=b.bs.length->(dx b i).length<=i*300
 | 0,_=>by simp [dx]
 | i+1,h=>by
   rw[ju (by omega),List.length_append]
   have h1:=nN b hk i (by omega)
   have h2:=nM (blAt b i) (blAt b i).length
   have h3:=hk i (by omega)
   omega
theorem nO{l:List OpP}{x:Int}:x∈dr l l.length↔∃j,j<l.length/\(aj l j).k=7/\(aj l j).r=x:=by
 unfold dr
 rw[List.take_length,List.mem_map]
 constructor
 ·rintro ⟨o,ho,rfl⟩
  obtain⟨h1,h2⟩:=List.mem_filter.1 ho
  obtain⟨j,hj,rfl⟩:=List.getElem_of_mem h1
  refine⟨j,hj,?_,?_⟩
  ·unfold aj;rw[List.getElem?_eq_getElem hj];exact of_decide_eq_true h2
  ·unfold aj;rw[List.getElem?_eq_getElem hj];rfl
 ·rintro ⟨j,hj,h1,h2⟩
  unfold aj at h1 h2
  rw[List.getElem?_eq_getElem hj] at h1 h2
  exact⟨l[j],List.mem_filter.2 ⟨List.getElem_mem hj,decide_eq_true h1⟩,h2⟩
theorem mem_refsB{b:BodyP}{x:Int}:x∈dN b↔∃i j,i<b.bs.length/\j<(blAt b i).length/\(aj (blAt b i) j).k=7/\(aj (blAt b i) j).r=x:=by
 unfold dN dx
 rw[List.take_length,List.mem_flatMap]
 constructor
 ·rintro ⟨l,hl,hx⟩
  obtain⟨i,hi,rfl⟩:=List.getElem_of_mem hl
  obtain⟨j,hj,h1,h2⟩:=nO.1 hx
  have e:blAt b i=b.bs[i]:=by unfold blAt;rw[List.getElem?_eq_getElem hi];rfl
  exact⟨i,j,hi,by rw[e];exact hj,by rw[e];exact h1,by rw[e];exact h2⟩
 ·rintro ⟨i,j,hi,hj,h1,h2⟩
  have e:blAt b i=b.bs[i]:=by unfold blAt;rw[List.getElem?_eq_getElem hi];rfl
  rw[e] at hj h1 h2
  exact⟨b.bs[i],List.getElem_mem hi,nO.2 ⟨j,hj,h1,h2⟩⟩
def rowC(xs:List Int)(n:Nat):List Int:=((List.range n).filter fun(f:Nat)=>decide ((f:Int)∈xs)).map Int.ofNat
theorem mem_rowC{xs:List Int}{n:Nat}{x:Int}:x∈rowC xs n↔x∈xs/\0<=x/\x<(n:Nat):=by
 unfold rowC
 rw[List.mem_map]
 constructor
 ·rintro ⟨f,hf,rfl⟩
  obtain⟨h1,h2⟩:=List.mem_filter.1 hf
  have h3:=List.mem_range.1 h1
  refine⟨of_decide_eq_true h2,?_⟩
  constructor
  ·exact Int.natCast_nonneg f
  ·exact Int.ofNat_lt.2 h3
 ·rintro ⟨h1,h2,h3⟩
  refine⟨x.toNat,List.mem_filter.2 ⟨List.mem_range.2 (by omega),decide_eq_true (by rw[Int.toNat_of_nonneg h2];exact h1)⟩,Int.toNat_of_nonneg h2⟩
theorem qK(xs:List Int)(n:Nat):(rowC xs n).Pairwise (· < ·):=by
 unfold rowC
 rw[List.pairwise_map]
 exact(List.pairwise_lt_range.filter _).imp (fun h=>Int.ofNat_lt.2 h)
section
open Go.Lib
theorem mj(zs:List Int):∀j,j<zs.length->zs.toArray[j]!∈compact zs:=by
 intro j
 induction j with
 | zero =>
   intro h
   unfold compact compactUpTo
   exact List.mem_map.2 ⟨0,List.mem_filter.2 ⟨List.mem_range.2 h,keeps_lt_one _ 0 (by omega)⟩,rfl⟩
 | succ j ih =>
   intro h
   by_cases e:zs.toArray[j+1]! = zs.toArray[j]!
   ·rw[e];exact ih (by omega)
   ·unfold compact compactUpTo
    exact List.mem_map.2 ⟨j+1,List.mem_filter.2 ⟨List.mem_range.2 h,keeps_pos (by simpa using e)⟩,rfl⟩
theorem qL{zs:List Int}{x:Int}:x∈compact zs↔x∈zs:=by
 constructor
 ·intro h
  unfold compact compactUpTo at h
  obtain⟨j,hj,rfl⟩:=List.mem_map.1 h
  have h1:=List.mem_range.1 (List.mem_filter.1 hj).1
  have:zs.toArray[j]! = zs[j]:=by simp [h1]
  rw[this]
  exact List.getElem_mem h1
 ·intro h
  obtain⟨j,hj,rfl⟩:=List.getElem_of_mem h
  have h1:=mj zs j hj
  have:zs.toArray[j]! = zs[j]:=by simp [hj]
  rw[this] at h1
  exact h1
theorem ml{zs:List Int}(h:zs.Pairwise (·<=·)):(compact zs).Pairwise (· < ·):=by
 unfold compact compactUpTo
 rw[List.pairwise_map]
 refine(List.Pairwise.and_mem.1 (List.pairwise_lt_range.filter _)).imp ?_
 rintro i j ⟨hi,hj,hij⟩
 have h1:=List.mem_range.1 (List.mem_filter.1 hi).1
 obtain⟨h2,h3⟩:=List.mem_filter.1 hj
 have h2':=List.mem_range.1 h2
 have g:=List.pairwise_iff_getElem.1 h
 have e1:zs.toArray[i]! = zs[i]:=by simp [h1]
 have e2:zs.toArray[j]! = zs[j]:=by simp [h2']
 have e3:zs.toArray[j-1]! = zs[j-1]:=by simp [show j-1<zs.length by omega]
 have h4:zs[j]≠zs[j-1]:=by
  intro e
  have:=keeps_neg (d:=zs.toArray) (m:=j) (by omega) (by rw[e2,e3];exact e)
  rw[h3] at this
  cases this
 rw[e1,e2]
 have h5:zs[j-1]<=zs[j]:=g (j-1) j (by omega) h2' (by omega)
 by_cases e:i=j-1
 ·subst e;omega
 ·have h6:zs[i]<=zs[j-1]:=g i (j-1) h1 (by omega) (by omega)
  omega
end
theorem pD(zs:List Int):(dX zs).Pairwise (·<=·) :=
 (List.pairwise_mergeSort (le:=fun x y:Int=>decide (x<=y)) (fun a b c h1 h2=>by simp at *;omega) (fun a b=>by simp;omega) zs).imp (fun h=>by simpa using h)
theorem strict_eq{xs ys:List Int}(hx:xs.Pairwise (· < ·))(hy:ys.Pairwise (· < ·))(h:∀a,a∈xs↔a∈ys):xs=ys:=by
 have nx:xs.Nodup:=hx.imp (fun h=>by omega)
 have ny:ys.Nodup:=hy.imp (fun h=>by omega)
 refine List.Perm.eq_of_pairwise (le:=fun a b:Int=>a<b) (fun a b _ _ h1 h2=>by omega) hx hy ?_
 rw[List.perm_iff_count]
 intro a
 rw[nx.count,ny.count]
 by_cases e:a∈xs
 ·rw[if_pos e,if_pos ((h a).1 e)]
 ·rw[if_neg e,if_neg (fun g=>e ((h a).2 g))]
def ic(b:BodyP):List Int:=Go.Lib.compact (dX (dN b))
theorem sS{b:BodyP}{n:Nat}(h:∀x∈dN b,0<=x/\x<(n:Nat)):ic b=rowC (dN b) n:=by
 refine strict_eq (ml (pD _)) (qK _ _) (fun a=>?_)
 unfold ic
 rw[qL,mem_rowC]
 have hp:a∈dX (dN b)↔a∈dN b:=(List.mergeSort_perm _ _).mem_iff
 rw[hp]
 exact⟨fun g=>⟨g,h a g⟩,fun g=>g.1⟩
end
section
namespace CC
structure Pre (n:Nat) (L:Nat->Nat->Bool):Prop where
 refl:∀a,a<n->L a a=true
 trans:∀a b c,a<n->L a b=true->L b c=true->L a c=true
 lt:∀a b,a<n->L a b=true->b<n
def tog(L:Nat->Nat->Bool)(a b:Nat):Bool:=L a b && L b a
def grp(L:Nat->Nat->Bool)(n a:Nat):List Nat:=(List.range n).filter (tog L a)
def waitsB(L:Nat->Nat->Bool)(n:Nat)(T:Nat->Bool)(a:Nat):Bool:=(List.range n).any fun b=>L a b && !T b && !tog L a b
def fZ(L:Nat->Nat->Bool)(n:Nat)(T:Nat->Bool)(a:Nat):Bool:=!T a && !waitsB L n T a
def ct(L:Nat->Nat->Bool)(n:Nat)(T:Nat->Bool):Option Nat:=(List.range n).find? (fZ L n T)
def putM(L:Nat->Nat->Bool)(T:Nat->Bool)(a m:Nat):Nat->Bool:=fun b=>T b || (decide (b<m) && tog L a b)
def bI(L:Nat->Nat->Bool)(n:Nat):Nat->(Nat->Bool)->List (List Nat)
 | 0,_=>[]
 | f+1,T=>match ct L n T with
   | none=>[]
   | some a=>grp L n a :: bI L n f (putM L T a n)
def Closed(L:Nat->Nat->Bool)(n:Nat)(T:Nat->Bool):Prop:=∀a b,a<n->T a=true->L a b=true->T b=true
theorem jc{L:Nat->Nat->Bool}{n:Nat}{T:Nat->Bool}{a:Nat}(h:ct L n T=some a):a<n/\T a=false/\waitsB L n T a=false:=by
 have h1:=List.find?_some h
 have h2:=List.mem_of_find?_eq_some h
 rw[List.mem_range] at h2
 unfold fZ at h1
 simp only[Bool.and_eq_true,Bool.not_eq_true'] at h1
 exact⟨h2,h1.1,h1.2⟩
theorem next_no{L:Nat->Nat->Bool}{n:Nat}{T:Nat->Bool}(h:ct L n T=none):∀a,a<n->fZ L n T a=false:=by
 intro a ha
 have:=List.find?_eq_none.1 h a (List.mem_range.2 ha)
 simpa using this
theorem waits_no{L:Nat->Nat->Bool}{n:Nat}{T:Nat->Bool}{a:Nat}(h:waitsB L n T a=false){b:Nat}(hb:b<n)(hl:L a b=true):T b=true∨tog L a b=true:=by
 unfold waitsB at h
 rw[List.any_eq_false] at h
 have:=h b (List.mem_range.2 hb)
 rw[hl] at this
 cases h1:T b <;> cases h2:tog L a b <;> simp_all
theorem waits_yes{L:Nat->Nat->Bool}{n:Nat}{T:Nat->Bool}{a:Nat}(h:waitsB L n T a=true):∃b,b<n/\L a b=true/\T b=false/\tog L a b=false:=by
 unfold waitsB at h
 rw[List.any_eq_true] at h
 obtain⟨b,hb,h1⟩:=h
 rw[List.mem_range] at hb
 refine⟨b,hb,?_⟩
 cases h2:T b <;> cases h3:tog L a b <;> simp_all
theorem qM(L:Nat->Nat->Bool)(a b:Nat):tog L a b=tog L b a:=by unfold tog;exact Bool.and_comm _ _
theorem mm{n:Nat}{L:Nat->Nat->Bool}(h:Pre n L){a:Nat}(ha:a<n):tog L a a=true:=by unfold tog;rw[h.refl a ha];rfl
theorem ie{L:Nat->Nat->Bool}{a b:Nat}:tog L a b=true↔L a b=true/\L b a=true:=by unfold tog;simp
theorem nP{n:Nat}{L:Nat->Nat->Bool}(h:Pre n L){a b c:Nat}(ha:a<n)(hc:c<n)(h1:tog L a b=true)(h2:tog L b c=true):tog L a c=true:=by
 rw[ie] at *
 exact⟨h.trans a b c ha h1.1 h2.1,h.trans c b a hc h2.2 h1.2⟩
theorem gt{L:Nat->Nat->Bool}{n a b:Nat}:b∈grp L n a↔b<n/\tog L a b=true:=by
 unfold grp;rw[List.mem_filter,List.mem_range]
theorem nQ(L:Nat->Nat->Bool)(n a:Nat):(grp L n a).Nodup:=List.nodup_range.filter _
theorem qN{n:Nat}{L:Nat->Nat->Bool}(h:Pre n L){a:Nat}(ha:a<n):a∈grp L n a:=gt.2 ⟨ha,mm h ha⟩
theorem dY{L:Nat->Nat->Bool}{T:Nat->Bool}{a m b:Nat}:putM L T a m b=true↔T b=true∨(b<m/\tog L a b=true):=by
 unfold putM;simp
theorem next_some{n:Nat}{L:Nat->Nat->Bool}(h:Pre n L){T:Nat->Bool}{a:Nat}(ha:a<n)(hT:T a=false):∃c,ct L n T=some c:=by
 have main:∀k a,a<n->T a=false->GG.unv n (fun x=>!L a x)<=k->∃c,c<n/\T c=false/\waitsB L n T c=false:=by
  intro k
  induction k with
  | zero =>
    intro a ha hT hk
    have:=GG.oM (n:=n) (B:=fun x=>!L a x) ha (by show (!L a a)=false;rw[h.refl a ha];rfl)
    omega
  | succ k ih =>
    intro a ha hT hk
    cases hw:waitsB L n T a
    ·exact⟨a,ha,hT,hw⟩
    ·obtain⟨b,hb,h1,h2,h3⟩:=waits_yes hw
     have hba:L b a=false:=by
      cases e:L b a
      ·rfl
      ·rw[ie.2 ⟨h1,e⟩] at h3;cases h3
     have hself:(fun x=>!L a x) a=false:=by show (!L a a)=false;rw[h.refl a ha];rfl
     have hm:=GG.gF n (B:=GG.setB (fun x=>!L a x) a) (C:=fun x=>!L b x) (by
      intro x hx
      rw[GG.db] at hx
      rcases hx with e | e
      ·rw[e];show (!L b a)=true;rw[hba];rfl
      ·show (!L b x)=true
       cases e':L b x
       ·rfl
       ·have:=h.trans a b x ha h1 e'
        have e2:(!L a x)=true:=e
        rw[this] at e2;cases e2)
     have hs:=GG.eY n (B:=fun x=>!L a x) ha hself
     exact ih b hb h2 (by omega)
 obtain⟨c,hc,h1,h2⟩:=main _ a ha hT (Nat.le_refl _)
 cases e:ct L n T with
 | some d=>exact⟨d,rfl⟩
 | none =>
   have:=next_no e c hc
   unfold fZ at this
   rw[h1,h2] at this
   cases this
theorem unv_zero{n:Nat}{T:Nat->Bool}(h:GG.unv n T=0):∀a,a<n->T a=true:=by
 intro a ha
 cases e:T a
 ·have:=GG.oM ha e;omega
 ·rfl
theorem next_stop{n:Nat}{L:Nat->Nat->Bool}(h:Pre n L){T:Nat->Bool}(e:ct L n T=none):∀a,a<n->T a=true:=by
 intro a ha
 cases hT:T a
 ·obtain⟨c,hc⟩:=next_some h ha hT
  rw[e] at hc;cases hc
 ·rfl
theorem jv{n:Nat}{L:Nat->Nat->Bool}(h:Pre n L){T:Nat->Bool}{a:Nat}(hc:Closed L n T)(e:ct L n T=some a):Closed L n (putM L T a n):=by
 obtain⟨ha,h1,h2⟩:=jc e
 intro x y hx hp hl
 rw[dY] at hp ⊢
 rcases hp with hp | ⟨_,hp⟩
 ·exact .inl (hc x y hx hp hl)
 ·have hy:=h.lt x y hx hl
  rcases waits_no h2 hy (h.trans a x y ha (ie.1 hp).1 hl) with h3 | h3
  ·exact .inl h3
  ·exact .inr ⟨hy,h3⟩
theorem grp_fresh{n:Nat}{L:Nat->Nat->Bool}{T:Nat->Bool}{a b:Nat}(hc:Closed L n T)(e:ct L n T=some a)(hb:b∈grp L n a):T b=false:=by
 obtain⟨ha,h1,h2⟩:=jc e
 obtain⟨hb,h3⟩:=gt.1 hb
 cases hT:T b
 ·rfl
 ·have:=hc b a hb hT (ie.1 h3).2
  rw[h1] at this;cases this
theorem jV{n:Nat}{L:Nat->Nat->Bool}(h:Pre n L){T:Nat->Bool}{a:Nat}(e:ct L n T=some a):GG.unv n (putM L T a n)<GG.unv n T:=by
 obtain⟨ha,h1,h2⟩:=jc e
 have hm:=GG.gF n (B:=GG.setB T a) (C:=putM L T a n) (by
  intro x hx
  rw[GG.db] at hx
  rw[dY]
  rcases hx with e | e
  ·rw[e];exact .inr ⟨ha,mm h ha⟩
  ·exact .inl e)
 have hs:=GG.eY n (B:=T) ha h1
 omega
theorem gu{n:Nat}{L:Nat->Nat->Bool}{T:Nat->Bool}(f:Nat)(e:ct L n T=none):bI L n f T=[]:=by
 cases f with
 | zero=>rfl
 | succ f =>
   show (match ct L n T with | none=>[] | some a=>grp L n a :: bI L n f (putM L T a n))=_
   rw[e]
end CC
def aB(to:List (List Int))(a b:Nat):Bool:=GG.reachB to (-1) a b
theorem iE{to:List (List Int)}(h:GG.al to=true):CC.Pre to.length (aB to):=by
 have hlt:∀a b,a<to.length->aB to a b=true->b<to.length:=fun a b ha hl=>((GG.cw h ha b).1 hl).lt (GG.lA h) ha
 refine⟨fun a ha=>(GG.cw h ha a).2 (.refl a),fun a b c ha h1 h2=>?_,hlt⟩
 have hb:=hlt a b ha h1
 exact(GG.cw h ha c).2 (((GG.cw h ha b).1 h1).trans ((GG.cw h hb c).1 h2))
def bw(to:List (List Int)):List (List Nat):=if GG.al to=true then CC.bI (aB to) to.length to.length (fun _=>false) else []
end
section
namespace CC
def dO(e:Nat->Int)(i j:Nat):Nat->Int:=if e i=0∨e j = -1 then e else if e i = -1 then (fun x=>if x=j then -1 else e x) else (fun x=>if x=j then max (e j) (e i+1) else e x)
def bC(e:Nat->Int)(i:Nat)(row:List Nat):Nat->Int:=row.foldl (fun e j=>dO e i j) e
def gd(adj:Nat->List Nat)(g:List Nat):Bool:=decide (1<g.length) || decide (g[0]?.getD 0∈adj (g[0]?.getD 0))
def hasB(e:Nat->Int)(g:List Nat):Bool:=g.any fun i=>decide (e i≠0)
def jp(e:Nat->Int)(g:List Nat):Nat->Int:=fun x=>if x∈g then -1 else e x
def cI(adj:Nat->List Nat)(e:Nat->Int)(g:List Nat):Nat->Int:=g.foldl (fun e i=>bC e i (adj i)) (if gd adj g && hasB e g then jp e g else e)
def ge(main:Nat):Nat->Int:=fun x=>if x=main then 1 else 0
def entF(adj:Nat->List Nat)(gs:List (List Nat))(main:Nat):Nat->Int:=gs.reverse.foldl (cI adj) (ge main)
def comb(c v:Int):Int:=if c=0∨v = -1 then v else if c = -1 then -1 else max v (c+1)
theorem iF(e:Nat->Int)(i j y:Nat):dO e i j y=if y=j then comb (e i) (e j) else e y:=by
 unfold dO comb
 by_cases h1:e i=0∨e j = -1
 ·rw[if_pos h1,if_pos h1]
  by_cases h:y=j
  ·rw[if_pos h,h]
  ·rw[if_neg h]
 ·rw[if_neg h1,if_neg h1]
  by_cases h2:e i = -1
  ·rw[if_pos h2,if_pos h2]
  ·rw[if_neg h2,if_neg h2]
theorem leadF_of(i:Nat):∀(row:List Nat) (e:Nat->Int),row.Nodup->i ∉ row->∀y,bC e i row y=if y∈row then comb (e i) (e y) else e y:=by
 intro row
 induction row with
 | nil=>intro e _ _ y;simp [bC]
 | cons j t ih =>
   intro e hn hi y
   obtain⟨hj,ht⟩:=List.nodup_cons.1 hn
   have hij:i≠j:=fun e=>hi (by rw[e];exact List.mem_cons_self)
   have hit:i ∉ t:=fun h=>hi (List.mem_cons_of_mem _ h)
   show bC (dO e i j) i t y=_
   rw[ih _ ht hit y,iF,iF,if_neg hij]
   by_cases h1:y=j
   ·subst h1
    rw[if_neg hj,if_pos rfl,if_pos List.mem_cons_self]
   ·rw[if_neg h1]
    by_cases h2:y∈t
    ·rw[if_pos h2,if_pos (List.mem_cons_of_mem _ h2)]
    ·rw[if_neg h2,if_neg (fun h=>by rcases List.mem_cons.1 h with h | h;exact h1 h;exact h2 h)]
theorem nR(i:Nat):∀(row:List Nat) (e:Nat->Int),e i = -1->∀y,bC e i row y=if y∈row then -1 else e y:=by
 intro row
 induction row with
 | nil=>intro e _ y;simp [bC]
 | cons j t ih =>
   intro e he y
   have hc:∀v,comb (-1) v = -1:=by intro v;unfold comb;split;omega;rfl
   show bC (dO e i j) i t y=_
   have hi:dO e i j i = -1:=by
    rw[iF,he,hc]
    split <;> first | rfl | exact he
   rw[ih _ hi y,iF,he,hc]
   by_cases h1:y=j
   ·subst h1
    rw[if_pos rfl,if_pos List.mem_cons_self]
    split <;> rfl
   ·rw[if_neg h1]
    by_cases h2:y∈t
    ·rw[if_pos h2,if_pos (List.mem_cons_of_mem _ h2)]
    ·rw[if_neg h2,if_neg (fun h=>by rcases List.mem_cons.1 h with h | h;exact h1 h;exact h2 h)]
theorem sU(i:Nat):∀(row:List Nat) (e:Nat->Int),e i=0->bC e i row=e:=by
 intro row
 induction row with
 | nil=>intro e _;rfl
 | cons j t ih =>
   intro e he
   have h:dO e i j=e:=by unfold dO;rw[if_pos (.inl he)]
   show bC (dO e i j) i t=e
   rw[h,ih e he]
theorem fold_neg(adj:Nat->List Nat):∀(l:List Nat) (e:Nat->Int),(∀i∈l,e i = -1)->∀y,l.foldl (fun e i=>bC e i (adj i)) e y=if ∃i∈l,y∈adj i then -1 else e y:=by
 intro l
 induction l with
 | nil=>intro e _ y;simp
 | cons a t ih =>
   intro e he y
   have ha:=he a List.mem_cons_self
   have h1:∀i∈t,bC e a (adj a) i = -1:=by
    intro i hi
    rw[nR a _ e ha,he i (List.mem_cons_of_mem _ hi)]
    split <;> rfl
   show t.foldl (fun e i=>bC e i (adj i)) (bC e a (adj a)) y=_
   rw[ih _ h1 y,nR a _ e ha]
   by_cases h2:∃i∈t,y∈adj i
   ·obtain⟨i,hi,hy⟩:=h2
    rw[if_pos ⟨i,hi,hy⟩,if_pos ⟨i,List.mem_cons_of_mem _ hi,hy⟩]
   ·rw[if_neg h2]
    by_cases h3:y∈adj a
    ·rw[if_pos h3,if_pos ⟨a,List.mem_cons_self,h3⟩]
    ·rw[if_neg h3,if_neg]
     rintro ⟨i,hi,hy⟩
     rcases List.mem_cons.1 hi with h | h
     ·rw[h] at hy;exact h3 hy
     ·exact h2 ⟨i,h,hy⟩
theorem fold_zero(adj:Nat->List Nat):∀(l:List Nat) (e:Nat->Int),(∀i∈l,e i=0)->l.foldl (fun e i=>bC e i (adj i)) e=e:=by
 intro l
 induction l with
 | nil=>intro e _;rfl
 | cons a t ih =>
   intro e he
   show t.foldl (fun e i=>bC e i (adj i)) (bC e a (adj a))=e
   rw[sU a _ e (he a List.mem_cons_self)]
   exact ih e (fun i hi=>he i (List.mem_cons_of_mem _ hi))
structure Adj (n:Nat) (adj:Nat->List Nat) (L:Nat->Nat->Bool):Prop where
 one:∀p y,y∈adj p->p<n/\y<n/\L p y=true
 ind:∀(a:Nat) (P:Nat->Prop),a<n->P a->(∀p y,P p->L a p=true->y∈adj p->P y)->∀y,L a y=true->P y
 head:∀a y,a<n->L a y=true->a=y∨∃j∈adj a,L j y=true
 nodup:∀p,(adj p).Nodup
theorem Adj.last{n:Nat}{adj:Nat->List Nat}{L:Nat->Nat->Bool}(h:Adj n adj L){a y:Nat}(ha:a<n)(hl:L a y=true):a=y∨∃p,L a p=true/\y∈adj p :=
 h.ind a (fun y=>a=y∨∃p,L a p=true/\y∈adj p) ha (.inl rfl) (fun p y _ hp hy=>.inr ⟨p,hp,hy⟩) y hl
def jW(adj:Nat->List Nat)(L:Nat->Nat->Bool)(k:Nat):Prop:=∃j∈adj k,L j k=true
structure Part (adj:Nat->List Nat) (main:Nat) (D:Nat->Prop) (e:Nat->Int) (y:Nat):Prop where
 z:e y=0↔y≠main/\∀p,D p->y∈adj p->e p=0
 m:e y = -1↔∃p,D p/\y∈adj p/\e p = -1
 v:e y≠0->e y≠-1->1<=e y/\(∀p,D p->y∈adj p->e p+1<=e y)/\((e y=1/\y=main)∨∃p,D p/\y∈adj p/\1<=e p/\e y=e p+1)
structure SpecE (adj:Nat->List Nat) (L:Nat->Nat->Bool) (main:Nat) (e:Nat->Int) (x:Nat):Prop where
 z:e x=0↔L main x=false
 m:e x = -1↔L main x=true/\∃k,L main k=true/\L k x=true/\jW adj L k
 v:e x≠0->e x≠-1->1<=e x/\(∀p,x∈adj p->e p+1<=e x)/\((e x=1/\x=main)∨∃p,x∈adj p/\1<=e p/\e x=e p+1)
structure InvE (n:Nat) (adj:Nat->List Nat) (L:Nat->Nat->Bool) (main:Nat) (D:Nat->Prop) (e:Nat->Int):Prop where
 done:∀x,D x->SpecE adj L main e x
 todo:∀y,y<n->¬D y->Part adj main D e y
theorem circ_yes{n:Nat}{adj:Nat->List Nat}{L:Nat->Nat->Bool}(hp:Pre n L)(ha:Adj n adj L){a:Nat}(h:a<n)(hc:gd adj (grp L n a)=true):∀x∈grp L n a,jW adj L x:=by
 intro x hx
 obtain⟨hx1,hx2⟩:=gt.1 hx
 have two:∀y,y∈grp L n a->y≠x->jW adj L x:=by
  intro y hy hne
  obtain⟨hy1,hy2⟩:=gt.1 hy
  have hxy:=ie.1 (nP hp hx1 hy1 (by rw[qM];exact hx2) hy2)
  rcases ha.head x y hx1 hxy.1 with e | ⟨j,hj,hl⟩
  ·exact absurd e.symm hne
  ·exact⟨j,hj,hp.trans j y x (ha.one x j hj).2.1 hl hxy.2⟩
 unfold gd at hc
 rw[Bool.or_eq_true] at hc
 rcases hc with hc | hc
 ·have hlen:1<(grp L n a).length:=of_decide_eq_true hc
  have hn:=nQ L n a
  obtain⟨y,z,t,e⟩:∃y z t,grp L n a=y :: z :: t:=by
   match hg:grp L n a with
   | []=>rw[hg] at hlen;simp at hlen
   | [y]=>rw[hg] at hlen;simp at hlen
   | y :: z :: t=>exact⟨y,z,t,rfl⟩
  have hyz:y≠z:=by
   rw[e] at hn
   have:=(List.nodup_cons.1 hn).1
   exact fun e=>this (by rw[e];exact List.mem_cons_self)
  by_cases hxy:y=x
  ·exact two z (by rw[e];simp) (fun h=>hyz (hxy.trans h.symm))
  ·exact two y (by rw[e];simp) hxy
 ·have hc':(grp L n a)[0]?.getD 0∈adj ((grp L n a)[0]?.getD 0):=of_decide_eq_true hc
  have hm:(grp L n a)[0]?.getD 0∈grp L n a:=GG.bn (List.length_pos_of_mem hx)
  by_cases e:(grp L n a)[0]?.getD 0=x
  ·rw[e] at hc'
   exact⟨x,hc',hp.refl x hx1⟩
  ·exact two _ hm e
theorem circ_no{n:Nat}{adj:Nat->List Nat}{L:Nat->Nat->Bool}(hp:Pre n L)(ha:Adj n adj L){a:Nat}(h:a<n)(hc:gd adj (grp L n a)=false):grp L n a=[a]/\a ∉ adj a/\¬jW adj L a:=by
 unfold gd at hc
 rw[Bool.or_eq_false_iff] at hc
 have h1:¬1<(grp L n a).length:=of_decide_eq_false hc.1
 have hs:=qN hp h
 have e:grp L n a=[a]:=by
  match hg:grp L n a with
  | []=>rw[hg] at hs;cases hs
  | [y]=>rw[hg] at hs;rw[List.mem_singleton.1 hs]
  | y :: z :: t=>rw[hg] at h1;simp at h1
 have h2:=of_decide_eq_false hc.2
 rw[e] at h2
 have h3:a ∉ adj a:=h2
 refine⟨e,h3,?_⟩
 rintro ⟨j,hj,hl⟩
 obtain⟨_,hj1,hj2⟩:=ha.one a j hj
 have:j∈grp L n a:=gt.2 ⟨hj1,ie.2 ⟨hj2,hl⟩⟩
 rw[e] at this
 rw[List.mem_singleton.1 this] at hj
 exact h3 hj
theorem nS{n:Nat}{adj:Nat->List Nat}{L:Nat->Nat->Bool}{main:Nat}{D:Nat->Prop}(hD:∀x,¬D x):InvE n adj L main D (ge main):=by
 refine⟨fun x hx=>absurd hx (hD x),fun y _ _=>⟨?_,?_,?_⟩⟩
 ·unfold ge
  by_cases h:y=main
  ·rw[if_pos h];exact⟨fun h=>by omega,fun g=>absurd h g.1⟩
  ·rw[if_neg h];exact⟨fun _=>⟨h,fun p hp=>absurd hp (hD p)⟩,fun _=>rfl⟩
 ·unfold ge
  refine⟨fun h=>?_,fun⟨p,hp,_⟩=>absurd hp (hD p)⟩
  split at h <;> omega
 ·intro h1 h2
  unfold ge at h1 ⊢
  by_cases h:y=main
  ·rw[if_pos h];exact⟨by omega,fun p hp=>absurd hp (hD p),.inl ⟨rfl,h⟩⟩
  ·rw[if_neg h] at h1;exact absurd rfl h1
theorem inv_step{n:Nat}{adj:Nat->List Nat}{L:Nat->Nat->Bool}(hp:Pre n L)(ha:Adj n adj L){main:Nat}(hm:main<n){T:Nat->Bool}{a:Nat}(hc:Closed L n T)(ex:ct L n T=some a){f:Nat->Int}
 (h:InvE n adj L main (fun y=>y<n/\putM L T a n y=false) f):InvE n adj L main (fun y=>y<n/\T y=false) (cI adj f (grp L n a)):=by
 obtain⟨haN,hTa,hw⟩:=jc ex
 have hc':=jv hp hc ex
 generalize eg:grp L n a=g
 have gmem:∀i,i∈g↔i<n/\tog L a i=true:=fun i=>by rw[<-eg];exact gt
 have g1:∀i,i∈g->i<n/\T i=false/\putM L T a n i=true:=fun i hi=>⟨((gmem i).1 hi).1,grp_fresh hc ex (by rw[eg];exact hi),dY.2 (.inr ((gmem i).1 hi))⟩
 have D_iff:∀x,(x<n/\T x=false)↔(x<n/\putM L T a n x=false)∨x∈g:=by
  intro x
  constructor
  ·rintro ⟨h1,h2⟩
   cases e:putM L T a n x
   ·exact .inl ⟨h1,rfl⟩
   ·rcases dY.1 e with e | e
    ·rw[h2] at e;cases e
    ·exact .inr ((gmem x).2 e)
  ·rintro (⟨h1,h2⟩ | h1)
   ·refine⟨h1,?_⟩
    cases e:T x
    ·rfl
    ·rw[dY.2 (.inl e)] at h2;cases h2
   ·exact⟨(g1 x h1).1,(g1 x h1).2.1⟩
 have g2:∀i p,i∈g->i∈adj p->(p<n/\putM L T a n p=false)∨p∈g:=by
  intro i p hi hip
  obtain⟨h1,h2,h3⟩:=ha.one p i hip
  refine(D_iff p).1 ⟨h1,?_⟩
  cases e:T p
  ·rfl
  ·have:=hc p i h1 e h3
   rw[(g1 i hi).2.1] at this;cases this
 have g3:∀i y,i∈g->y∈adj i->¬(y<n/\putM L T a n y=false):=by
  rintro i y hi hy ⟨h1,h2⟩
  obtain⟨h3,_,h4⟩:=ha.one i y hy
  have:=hc' i y h3 (g1 i hi).2.2 h4
  rw[h2] at this;cases this
 have g4:∀x p,(x<n/\putM L T a n x=false)->x∈adj p->p<n/\putM L T a n p=false:=by
  rintro x p ⟨h1,h2⟩ hx
  obtain⟨h3,_,h4⟩:=ha.one p x hx
  refine⟨h3,?_⟩
  cases e:putM L T a n p
  ·rfl
  ·have:=hc' p x h3 e h4
   rw[h2] at this;cases this
 have notg:∀x,(x<n/\putM L T a n x=false)->x ∉ g:=fun x hx hg=>by rw[(g1 x hg).2.2] at hx;exact absurd hx.2 (by decide)
 have agN:a∈g:=(gmem a).2 ⟨haN,mm hp haN⟩
 have pg:∀x,x∈g->Part adj main (fun y=>y<n/\putM L T a n y=false) f x:=fun x hx=>h.todo x (g1 x hx).1 (fun hD=>notg x hD hx)
 have R:∀x,x∈g->(L main x=true↔∃z,z∈g/\f z≠0):=by
  intro x hx
  constructor
  ·intro hl
   refine ha.ind main (fun y=>y∈g->∃z,z∈g/\f z≠0) hm (fun hg=>⟨main,hg,fun e=>((pg main hg).z.1 e).1 rfl⟩) (fun p y ih hlp hy hyg=>?_) x hl hx
   rcases g2 y p hyg hy with hD | hg
   ·refine⟨y,hyg,fun e=>?_⟩
    have h1:=((pg y hyg).z.1 e).2 p hD hy
    have h2:=(h.done p hD).z.1 h1
    rw[hlp] at h2;cases h2
   ·exact ih hg
  ·rintro ⟨z,hz,hfz⟩
   have hzl:L main z=true:=by
    by_cases e:z=main
    ·rw[e];exact hp.refl main hm
    ·by_cases hx:∃p,(p<n/\putM L T a n p=false)/\z∈adj p/\f p≠0
     ·obtain⟨p,hD,hzp,hfp⟩:=hx
      have h1:L main p=true:=by
       cases e':L main p
       ·exact absurd ((h.done p hD).z.2 e') hfp
       ·rfl
      exact hp.trans main p z hm h1 (ha.one p z hzp).2.2
     ·refine absurd ((pg z hz).z.2 ⟨e,fun p hD hzp=>?_⟩) hfz
      by_cases e':f p=0
      ·exact e'
      ·exact absurd ⟨p,hD,hzp,e'⟩ hx
   have h1:=(gmem z).1 hz
   have h2:=(gmem x).1 hx
   exact hp.trans main z x hm hzl (ie.1 (nP hp h1.1 h2.1 (by rw[qM];exact h1.2) h2.2)).1
 have keep:∀e':Nat->Int,(∀x,(x<n/\putM L T a n x=false)->e' x=f x)->∀x,(x<n/\putM L T a n x=false)->SpecE adj L main e' x:=by
  intro e' he x hD
  have s:=h.done x hD
  refine⟨by rw[he x hD];exact s.z,by rw[he x hD];exact s.m,fun h1 h2=>?_⟩
  rw[he x hD] at h1 h2
  obtain⟨v1,v2,v3⟩:=s.v h1 h2
  rw[he x hD]
  refine⟨v1,fun p hpx=>by rw[he p (g4 x p hD hpx)];exact v2 p hpx,?_⟩
  rcases v3 with v3 | ⟨p,q1,q2,q3⟩
  ·exact .inl v3
  ·exact .inr ⟨p,q1,by rw[he p (g4 x p hD q1)];exact q2,by rw[he p (g4 x p hD q1)];exact q3⟩
 cases hcb:gd adj g
 ·
  obtain⟨e1,hna,hnc⟩:=circ_no hp ha haN (by rw[eg];exact hcb)
  rw[eg] at e1
  have hst:cI adj f g=bC f a (adj a):=by
   unfold cI
   rw[hcb,Bool.false_and,e1]
   rfl
  have hat:∀y,cI adj f g y=if y∈adj a then comb (f a) (f y) else f y:=fun y=>by rw[hst];exact leadF_of a _ f (ha.nodup a) hna y
  have hold:∀x,(x<n/\putM L T a n x=false)->cI adj f g x=f x:=fun x hD=>by rw[hat,if_neg (fun hx=>g3 a x agN hx hD)]
  have ha':cI adj f g a=f a:=by rw[hat,if_neg hna]
  have pa:=pg a agN
  have preds:∀p,a∈adj p->p<n/\putM L T a n p=false:=by
   intro p hpa
   rcases g2 a p agN hpa with hD | hg
   ·exact hD
   ·rw[e1] at hg
    rw[List.mem_singleton.1 hg] at hpa
    exact absurd hpa hna
  refine⟨fun x hx=>?_,fun y hy hny=>?_⟩
  ·rcases (D_iff x).1 hx with hD | hg
   ·exact keep _ hold x hD
   ·have hxa:x=a:=by rw[e1] at hg;exact List.mem_singleton.1 hg
    subst hxa
    refine⟨?_,?_,?_⟩
    ·rw[ha']
     constructor
     ·intro h0
      cases e:L main x
      ·rfl
      ·obtain⟨z,hz,hfz⟩:=(R x agN).1 e
       rw[e1] at hz
       rw[List.mem_singleton.1 hz] at hfz
       exact absurd h0 hfz
     ·intro h0
      by_cases e:f x=0
      ·exact e
      ·have:=(R x agN).2 ⟨x,agN,e⟩
       rw[h0] at this;cases this
    ·rw[ha',pa.m]
     constructor
     ·rintro ⟨p,hD,hpx,hfp⟩
      obtain⟨s1,k,s2,s3,s4⟩:=(h.done p hD).m.1 hfp
      have hl:=(ha.one p x hpx).2.2
      have hk:k<n:=hp.lt main k hm s2
      exact⟨hp.trans main p x hm s1 hl,k,s2,hp.trans k p x hk s3 hl,s4⟩
     ·rintro ⟨s1,k,s2,s3,s4⟩
      have hk:k<n:=hp.lt main k hm s2
      rcases ha.last hk s3 with e | ⟨p,q1,q2⟩
      ·rw[e] at s4;exact absurd s4 hnc
      ·have hD:=preds p q2
       exact⟨p,hD,q2,(h.done p hD).m.2 ⟨hp.trans main k p hm s2 q1,k,s2,q1,s4⟩⟩
    ·intro h1 h2
     rw[ha'] at h1 h2 ⊢
     obtain⟨v1,v2,v3⟩:=pa.v h1 h2
     refine⟨v1,fun p hpx=>by rw[hold p (preds p hpx)];exact v2 p (preds p hpx) hpx,?_⟩
     rcases v3 with v3 | ⟨p,q0,q1,q2,q3⟩
     ·exact .inl v3
     ·exact .inr ⟨p,q1,by rw[hold p q0];exact q2,by rw[hold p q0];exact q3⟩
  ·have hnD:¬(y<n/\putM L T a n y=false):=fun hD=>hny ((D_iff y).2 (.inl hD))
   have hya:y≠a:=fun e=>hny ((D_iff y).2 (.inr (by rw[e];exact agN)))
   have py:=h.todo y hy hnD
   have D':∀p,(p<n/\T p=false)->(p<n/\putM L T a n p=false)∨p=a:=by
    intro p hD
    rcases (D_iff p).1 hD with h1 | h1
    ·exact .inl h1
    ·rw[e1] at h1;exact .inr (List.mem_singleton.1 h1)
   have Dold:∀p,(p<n/\putM L T a n p=false)->(p<n/\T p=false):=fun p hD=>(D_iff p).2 (.inl hD)
   have Da:a<n/\T a=false:=⟨haN,hTa⟩
   by_cases hya':y∈adj a
   ·have hey:cI adj f g y=comb (f a) (f y):=by rw[hat,if_pos hya']
    by_cases c0:f a=0
    ·have hey':cI adj f g y=f y:=by rw[hey];unfold comb;rw[if_pos (.inl c0)]
     refine⟨?_,?_,?_⟩
     ·rw[hey',py.z]
      refine and_congr Iff.rfl ⟨fun q p hD hpy=>?_,fun q p hD hpy=>by have:=q p (Dold p hD) hpy;rw[hold p hD] at this;exact this⟩
      rcases D' p hD with h1 | h1
      ·rw[hold p h1];exact q p h1 hpy
      ·rw[h1,ha',c0]
     ·rw[hey',py.m]
      constructor
      ·rintro ⟨p,hD,q1,q2⟩;exact⟨p,Dold p hD,q1,by rw[hold p hD];exact q2⟩
      ·rintro ⟨p,hD,q1,q2⟩
       rcases D' p hD with h1 | h1
       ·exact⟨p,h1,q1,by rw[hold p h1] at q2;exact q2⟩
       ·rw[h1,ha',c0] at q2;omega
     ·intro h1 h2
      rw[hey'] at h1 h2 ⊢
      obtain⟨v1,v2,v3⟩:=py.v h1 h2
      refine⟨v1,fun p hD hpy=>?_,?_⟩
      ·rcases D' p hD with h3 | h3
       ·rw[hold p h3];exact v2 p h3 hpy
       ·rw[h3,ha',c0];omega
      ·rcases v3 with v3 | ⟨p,q0,q1,q2,q3⟩
       ·exact .inl v3
       ·exact .inr ⟨p,Dold p q0,q1,by rw[hold p q0];exact q2,by rw[hold p q0];exact q3⟩
    ·by_cases cm:f a = -1
     ·have hey':cI adj f g y = -1:=by
       rw[hey];unfold comb
       rw[cm]
       split
       ·omega
       ·rfl
      refine⟨⟨fun e=>by omega,fun q=>?_⟩,⟨fun _=>⟨a,Da,hya',by rw[ha'];exact cm⟩,fun _=>hey'⟩,fun _ h2=>absurd hey' h2⟩
      have:=q.2 a Da hya'
      rw[ha',cm] at this;omega
     ·obtain⟨a1,_,_⟩:=pa.v c0 cm
      by_cases ym:f y = -1
      ·have hey':cI adj f g y = -1:=by rw[hey];unfold comb;rw[if_pos (.inr ym),ym]
       obtain⟨p,hD,q1,q2⟩:=py.m.1 ym
       refine⟨⟨fun e=>by omega,fun q=>?_⟩,⟨fun _=>⟨p,Dold p hD,q1,by rw[hold p hD];exact q2⟩,fun _=>hey'⟩,fun _ h2=>absurd hey' h2⟩
       have:=q.2 p (Dold p hD) q1
       rw[hold p hD,q2] at this;omega
      ·have hey':cI adj f g y=max (f y) (f a+1):=by rw[hey];unfold comb;rw[if_neg (by omega),if_neg cm]
       have hge:f a+1<=cI adj f g y:=by rw[hey'];exact Int.le_max_right _ _
       have hge2:f y<=cI adj f g y:=by rw[hey'];exact Int.le_max_left _ _
       refine⟨⟨fun e=>by omega,fun q=>?_⟩,⟨fun e=>by omega,?_⟩,fun h1 h2=>⟨by omega,fun p hD hpy=>?_,?_⟩⟩
       ·have:=q.2 a Da hya'
        rw[ha'] at this;exact absurd this c0
       ·rintro ⟨p,hD,q1,q2⟩
        rcases D' p hD with h3 | h3
        ·rw[hold p h3] at q2
         exact absurd (py.m.2 ⟨p,h3,q1,q2⟩) ym
        ·rw[h3,ha'] at q2;exact absurd q2 cm
       ·rcases D' p hD with h3 | h3
        ·rw[hold p h3]
         by_cases y0:f y=0
         ·have:=(py.z.1 y0).2 p h3 hpy;omega
         ·have:=(py.v y0 ym).2.1 p h3 hpy;omega
        ·rw[h3,ha'];exact hge
       ·by_cases hle:f y<=f a+1
        ·refine .inr ⟨a,Da,hya',by rw[ha'];exact a1,?_⟩
         rw[hey',ha'];omega
        ·have hyy:cI adj f g y=f y:=by rw[hey'];omega
         rw[hyy]
         have y0:f y≠0:=by omega
         rcases (py.v y0 ym).2.2 with v3 | ⟨p,q0,q1,q2,q3⟩
         ·omega
         ·exact .inr ⟨p,Dold p q0,q1,by rw[hold p q0];exact q2,by rw[hold p q0];exact q3⟩
   ·have hey:cI adj f g y=f y:=by rw[hat,if_neg hya']
    have Dn:∀p,(p<n/\T p=false)->y∈adj p->p<n/\putM L T a n p=false:=by
     intro p hD hpy
     rcases D' p hD with h1 | h1
     ·exact h1
     ·rw[h1] at hpy;exact absurd hpy hya'
    refine⟨?_,?_,?_⟩
    ·rw[hey,py.z]
     exact and_congr Iff.rfl ⟨fun q p hD hpy=>by rw[hold p (Dn p hD hpy)];exact q p (Dn p hD hpy) hpy,fun q p hD hpy=>by have:=q p (Dold p hD) hpy;rw[hold p hD] at this;exact this⟩
    ·rw[hey,py.m]
     constructor
     ·rintro ⟨p,hD,q1,q2⟩;exact⟨p,Dold p hD,q1,by rw[hold p hD];exact q2⟩
     ·rintro ⟨p,hD,q1,q2⟩;exact⟨p,Dn p hD q1,q1,by rw[hold p (Dn p hD q1)] at q2;exact q2⟩
    ·intro h1 h2
     rw[hey] at h1 h2 ⊢
     obtain⟨v1,v2,v3⟩:=py.v h1 h2
     refine⟨v1,fun p hD hpy=>by rw[hold p (Dn p hD hpy)];exact v2 p (Dn p hD hpy) hpy,?_⟩
     rcases v3 with v3 | ⟨p,q0,q1,q2,q3⟩
     ·exact .inl v3
     ·exact .inr ⟨p,Dold p q0,q1,by rw[hold p q0];exact q2,by rw[hold p q0];exact q3⟩
 ·cases hhb:hasB f g
  ·
   have hz:∀i,i∈g->f i=0:=by
    intro i hi
    unfold hasB at hhb
    rw[List.any_eq_false] at hhb
    have:=hhb i hi
    by_cases e:f i=0
    ·exact e
    ·exact absurd (decide_eq_true e) this
   have hst:cI adj f g=f:=by
    unfold cI
    rw[hcb,hhb]
    exact fold_zero adj g f hz
   rw[hst]
   refine⟨fun x hx=>?_,fun y hy hny=>?_⟩
   ·rcases (D_iff x).1 hx with hD | hg
    ·exact h.done x hD
    ·have hl:L main x=false:=by
      cases e:L main x
      ·rfl
      ·obtain⟨z,hz1,hz2⟩:=(R x hg).1 e
       exact absurd (hz z hz1) hz2
     have h0:=hz x hg
     refine⟨⟨fun _=>hl,fun _=>h0⟩,⟨fun e=>by omega,fun q=>by rw[hl] at q;exact absurd q.1 (by decide)⟩,fun h1 _=>absurd h0 h1⟩
   ·have hnD:¬(y<n/\putM L T a n y=false):=fun hD=>hny ((D_iff y).2 (.inl hD))
    have py:=h.todo y hy hnD
    refine⟨?_,?_,?_⟩
    ·rw[py.z]
     refine and_congr Iff.rfl ⟨fun q p hD hpy=>?_,fun q p hD hpy=>q p ((D_iff p).2 (.inl hD)) hpy⟩
     rcases (D_iff p).1 hD with h1 | h1
     ·exact q p h1 hpy
     ·exact hz p h1
    ·rw[py.m]
     constructor
     ·rintro ⟨p,hD,q⟩;exact⟨p,(D_iff p).2 (.inl hD),q⟩
     ·rintro ⟨p,hD,q1,q2⟩
      rcases (D_iff p).1 hD with h1 | h1
      ·exact⟨p,h1,q1,q2⟩
      ·rw[hz p h1] at q2;omega
    ·intro h1 h2
     obtain⟨v1,v2,v3⟩:=py.v h1 h2
     refine⟨v1,fun p hD hpy=>?_,?_⟩
     ·rcases (D_iff p).1 hD with h3 | h3
      ·exact v2 p h3 hpy
      ·rw[hz p h3];omega
     ·rcases v3 with v3 | ⟨p,q0,q⟩
      ·exact .inl v3
      ·exact .inr ⟨p,(D_iff p).2 (.inl q0),q⟩
  ·
   have hx0:∃z,z∈g/\f z≠0:=by
    unfold hasB at hhb
    rw[List.any_eq_true] at hhb
    obtain⟨z,hz,q⟩:=hhb
    exact⟨z,hz,of_decide_eq_true q⟩
   have hat:∀y,cI adj f g y=if ∃i∈g,y∈adj i then -1 else if y∈g then -1 else f y:=by
    intro y
    unfold cI
    rw[hcb,hhb]
    exact fold_neg adj g (jp f g) (fun i hi=>if_pos hi) y
   have hg:∀x,x∈g->cI adj f g x = -1:=by
    intro x hx
    rw[hat,if_pos hx]
    split <;> rfl
   have hold:∀x,(x<n/\putM L T a n x=false)->cI adj f g x=f x:=by
    intro x hD
    rw[hat,if_neg (fun⟨i,hi,hx⟩=>g3 i x hi hx hD),if_neg (notg x hD)]
   refine⟨fun x hx=>?_,fun y hy hny=>?_⟩
   ·rcases (D_iff x).1 hx with hD | hgx
    ·exact keep _ hold x hD
    ·have hl:=(R x hgx).2 hx0
     have hcx:=circ_yes hp ha haN (by rw[eg];exact hcb) x (by rw[eg];exact hgx)
     have hm1:=hg x hgx
     have hxn:=(g1 x hgx).1
     refine⟨⟨fun e=>by omega,fun e=>by rw[hl] at e;cases e⟩,⟨fun _=>⟨hl,x,hl,hp.refl x hxn,hcx⟩,fun _=>hm1⟩,fun _ h2=>absurd hm1 h2⟩
   ·have hnD:¬(y<n/\putM L T a n y=false):=fun hD=>hny ((D_iff y).2 (.inl hD))
    have hng:y ∉ g:=fun hgy=>hny ((D_iff y).2 (.inr hgy))
    have py:=h.todo y hy hnD
    by_cases hi:∃i∈g,y∈adj i
    ·have hey:cI adj f g y = -1:=by rw[hat,if_pos hi]
     obtain⟨i,hig,hyi⟩:=hi
     have hDi:=(D_iff i).2 (.inr hig)
     refine⟨⟨fun e=>by omega,fun q=>?_⟩,⟨fun _=>⟨i,hDi,hyi,hg i hig⟩,fun _=>hey⟩,fun _ h2=>absurd hey h2⟩
     have:=q.2 i hDi hyi
     rw[hg i hig] at this;omega
    ·have hey:cI adj f g y=f y:=by rw[hat,if_neg hi,if_neg hng]
     have Dn:∀p,(p<n/\T p=false)->y∈adj p->p<n/\putM L T a n p=false:=by
      intro p hD hpy
      rcases (D_iff p).1 hD with h1 | h1
      ·exact h1
      ·exact absurd ⟨p,h1,hpy⟩ hi
     have Dold:∀p,(p<n/\putM L T a n p=false)->(p<n/\T p=false):=fun p hD=>(D_iff p).2 (.inl hD)
     refine⟨?_,?_,?_⟩
     ·rw[hey,py.z]
      exact and_congr Iff.rfl ⟨fun q p hD hpy=>by rw[hold p (Dn p hD hpy)];exact q p (Dn p hD hpy) hpy,fun q p hD hpy=>by have:=q p (Dold p hD) hpy;rw[hold p hD] at this;exact this⟩
     ·rw[hey,py.m]
      constructor
      ·rintro ⟨p,hD,q1,q2⟩;exact⟨p,Dold p hD,q1,by rw[hold p hD];exact q2⟩
      ·rintro ⟨p,hD,q1,q2⟩;exact⟨p,Dn p hD q1,q1,by rw[hold p (Dn p hD q1)] at q2;exact q2⟩
     ·intro h1 h2
      rw[hey] at h1 h2 ⊢
      obtain⟨v1,v2,v3⟩:=py.v h1 h2
      refine⟨v1,fun p hD hpy=>by rw[hold p (Dn p hD hpy)];exact v2 p (Dn p hD hpy) hpy,?_⟩
      rcases v3 with v3 | ⟨p,q0,q1,q2,q3⟩
      ·exact .inl v3
      ·exact .inr ⟨p,Dold p q0,q1,by rw[hold p q0];exact q2,by rw[hold p q0];exact q3⟩
theorem inv_all{n:Nat}{adj:Nat->List Nat}{L:Nat->Nat->Bool}(hp:Pre n L)(ha:Adj n adj L){main:Nat}(hm:main<n):∀(f:Nat) (T:Nat->Bool),GG.unv n T<=f->Closed L n T ->
 InvE n adj L main (fun y=>y<n/\T y=false) ((bI L n f T).foldr (fun g e=>cI adj e g) (ge main)):=by
 intro f
 induction f with
 | zero =>
   intro T hf hc
   refine nS (fun x hx=>?_)
   have:=unv_zero (n:=n) (T:=T) (by omega) x hx.1
   rw[hx.2] at this;cases this
 | succ f ih =>
   intro T hf hc
   cases e:ct L n T with
   | none =>
     rw[gu _ e]
     refine nS (fun x hx=>?_)
     have:=next_stop hp e x hx.1
     rw[hx.2] at this;cases this
   | some a =>
     have hl:=jV hp e
     have e1:bI L n (f+1) T=grp L n a :: bI L n f (putM L T a n):=by
      show (match ct L n T with | none=>[] | some a=>grp L n a :: bI L n f (putM L T a n))=_
      rw[e]
     rw[e1,List.foldr_cons]
     exact inv_step hp ha hm hc e (ih _ (by omega) (jv hp hc e))
theorem ent_spec{n:Nat}{adj:Nat->List Nat}{L:Nat->Nat->Bool}(hp:Pre n L)(ha:Adj n adj L){main:Nat}(hm:main<n)(x:Nat)(hx:x<n):SpecE adj L main (entF adj (bI L n n (fun _=>false)) main) x:=by
 unfold entF
 rw[List.foldl_reverse]
 exact(inv_all hp ha hm n (fun _=>false) (GG.ir _ _) (fun a b _ h=>by cases h)).done x ⟨hx,rfl⟩
end CC
end
section
namespace CC
def farB(L:Nat->Nat->Bool)(n x:Nat):Nat->Bool:=fun y=>!(decide (y<n) && L y x)
theorem pE{L:Nat->Nat->Bool}{n x y:Nat}:farB L n x y=false↔y<n/\L y x=true:=by unfold farB;simp
theorem ent_bound{n:Nat}{adj:Nat->List Nat}{L:Nat->Nat->Bool}(hp:Pre n L)(ha:Adj n adj L){main:Nat}(hm:main<n){e:Nat->Int}(hs:∀x,x<n->SpecE adj L main e x) :
 ∀(m:Nat) (x:Nat),x<n->1<=e x->e x<=m->e x<=GG.unv n (farB L n x):=by
 intro m
 induction m with
 | zero=>intro x hx h1 h2;omega
 | succ m ih =>
   intro x hx h1 h2
   have s:=hs x hx
   have hself:farB L n x x=false:=pE.2 ⟨hx,hp.refl x hx⟩
   rcases (s.v (by omega) (by omega)).2.2 with⟨v1,_⟩ | ⟨p,hpx,v1,v2⟩
   ·have:=GG.oM hx hself
    omega
   ·obtain⟨hpn,_,hlp⟩:=ha.one p x hpx
    have i1:=ih p hpn v1 (by omega)
    have hL:L main x=true:=by
     cases e':L main x
     ·have:=s.z.2 e';omega
     ·rfl
    have hxp:L x p=false:=by
     cases e':L x p
     ·rfl
     ·have hc:jW adj L x:=by
       rcases ha.head x p hx e' with e2 | ⟨j,hj,hl⟩
       ·rw[<-e2] at hpx;exact⟨x,hpx,hp.refl x hx⟩
       ·exact⟨j,hj,hp.trans j p x (ha.one x j hj).2.1 hl hlp⟩
      have:=s.m.2 ⟨hL,x,hL,hp.refl x hx,hc⟩
      omega
    have hm1:=GG.gF n (B:=GG.setB (farB L n x) x) (C:=farB L n p) (by
     intro y hy
     rw[GG.db] at hy
     cases e3:farB L n p y
     ·obtain⟨q1,q2⟩:=pE.1 e3
      rcases hy with e2 | e2
      ·rw[e2,hxp] at q2;cases q2
      ·rw[pE.2 ⟨q1,hp.trans y p x q1 q2 hlp⟩] at e2;cases e2
     ·rfl)
    have hm2:=GG.eY n hx hself
    omega
theorem ent_le{n:Nat}{adj:Nat->List Nat}{L:Nat->Nat->Bool}(hp:Pre n L)(ha:Adj n adj L){main:Nat}(hm:main<n){e:Nat->Int}(hs:∀x,x<n->SpecE adj L main e x)(x:Nat)(hx:x<n)(h1:1<=e x):e x<=n:=by
 have:=ent_bound hp ha hm hs (e x).toNat x hx h1 (by omega)
 have:=GG.ir n (farB L n x)
 omega
def ln(ns:List Int)(j:Nat):Int:=ns[j]?.getD 0
theorem pF{ns:List Int}{i:Nat}{v:Int}(hi:i<ns.length)(j:Nat):ln (ns.set i v) j=if j=i then v else ln ns j:=by
 unfold ln
 rw[List.getElem?_set]
 by_cases h:i=j
 ·subst h;simp [hi]
 ·rw[if_neg h,if_neg (fun h'=>h h'.symm)]
structure LongH (n:Nat) (adj:Nat->List Nat) (L:Nat->Nat->Bool) (main at_:Nat) (e:Nat->Int):Prop where
 pre:Pre n L
 ha:Adj n adj L
 hm:main<n
 hat:at_<n
 hl:L main at_=true
 hs:∀x,x<n->SpecE adj L main e x
 no:∀k,k<n->L main k=true->L k at_=true->¬jW adj L k
structure LongI (n:Nat) (L:Nat->Nat->Bool) (main at_:Nat) (e:Nat->Int) (r:Nat) (ns:List Int):Prop where
 len:ns.length=n
 bd:∀j,j<n->ln ns j=0∨(L main j=true/\1<=ln ns j/\ln ns j<=e j)
 full:∀j,j<n->L j at_=true->1<=e j->e j<=r+1->e j<=ln ns j
theorem LongH.pos{n:Nat}{adj:Nat->List Nat}{L:Nat->Nat->Bool}{main at_:Nat}{e:Nat->Int}(h:LongH n adj L main at_ e){j:Nat}(hj:j<n)(h1:L main j=true)(h2:L j at_=true):1<=e j:=by
 have s:=h.hs j hj
 have z:e j≠0:=fun e0=>by have:=s.z.1 e0;rw[h1] at this;cases this
 have m:e j≠-1:=fun e0=>by
  obtain⟨_,k,q1,q2,q3⟩:=s.m.1 e0
  have hk:=h.pre.lt main k h.hm q1
  exact h.no k hk q1 (h.pre.trans k j at_ hk q2 h2) q3
 exact(s.v z m).1
theorem sV{n:Nat}{adj:Nat->List Nat}{L:Nat->Nat->Bool}{main at_:Nat}{e:Nat->Int}(h:LongH n adj L main at_ e):LongI n L main at_ e 0 ((List.replicate n 0).set main 1):=by
 have hlen:main<(List.replicate n (0:Int)).length:=by simpa using h.hm
 have hz:∀j,ln (List.replicate n (0:Int)) j=0:=by
  intro j
  unfold ln
  by_cases hj:j<n
  ·simp [hj]
  ·simp [hj]
 have hv:∀j,ln ((List.replicate n (0:Int)).set main 1) j=if j=main then 1 else 0:=fun j=>by rw[pF hlen,hz]
 refine⟨by simp,fun j hj=>?_,fun j hj h1 h2 h3=>?_⟩
 ·rw[hv]
  by_cases hjm:j=main
  ·rw[if_pos hjm,hjm]
   exact .inr ⟨h.pre.refl main h.hm,by omega,h.pos h.hm (h.pre.refl main h.hm) h.hl⟩
  ·rw[if_neg hjm];exact .inl rfl
 ·rw[hv]
  rcases ((h.hs j hj).v (by omega) (by omega)).2.2 with⟨v1,v2⟩ | ⟨p,_,v1,v2⟩
  ·rw[if_pos v2];omega
  ·omega
theorem sW{n:Nat}{adj:Nat->List Nat}{L:Nat->Nat->Bool}{main at_:Nat}{e:Nat->Int}(h:LongH n adj L main at_ e){r:Nat}{ns:List Int}(hi:LongI n L main at_ e r ns){i j:Nat}(hj:j∈adj i)(h1:1<=ln ns i)(h2:L j at_=true)(h3:ln ns j<ln ns i+1) :
 LongI n L main at_ e r (ns.set j (ln ns i+1))/\(∀x,ln ns x<=ln (ns.set j (ln ns i+1)) x)/\ln (ns.set j (ln ns i+1)) j=ln ns i+1:=by
 obtain⟨hin,hjn,hlj⟩:=h.ha.one i j hj
 have hjl:j<ns.length:=by rw[hi.len];exact hjn
 have hv:=fun x=>pF (v:=ln ns i+1) hjl x
 have hmono:∀x,ln ns x<=ln (ns.set j (ln ns i+1)) x:=by
  intro x
  rw[hv]
  by_cases hx:x=j
  ·rw[if_pos hx,hx];omega
  ·rw[if_neg hx];omega
 refine⟨⟨by rw[List.length_set];exact hi.len,fun x hx=>?_,fun x hx q1 q2 q3=>Int.le_trans (hi.full x hx q1 q2 q3) (hmono x)⟩,hmono,by rw[hv,if_pos rfl]⟩
 rw[hv]
 by_cases hxj:x=j
 ·rw[if_pos hxj,hxj]
  rcases hi.bd i hin with q | ⟨q1,q2,q3⟩
  ·omega
  ·have hm:L main j=true:=h.pre.trans main i j h.hm q1 hlj
   have hpos:=h.pos hjn hm h2
   have:=((h.hs j hjn).v (by omega) (by omega)).2.1 i hj
   exact .inr ⟨hm,by omega,by omega⟩
 ·rw[if_neg hxj];exact hi.bd x hx
def jw(n:Nat)(adj:Nat->List Nat)(L:Nat->Nat->Bool)(at_:Nat)(e:Nat->Int)(r:Nat)(ns:List Int)(i:Nat):Prop:=∀p,p<i->∀j∈adj p,L j at_=true->1<=e p->e p<=r+1->e p+1<=ln ns j
def RowI(adj:Nat->List Nat)(L:Nat->Nat->Bool)(at_:Nat)(e:Nat->Int)(r:Nat)(ns:List Int)(i k:Nat):Prop:=∀j∈(adj i).take k,L j at_=true->1<=e i->e i<=r+1->e i+1<=ln ns j
theorem jw.mono{n:Nat}{adj:Nat->List Nat}{L:Nat->Nat->Bool}{at_:Nat}{e:Nat->Int}{r:Nat}{ns ms:List Int}{i:Nat}(h:jw n adj L at_ e r ns i)(hm:∀x,ln ns x<=ln ms x):jw n adj L at_ e r ms i :=
 fun p hp j hj h1 h2 h3=>Int.le_trans (h p hp j hj h1 h2 h3) (hm j)
theorem RowI.mono{adj:Nat->List Nat}{L:Nat->Nat->Bool}{at_:Nat}{e:Nat->Int}{r:Nat}{ns ms:List Int}{i k:Nat}(h:RowI adj L at_ e r ns i k)(hm:∀x,ln ns x<=ln ms x):RowI adj L at_ e r ms i k :=
 fun j hj h1 h2 h3=>Int.le_trans (h j hj h1 h2 h3) (hm j)
theorem row_start(adj:Nat->List Nat)(L:Nat->Nat->Bool)(at_:Nat)(e:Nat->Int)(r:Nat)(ns:List Int)(i:Nat):RowI adj L at_ e r ns i 0:=fun j hj=>by simp at hj
theorem mn{n:Nat}{adj:Nat->List Nat}{L:Nat->Nat->Bool}{main at_:Nat}{e:Nat->Int}(h:LongH n adj L main at_ e){r:Nat}{ns:List Int}(hi:LongI n L main at_ e r ns){i k:Nat}(hk:k<(adj i).length)(hr:RowI adj L at_ e r ns i k)(hq:L ((adj i)[k]?.getD 0) at_=true->ln ns i+1<=ln ns ((adj i)[k]?.getD 0)):RowI adj L at_ e r ns i (k+1):=by
 intro j hj h1 h2 h3
 rw[List.take_succ_eq_append_getElem hk,List.mem_append] at hj
 rcases hj with hj | hj
 ·exact hr j hj h1 h2 h3
 ·have e1:=List.mem_singleton.1 hj
  have e2:(adj i)[k]?.getD 0=j:=by rw[List.getElem?_eq_getElem hk,Option.getD_some,e1]
  rw[e2] at hq
  have hja:j∈adj i:=by rw[e1];exact List.getElem_mem hk
  obtain⟨hin,_,hl⟩:=h.ha.one i j hja
  have:=hi.full i hin (h.pre.trans i j at_ hin hl h1) h2 h3
  have:=hq h1
  omega
theorem mo{n:Nat}{adj:Nat->List Nat}{L:Nat->Nat->Bool}{at_:Nat}{e:Nat->Int}{r:Nat}{ns:List Int}{i:Nat}(h:jw n adj L at_ e r ns i)(hr:RowI adj L at_ e r ns i (adj i).length):jw n adj L at_ e r ns (i+1):=by
 intro p hp j hj h1 h2 h3
 by_cases hpi:p=i
 ·subst hpi
  exact hr j (by rw[List.take_length];exact hj) h1 h2 h3
 ·exact h p (by omega) j hj h1 h2 h3
theorem row_zero{n:Nat}{adj:Nat->List Nat}{L:Nat->Nat->Bool}{main at_:Nat}{e:Nat->Int}(h:LongH n adj L main at_ e){r:Nat}{ns:List Int}(hi:LongI n L main at_ e r ns){i:Nat}(h0:ln ns i<=0)(k:Nat):RowI adj L at_ e r ns i k:=by
 intro j hj h1 h2 h3
 have hja:=List.mem_of_mem_take hj
 obtain⟨hin,_,hl⟩:=h.ha.one i j hja
 have:=hi.full i hin (h.pre.trans i j at_ hin hl h1) h2 h3
 omega
theorem sX{n:Nat}{adj:Nat->List Nat}{L:Nat->Nat->Bool}{main at_:Nat}{e:Nat->Int}(h:LongH n adj L main at_ e){r:Nat}{ns:List Int}(hi:LongI n L main at_ e r ns)(hr:jw n adj L at_ e r ns n):LongI n L main at_ e (r+1) ns:=by
 refine⟨hi.len,hi.bd,fun j hj h1 h2 h3=>?_⟩
 by_cases hle:e j<=r+1
 ·exact hi.full j hj h1 h2 hle
 ·rcases ((h.hs j hj).v (by omega) (by omega)).2.2 with⟨v1,_⟩ | ⟨p,hpj,v1,v2⟩
  ·omega
  ·have:=hr p (h.ha.one p j hpj).1 j hpj h1 v1 (by omega)
   omega
theorem long_end{n:Nat}{adj:Nat->List Nat}{L:Nat->Nat->Bool}{main at_:Nat}{e:Nat->Int}(h:LongH n adj L main at_ e){ns:List Int}(hi:LongI n L main at_ e n ns):ln ns at_=e at_:=by
 have hpos:=h.pos h.hat h.hl (h.pre.refl at_ h.hat)
 have hle:=ent_le h.pre h.ha h.hm h.hs at_ h.hat hpos
 have:=hi.full at_ h.hat (h.pre.refl at_ h.hat) hpos (by omega)
 rcases hi.bd at_ h.hat with q | ⟨_,_,q⟩ <;> omega
end CC
theorem qO{to:List (List Int)}(h:GG.al to=true):CC.Adj to.length (GG.am to) (aB to):=by
 have hN:GG.adjN to (-1)=GG.am to:=GG.fH to (-1) (by omega)
 have hiff:∀a,a<to.length->∀x,aB to a x=true↔GG.Reach (GG.am to) a x:=fun a ha x=>by rw[<-hN];exact GG.cw h ha x
 refine⟨fun p y hy=>?_,fun a P ha h0 hs y hl=>?_,fun a y ha hl=>?_,fun p=>?_⟩
 ·have hp:=GG.kx hy
  exact⟨hp,GG.gA h p y hy,(hiff p hp y).2 (.one hy)⟩
 ·have hr:=(hiff a ha y).1 hl
  clear hl
  induction hr with
  | refl=>exact h0
  | step hij hk ih=>exact hs _ _ ih ((hiff a ha _).2 hij) hk
 ·rcases ((hiff a ha y).1 hl).cases_head with e | ⟨j,hj,hr⟩
  ·exact .inl e
  ·exact .inr ⟨j,hj,(hiff j (GG.gA h a j hj) y).2 hr⟩
 ·unfold GG.am
  by_cases hp:p<to.length
  ·have:=GG.aZ h hp
   exact GG.kV (fun j hj=>(GG.df this j hj).1) (GG.gG this)
  ·rw[List.getElem?_eq_none (by omega)];simp
def aR(to:List (List Int))(main:Nat)(x:Nat):Int:=CC.entF (GG.am to) (bw to) main x
theorem fB{to:List (List Int)}(h:GG.al to=true){main:Nat}(hm:main<to.length)(x:Nat)(hx:x<to.length):CC.SpecE (GG.am to) (aB to) main (aR to main) x:=by
 unfold aR bw
 rw[if_pos h]
 exact CC.ent_spec (iE h) (qO h) hm x hx
end
section
open Go.RowKit
def BTab(n₀:Nat)(W:World)(v:Value)(n m:Nat)(L:Nat->Nat->Bool):Prop :=
 ∃vs,cq n₀ W v vs/\vs.length=m/\∀j,j<m->∃r,vs[j]?=some r/\BRow n₀ W r (cO n (L j))
theorem BTab.below{n₀:Nat}{A B:World}(h:Below n₀ A B){v:Value}{n m:Nat}{L:Nat->Nat->Bool}:BTab n₀ A v n m L->BTab n₀ B v n m L
 | ⟨vs,h1,h2,h3⟩=>⟨vs,h1.below h,h2,fun j hj=>by obtain⟨r,e,g⟩:=h3 j hj;exact⟨r,e,g.below h⟩⟩
theorem BTab.at{n₀:Nat}{W:World}{v:Value}{n m:Nat}{L:Nat->Nat->Bool}(h:BTab n₀ W v n m L){a b:Nat}(ha:a<m)(hb:b<n) :
 ∃tb tf tc rb rf rc,v=.slice (some ⟨tb,tf,none⟩) m tc/\W.cell? ⟨tb,tf+a,none⟩=some (.slice (some ⟨rb,rf,none⟩) n rc)/\W.cell? ⟨rb,rf+b,none⟩=some (.bool (L a b)):=by
 obtain⟨vs,h1,h2,h3⟩:=h
 obtain⟨tb,tf,tc,rfl,_,hc⟩:=h1.at (by omega)
 obtain⟨r,e,g⟩:=h3 a ha
 obtain⟨rb,rf,rc,rfl,_,hr⟩:=g.at (by rw[bM];omega)
 refine⟨tb,tf,tc,rb,rf,rc,by rw[h2],?_,?_⟩
 ·have:=hc a _ e
  rwa [bM] at this
 ·have:=hr b (by rw[bM];exact hb)
  rwa [iU hb,Option.getD_some] at this
structure LeadM (n₀:Nat) (W:World) (cb n:Nat) (L:Nat->Nat->Bool):Prop where
 lt:cb<n₀
 tab:∃v,W.cell? ⟨cb,0,none⟩=some v/\BTab n₀ W v n n L
theorem LeadM.below{n₀:Nat}{A B:World}(h:Below n₀ A B){cb n:Nat}{L:Nat->Nat->Bool}(g:LeadM n₀ A cb n L):LeadM n₀ B cb n L:=by
 obtain⟨v,h1,h2⟩:=g.tab
 exact⟨g.lt,v,(h.cell (p:=⟨cb,0,none⟩) g.lt).trans h1,h2.below h⟩
set_option maxRecDepth 100000 in
set_option maxHeartbeats 1600000 in
theorem dE{n₀:Nat}{W:World}{cb n:Nat}{L:Nat->Nat->Bool}(a b:Nat)(h:LeadM n₀ W cb n L)(ha:a<n)(hb:b<n) :
 Calls Tryz.prog 74 #[.int .i64 a,.int .i64 b,.pointer (some ⟨cb,0,none⟩)] W fun e w'=>e=.returned (.bool (L a b))/\w'=W:=by
 obtain⟨v,h1,h2⟩:=h.tab
 obtain⟨tb,tf,tc,rb,rf,rc,rfl,h3,h4⟩:=h2.at ha hb
 have i1:(0:Int)<=a/\(a:Int)<n:=by omega
 have i2:(0:Int)<=b/\(b:Int)<n:=by omega
 clear h h2
 go_enter Tryz.func74,Tryz.ntmps74
 go_wp2_with fail
 go_ret
 exact⟨rfl,rfl⟩
set_option maxRecDepth 100000 in
set_option maxHeartbeats 1600000 in
theorem jX{n₀:Nat}{W:World}{cb lb n:Nat}{L:Nat->Nat->Bool}(a b:Nat)(h:LeadM n₀ W cb n L)(hl:W.cell? ⟨lb,0,none⟩=some (.func (.func 74) #[] #[.pointer (some ⟨cb,0,none⟩)]))(ha:a<n)(hb:b<n) :
 Calls Tryz.prog 43 #[.int .i64 a,.int .i64 b,.pointer (some ⟨lb,0,none⟩)] W fun e w'=>e=.returned (.bool (CC.tog L a b))/\w'=W:=by
 have H:=zH h
 clear h
 cases h1:L a b
 ·have HE:=zH (show CC.tog L a b=false by unfold CC.tog;rw[h1];rfl)
  have H1:=zH h1
  clear h1
  go_enter Tryz.func43,Tryz.ntmps43
  go_wp2_with (go_at_call 74;refine(dE a b H.out ha hb).mono ?_;rintro e w' ⟨rfl,rfl⟩;rw[H1.out])
  go_ret
  exact⟨by rw[HE.out];rfl,rfl⟩
 ·have H1:=zH h1
  obtain⟨z,hz⟩:∃z,z=L b a:=⟨_,rfl⟩
  have HE:=zH (show CC.tog L a b=z by unfold CC.tog;rw[h1,hz];rfl)
  have HZ:=zH hz
  clear h1 hz
  go_enter Tryz.func43,Tryz.ntmps43
  go_wp2_with fail
  refine(dE a b H.out ha hb).mono ?_
  rintro e w' ⟨rfl,rfl⟩
  rw[H1.out]
  go_wp2_with fail
  refine(dE b a H.out hb ha).mono ?_
  rintro e w' ⟨rfl,rfl⟩
  rw[<-HZ.out]
  go_wp2_with fail
  go_ret
  exact⟨by rw[HE.out];rfl,rfl⟩
structure GrpM (n₀:Nat) (W:World) (xb lb gb wb tb cb n:Nat) (L:Nat->Nat->Bool) (T:Nat->Bool):Prop where
 size:∃va vc,W.cell? ⟨xb,0,none⟩=some (.slice va n vc)
 lead:W.cell? ⟨lb,0,none⟩=some (.func (.func 74) #[] #[.pointer (some ⟨cb,0,none⟩)])
 toge:W.cell? ⟨gb,0,none⟩=some (.func (.func 43) #[] #[.pointer (some ⟨lb,0,none⟩)])
 wait:W.cell? ⟨wb,0,none⟩=some (.func (.func 44) #[] #[.pointer (some ⟨xb,0,none⟩),.pointer (some ⟨lb,0,none⟩),.pointer (some ⟨tb,0,none⟩),.pointer (some ⟨gb,0,none⟩)])
 tab:LeadM n₀ W cb n L
 told:W.rowIs tb 97 256 (fun i=>.bool (T i))
theorem sY{L:Nat->Nat->Bool}{n:Nat}{T:Nat->Bool}{a b:Nat}(hb:b<n)(h:(L a b && !T b && !CC.tog L a b)=true):CC.waitsB L n T a=true:=List.any_eq_true.2 ⟨b,List.mem_range.2 hb,h⟩
theorem sZ{L:Nat->Nat->Bool}{n:Nat}{T:Nat->Bool}{a:Nat}(h:∀b,b<n->(L a b && !T b && !CC.tog L a b)=false):CC.waitsB L n T a=false:=by
 unfold CC.waitsB
 rw[List.any_eq_false]
 intro b hb
 rw[h b (List.mem_range.1 hb)]
 decide
set_option maxRecDepth 100000 in
set_option maxHeartbeats 3200000 in
theorem td{n₀:Nat}{W:World}{xb lb gb wb tb cb n:Nat}{L:Nat->Nat->Bool}{T:Nat->Bool}(a:Nat)(h:GrpM n₀ W xb lb gb wb tb cb n L T)(ha:a<n)(hn:n<=256) :
 Calls Tryz.prog 44 #[.int .i64 a,.pointer (some ⟨xb,0,none⟩),.pointer (some ⟨lb,0,none⟩),.pointer (some ⟨tb,0,none⟩),.pointer (some ⟨gb,0,none⟩)] W fun e w'=>e=.returned (.bool (CC.waitsB L n T a))/\w'=W:=by
 obtain⟨va,vc,hx⟩:=h.size
 have hl:=h.lead
 have hg:=h.toge
 have H:=zH h
 clear h
 go_enter Tryz.func44,Tryz.ntmps44
 go_wp2_with fail
 go_loopw [10] (fun k wr=>∃i:Nat,i<=n/\k=.int .i64 (i:Int)/\W=wr/\RowKit.Hid (∀b,b<i->(L a b && !T b && !CC.tog L a b)=false)) (fun k _=>n-(intOf k).toNat)
 case atStart=>exact⟨0,by omega,rfl,rfl,zH (fun b hb=>absurd hb (Nat.not_lt_zero _))⟩
 case round =>
  obtain⟨i,hi,rfl,rfl,HI⟩:=hrel
  by_cases hlt:i<n
  ·have j1:decide ((i:Int)<(n:Int))=true:=decide_eq_true (by omega)
   have hT:=World.rowIs.cell H.out.told (show i<256 by omega)
   have i1:(0:Int)<=i/\(i:Int)<256:=by omega
   cases h1:L a i
   ·have H1:=zH h1
    have HN:=zH (show (L a i && !T i && !CC.tog L a i)=false by rw[h1];rfl)
    clear h1
    go_wp2_with (go_at_call 74;refine(dE a i H.out.tab ha hlt).mono ?_;rintro e w' ⟨rfl,rfl⟩;rw[H1.out])
    go_roundw
    case rel=>exact⟨i+1,by omega,by go_num,by first | rfl | trivial,zH (fun b hb=>by by_cases e:b=i;rw[e];exact HN.out;exact HI.out b (by omega))⟩
    case measure=>simp [intOf];omega
   ·have H1:=zH h1
    cases h2:T i
    ·rw[h2] at hT
     obtain⟨z,hz⟩:∃z,z=CC.tog L a i:=⟨_,rfl⟩
     have HZ:=zH hz
     cases z
     ·have HY:=zH (sY (T:=T) hlt (show (L a i && !T i && !CC.tog L a i)=true by rw[h1,h2,<-hz];rfl))
      clear h1 h2 hz
      go_wp2_with (first
       | (go_at_call 43;refine(jX a i H.out.tab hl ha hlt).mono ?_;rintro e w' ⟨rfl,rfl⟩;rw[<-HZ.out])
       | (go_at_call 74;refine(dE a i H.out.tab ha hlt).mono ?_;rintro e w' ⟨rfl,rfl⟩;rw[H1.out]))
      go_ret
      exact⟨by rw[HY.out];rfl,rfl⟩
     ·have HN:=zH (show (L a i && !T i && !CC.tog L a i)=false by rw[<-hz];simp)
      clear h1 h2 hz
      go_wp2_with (first
       | (go_at_call 43;refine(jX a i H.out.tab hl ha hlt).mono ?_;rintro e w' ⟨rfl,rfl⟩;rw[<-HZ.out])
       | (go_at_call 74;refine(dE a i H.out.tab ha hlt).mono ?_;rintro e w' ⟨rfl,rfl⟩;rw[H1.out]))
      go_roundw
      case rel=>exact⟨i+1,by omega,by go_num,by first | rfl | trivial,zH (fun b hb=>by by_cases e:b=i;rw[e];exact HN.out;exact HI.out b (by omega))⟩
      case measure=>simp [intOf];omega
    ·rw[h2] at hT
     have HN:=zH (show (L a i && !T i && !CC.tog L a i)=false by rw[h2];simp)
     clear h1 h2
     go_wp2_with (go_at_call 74;refine(dE a i H.out.tab ha hlt).mono ?_;rintro e w' ⟨rfl,rfl⟩;rw[H1.out])
     go_roundw
     case rel=>exact⟨i+1,by omega,by go_num,by first | rfl | trivial,zH (fun b hb=>by by_cases e:b=i;rw[e];exact HN.out;exact HI.out b (by omega))⟩
     case measure=>simp [intOf];omega
  ·have j1:decide ((i:Int)<(n:Int))=false:=decide_eq_false (by omega)
   have HE:=zH (sZ (n:=n) (fun b hb=>HI.out b (by omega)))
   clear HI
   go_wp2_with fail
   go_ret
   exact⟨by rw[HE.out];rfl,rfl⟩
set_option maxRecDepth 100000 in
set_option maxHeartbeats 1600000 in
theorem nT{n₀:Nat}{W:World}{xb lb gb wb tb cb n:Nat}{L:Nat->Nat->Bool}{T:Nat->Bool}(a:Nat)(h:GrpM n₀ W xb lb gb wb tb cb n L T)(ha:a<n)(hn:n<=256) :
 Calls Tryz.prog 45 #[.int .i64 a,.pointer (some ⟨tb,0,none⟩),.pointer (some ⟨wb,0,none⟩)] W fun e w'=>e=.returned (.bool (CC.fZ L n T a))/\w'=W:=by
 have hw:=h.wait
 have hT:=World.rowIs.cell h.told (show a<256 by omega)
 have i1:(0:Int)<=a/\(a:Int)<256:=by omega
 have H:=zH h
 clear h
 cases h1:T a
 ·rw[h1] at hT
  obtain⟨z,hz⟩:∃z,z=CC.waitsB L n T a:=⟨_,rfl⟩
  have HZ:=zH hz
  have HE:=zH (show CC.fZ L n T a = !z by unfold CC.fZ;rw[h1,hz];rfl)
  clear h1 hz
  go_enter Tryz.func45,Tryz.ntmps45
  go_wp2_with (go_at_call 44;refine(td a H.out ha hn).mono ?_;rintro e w' ⟨rfl,rfl⟩;rw[<-HZ.out])
  go_ret
  exact⟨by rw[HE.out];rfl,rfl⟩
 ·rw[h1] at hT
  have HE:=zH (show CC.fZ L n T a=false by unfold CC.fZ;rw[h1];rfl)
  clear h1
  go_enter Tryz.func45,Tryz.ntmps45
  go_wp2_with fail
  go_ret
  exact⟨by rw[HE.out];rfl,rfl⟩
theorem next_hit{L:Nat->Nat->Bool}{n:Nat}{T:Nat->Bool}{k:Nat}(hk:k<n)(hp:CC.fZ L n T k=true)(hno:∀j,j<k->CC.fZ L n T j=false):CC.ct L n T=some k:=by
 have h:=GG.dC hk hp hno
 unfold GG.cE at h
 unfold CC.ct
 cases e:(List.range n).find? (CC.fZ L n T) with
 | none=>rw[e] at h;have h:(-1:Int)=k:=h;omega
 | some j=>rw[e] at h;have h:(j:Int)=k:=h;congr 1;omega
theorem next_none{L:Nat->Nat->Bool}{n:Nat}{T:Nat->Bool}(hno:∀j,j<n->CC.fZ L n T j=false):CC.ct L n T=none:=by
 unfold CC.ct
 rw[List.find?_eq_none]
 intro x hx
 rw[hno x (List.mem_range.1 hx)]
 decide
def firstE(o:Option Nat):Ending:=match o with | some a=>.returned (.tuple #[.int .i64 (a:Int),.bool true]) | none=>.returned (.tuple #[.int .i64 0,.bool false])
set_option maxRecDepth 100000 in
set_option maxHeartbeats 1600000 in
theorem mp{n₀:Nat}{W:World}{xb lb gb wb tb cb n:Nat}{L:Nat->Nat->Bool}{T:Nat->Bool}(h:GrpM n₀ W xb lb gb wb tb cb n L T)(hn:n<=256) :
 Calls Tryz.prog 46 #[.int .i64 n,.func (.func 45) #[] #[.pointer (some ⟨tb,0,none⟩),.pointer (some ⟨wb,0,none⟩)]] W fun e w'=>e=firstE (CC.ct L n T)/\w'=W:=by
 have H:=zH h
 clear h
 go_enter Tryz.func46,Tryz.ntmps46
 go_wp2_with fail
 go_loopw [8] (fun k wr=>∃i:Nat,i<=n/\k=.int .i64 (i:Int)/\W=wr/\RowKit.Hid (∀b,b<i->CC.fZ L n T b=false)) (fun k _=>n-(intOf k).toNat)
 case atStart=>exact⟨0,by omega,rfl,rfl,zH (fun b hb=>absurd hb (Nat.not_lt_zero _))⟩
 case round =>
  obtain⟨i,hi,rfl,rfl,HI⟩:=hrel
  by_cases hlt:i<n
  ·have j1:decide ((i:Int)<(n:Int))=true:=decide_eq_true (by omega)
   cases h1:CC.fZ L n T i
   ·have H1:=zH h1
    clear h1
    go_wp2_with (go_at_call 45;refine(nT i H.out hlt hn).mono ?_;rintro e w' ⟨rfl,rfl⟩;rw[H1.out])
    go_roundw
    case rel=>exact⟨i+1,by omega,by go_num,by first | rfl | trivial,zH (fun b hb=>by by_cases e:b=i;rw[e];exact H1.out;exact HI.out b (by omega))⟩
    case measure=>simp [intOf];omega
   ·have H1:=zH h1
    have HE:=zH (next_hit hlt h1 HI.out)
    clear h1
    go_wp2_with (go_at_call 45;refine(nT i H.out hlt hn).mono ?_;rintro e w' ⟨rfl,rfl⟩;rw[H1.out])
    go_ret2
    exact⟨by rw[HE.out];rfl,rfl⟩
  ·have j1:decide ((i:Int)<(n:Int))=false:=decide_eq_false (by omega)
   have HE:=zH (next_none (L:=L) (T:=T) (n:=n) (fun b hb=>HI.out b (by omega)))
   clear HI
   go_wp2_with fail
   go_ret2
   exact⟨by rw[HE.out];rfl,rfl⟩
end
section
open Go.RowKit
namespace CC
theorem own_of_block{w w':World}{B e n size:Nat}{v:Value}{xs:List Value}(h:w.ownsRow B e size v n xs)(hk:∀k,v.ownBlock=some k->w'.heap[k]?=w.heap[k]?):w'.ownsRow B e size v n xs:=by
 refine⟨h.1,?_⟩
 rcases h.2 with hn | ⟨g,cap,cur,rfl,hb,hgg,rest⟩
 ·exact .inl hn
 ·exact .inr ⟨g,cap,cur,rfl,hb,(hk g rfl).trans hgg,rest⟩
theorem eJ{W:World}{B B' e size n:Nat}{v:Value}{xs:List Value}(h:B'<=B)(g:W.ownsRow B e size v n xs):W.ownsRow B' e size v n xs:=by
 refine⟨g.1,?_⟩
 rcases g.2 with hn | ⟨k,cap,cur,rfl,hb,rest⟩
 ·exact .inl hn
 ·exact .inr ⟨k,cap,cur,rfl,Nat.le_trans h hb,rest⟩
theorem iG{w:World}{B e n size:Nat}{v:Value}{xs:List Value}(h:w.ownsRow B e size v n xs):∃a cap,v=.slice a n cap:=by
 rcases h.2 with⟨rfl,rfl⟩ | ⟨g,cap,cur,rfl,_⟩
 ·exact⟨_,_,rfl⟩
 ·exact⟨_,_,rfl⟩
theorem set_obj{w:World}{r c:Nat}{cs:Array Value}{T:TypeId}(v:Value)(h:w.heap[r]?=some (.cells cs T)):(w.setCell ⟨r,c,none⟩ v).heap[r]?=some (.cells (cs.setIfInBounds c v) T):=by
 simp only[World.setCell,Array.getElem?_modify,if_pos rfl,h,Option.map_some]
 rfl
theorem co{w:World}{g:Nat}{o:Obj}(h:w.heap[g]?=some o):g<w.heap.size:=(Array.getElem?_eq_some_iff.1 h).1
theorem dF{w:World}{o:Obj}{n:Nat}(h:w.heap.size=n):(w.alloc o).heap[n]?=some o:=by
 subst h
 exact heap_alloc_new _ _
end CC
open CC
theorem Tryz.infoCBools:(Tryz.prog.info? 38).map (fun i=>(i.zero,i.size,i.bytes))=some (some (.slice none 0 0),1,24):=by kernel_rfl
structure LeadT (W:World) (n i:Nat) (L:Nat->Nat->Bool) (V:World) (v:Value) (vs:List Value):Prop where
 below:Below W.heap.size W V
 cell:V.heap[W.heap.size]?=some (.cells #[v] 101)
 own:V.ownsRow (W.heap.size+1) 38 1 v i vs
 rows:∀j,j<i->∃r,vs[j]?=some r/\V.ownsRow (W.heap.size+1) 4 1 r n (bt (cO n (L j)))
theorem LeadT.lt{W V:World}{n i:Nat}{L:Nat->Nat->Bool}{v:Value}{vs:List Value}(h:LeadT W n i L V v vs):W.heap.size+1<=V.heap.size:=co h.cell
theorem LeadT.start(W:World)(n:Nat)(L:Nat->Nat->Bool):LeadT W n 0 L (W.alloc (.cells #[.slice none 0 0] 101)) (.slice none 0 0) [] :=
 ⟨(Below.refl _ _).alloc (Nat.le_refl _) _,dF rfl,World.ownsRow_nil _ _ _ _,fun j hj=>absurd hj (Nat.not_lt_zero _)⟩
theorem LeadT.next{W V w1 w3:World}{n i:Nat}{L:Nat->Nat->Bool}{v v' rv:Value}{vs:List Value}{o:Obj}(h:LeadT W n i L V v vs)(hb:Below V.heap.size V w1)(hr:w1.ownsRow V.heap.size 4 1 rv n (bt (cO n (L i))))
 (ho:w3.ownsRow (W.heap.size+1) 38 1 v' (i+1) (vs ++ [rv])) (hg:(w1.alloc o).grownBy w3 v.ownBlock) :
 w3.heap[W.heap.size]?=some (.cells #[v] 101)/\LeadT W n (i+1) L (w3.setCell ⟨W.heap.size,0,none⟩ v') v' (vs ++ [rv]):=by
 have hlt:=h.lt
 have hs1:=hb.size
 have key:∀k,k<w1.heap.size->some k≠v.ownBlock->w3.heap[k]?=w1.heap[k]?:=fun k hk hne=>(hg.block k (by simp;omega) hne).trans (heap_alloc_old _ _ hk)
 have hnv:some W.heap.size≠v.ownBlock:=fun e=>by have:=(h.own.lt _ e.symm).1;omega
 have hc1:w1.heap[W.heap.size]?=some (.cells #[v] 101):=(hb.block _ (by omega)).trans h.cell
 have hc3:=(key _ (by omega) hnv).trans hc1
 have hset:∀k,k≠W.heap.size->(w3.setCell ⟨W.heap.size,0,none⟩ v').heap[k]?=w3.heap[k]?:=fun k hk=>Below.heap_setCell _ _ _ _ hk
 refine⟨hc3,?_,?_,own_of_block ho (fun k e=>hset k (by have:=(ho.lt k e).1;omega)),fun j hj=>?_⟩
 ·have h1:Below W.heap.size W w1:=h.below.trans (hb.mono h.below.size)
  exact((h1.alloc h1.size o).grown hg (by have:=h1.size;simp;omega) (fun k e=>by have:=(h.own.lt k e).1;omega)).setCell (Nat.le_refl _) _
 ·have:=set_obj (c:=0) v' hc3
  simpa using this
 ·have hl:vs.length=i:=by have:=h.own.1;omega
  by_cases e:j=i
  ·subst e
   refine⟨rv,by rw[<-hl];simp,?_⟩
   have hvw:w1.ownsRow (W.heap.size+1) 38 1 v j vs:=own_of_block h.own (fun k e=>hb.block _ (h.own.lt k e).2)
   refine eJ (by omega) (own_of_block hr (fun k e=>?_))
   have hk:=hr.lt k e
   rw[hset k (by omega),key k hk.2 (fun e'=>by rcases GG.own_types hr hvw (by decide) with q | q;rw[q] at e;cases e;exact q (e.trans e'))]
  ·obtain⟨r,h1,h2⟩:=h.rows j (by omega)
   refine⟨r,by rw[List.getElem?_append_left (by omega)];exact h1,own_of_block h2 (fun k e=>?_)⟩
   have hk:=h2.lt k e
   rw[hset k (by omega),key k (by omega) (fun e'=>by rcases GG.own_types h2 h.own (by decide) with q | q;rw[q] at e;cases e;exact q (e.trans e')),hb.block k hk.2]
theorem LeadT.lead{W V:World}{n:Nat}{L:Nat->Nat->Bool}{v:Value}{vs:List Value}(h:LeadT W n n L V v vs):LeadM V.heap.size V W.heap.size n L:=by
 have hl:vs.length=n:=by have:=h.own.1;omega
 exact⟨h.lt,v,cell_of_one h.cell,vs,aS h.own,hl,fun j hj=>by obtain⟨r,h1,h2⟩:=h.rows j hj;exact⟨r,h1,aS h2⟩⟩
set_option maxRecDepth 100000 in
set_option maxHeartbeats 6400000 in
theorem qP{v:Value}{to:List (List Int)}(W:World)(hv:aq W.heap.size W v to)(hx:cQ to)(hr:GG.al to=true) :
 Calls Tryz.prog 42 #[v] W fun e W'=>e=.returned (.func (.func 74) #[] #[.pointer (some ⟨W.heap.size,0,none⟩)])/\LeadM W'.heap.size W' W.heap.size to.length (aB to)/\Below W.heap.size W W':=by
 have hx0:=hx.1
 have hlen:=GG.aC hr
 have HV:=zH hv
 have HX:=zH hx
 have HR:=zH hr
 obtain⟨va,vc,rfl⟩:=hv.form
 obtain⟨b0,hb0,hy0,hy1,hy2⟩:=info_parts Tryz.infoCBools
 clear hv hx hr
 go_enter Tryz.func42,Tryz.ntmps42
 go_wp2_with fail
 go_loopw [7] (fun k wr=>∃i:Nat,i<=to.length/\k=.int .i64 (i:Int)/\RowKit.Hid (∃v vs,LeadT W to.length i (aB to) wr v vs)) (fun k _=>to.length-(intOf k).toNat)
 case atStart=>exact⟨0,by omega,rfl,zH ⟨_,_,LeadT.start W to.length (aB to)⟩⟩
 case round =>
  obtain⟨i,hi,rfl,HT⟩:=hrel
  obtain⟨v,vs,hT⟩:=HT.out
  have HT:=zH hT
  clear hT
  by_cases hlt:i<to.length
  ·have j1:decide ((i:Int)<(to.length:Int))=true:=decide_eq_true (by omega)
   have HE:=zH (show dR to (i:Int)=cO to.length (aB to i) by unfold dR;rw[if_pos ⟨HR.out,decide_eq_true (by omega)⟩,Int.toNat_natCast];rfl)
   obtain⟨wa,wc,rfl⟩:=CC.iG HT.out.own
   have hN:=HT.out.lt
   have hcA:wr.cell? ⟨W.heap.size,0,none⟩=some (.slice wa i wc):=cell_of_one HT.out.cell
   have hcB:wr.drew.cell? ⟨W.heap.size,0,none⟩=some (.slice wa i wc):=hcA
   go_upto_region 5 with fail
   refine wp_region_held_drew (S:=(fun _=>True)) (by kernel_rfl) ?_ (fun hHeld=>?_)
   ·trivial
   refine tkV 1 (.slice va to.length vc) rfl (fun W hSW=>?_) hHeld ?_
   ·((try dsimp only at hSW);go_split_ands;go_simp <;> with_reducible rfl)
   try simp only[zA,zB,zC,Act.put,zD,zE,zF]
   refine tkV 2 (.int .i64 i) rfl (fun W hSW=>?_) hHeld ?_
   ·((try dsimp only at hSW);go_split_ands;go_simp <;> with_reducible rfl)
   try simp only[zA,zB,zC,Act.put,zD,zE,zF]
   refine wpAnyH_ready (rs:=[0,3]) (by kernel_rfl) (by simp) ?_
   refine AllReadyH.cons rfl (fun K hK=>?_) (AllReadyH.cons rfl (fun K hK=>?_) AllReadyH.nil)
   ·skip
    try simp only[zA,zB,zC]
    go_simp
    try go_wp2_with fail
    refine hK.out _ _ ?_ (fun hHeld=>?_)
    ·trivial
    clear hK K
    try simp only[zA,zB,zC,Act.put,zD,zE,zF]
    refine wpAnyH_ready (rs:=[3]) (by kernel_rfl) (by simp) ?_
    refine AllReadyH.cons rfl (fun K hK=>?_) AllReadyH.nil
    try simp only[zA,zB,zC]
    go_simp
    (refine(kZ (to:=to) (i:Int) _ (by first | exact HV.out.on HT.out.below HT.out.below.size | exact HV.out.on HT.out.below.drew HT.out.below.size) HX.out).mono ?_;rintro e w1 ⟨rv,rfl,hrv,hb⟩;rw[HE.out,bM] at hrv)
    try go_wp2_with fail
    refine hK.out _ _ ?_ (fun hHeld=>?_)
    ·trivial
    clear hK K
    try simp only[zA,zB,zC,Act.put,zD,zE,zF]
    have HRV:=zH (show w1.ownsRow wr.heap.size 4 1 rv to.length (bt (cO to.length (aB to i))) by first | exact hrv | exact eJ (Nat.le_refl _) hrv)
    have HB1:=zH (show Below wr.heap.size wr w1 by first | exact hb | exact(Below.refl wr.heap.size wr).drew.trans hb)
    obtain⟨rva,rvc,rfl⟩:=CC.iG HRV.out
    have hc1:w1.cell? ⟨W.heap.size,0,none⟩=some (.slice wa i wc):=(HB1.out.cell (p:=⟨W.heap.size,0,none⟩) hN).trans hcA
    have hc2:w1.drew.cell? ⟨W.heap.size,0,none⟩=some (.slice wa i wc):=hc1
    have hc3:(w1.alloc (.cells #[.slice rva to.length rvc] 38)).cell? ⟨W.heap.size,0,none⟩=some (.slice wa i wc):=((HB1.out.alloc HB1.out.size _).cell (p:=⟨W.heap.size,0,none⟩) hN).trans hcA
    have hc4:(w1.alloc (.cells #[.slice rva to.length rvc] 38)).drew.cell? ⟨W.heap.size,0,none⟩=some (.slice wa i wc):=hc3
    have hc5:(w1.drew.alloc (.cells #[.slice rva to.length rvc] 38)).cell? ⟨W.heap.size,0,none⟩=some (.slice wa i wc):=hc3
    clear hrv hb
    refine wpAnyH_ready (rs:=[4]) (by kernel_rfl) (by simp) ?_
    refine AllReadyH.cons rfl (fun K hK=>?_) AllReadyH.nil
    try simp only[zA,zB,zC]
    go_simp
    try go_wp2_with fail
    refine hK.out _ _ ?_ (fun hHeld=>?_)
    ·trivial
    clear hK K
    try simp only[zA,zB,zC,Act.put,zD,zE,zF]
    refine wpAnyH_ready (rs:=[5]) (by kernel_rfl) (by simp) ?_
    refine AllReadyH.cons rfl (fun K hK=>?_) AllReadyH.nil
    refine step_append_lies _ rfl (.tmp 10) (.tmp 14) 101 rfl (W.heap.size+1) 38 b0 (.slice none 0 0) 1 24 Tryz.underlying101 hb0 hy0 hy1 hy2 rfl (by decide) (.slice wa i wc) i vs (by rfl) (own_of_block HT.out.own (fun k hk=>(HB1.out.alloc HB1.out.size _).block _ (HT.out.own.lt k hk).2)) ⟨w1.heap.size,0,none⟩ 1 1 [.slice rva to.length rvc] (by rfl) rfl (World.news_of_block (cs:=#[.slice rva to.length rvc]) (t:=38) (fr:=(0,0)) (dF rfl)) (by intro u hu;rw[List.mem_singleton.1 hu];rfl) (by decide) (by unfold maxLen;omega) (by omega) (by have:=HB1.out.size;simp;omega) (w1.heap.size+1) (by simp) ?_
    intro g2 cap2 w3 hown hg hat hlt2
    have HF:=zH (HT.out.next HB1.out HRV.out hown hg)
    have hc6:=cell_of_one HF.out.1
    have hf6:=free_of_one HF.out.1
    refine hK.out _ _ ?_ (fun hHeld=>?_)
    ·trivial
    clear hK K
    try simp only[zA,zB,zC,Act.put,zD,zE,zF]
    refine wpAnyH_ready (rs:=[6]) (by kernel_rfl) (by simp) ?_
    refine AllReadyH.cons rfl (fun K hK=>?_) AllReadyH.nil
    try simp only[zA,zB,zC]
    go_simp
    try go_wp2_with fail
    refine hK.out _ _ ?_ (fun hHeld=>?_)
    ·trivial
    clear hK K
    try simp only[zA,zB,zC,Act.put,zD,zE,zF]
    refine wpAnyH_done (by kernel_rfl) ?_ _
    clear hHeld
    go_wp2_with fail
    go_roundw
    case rel=>exact⟨i+1,by omega,by go_num,zH ⟨_,_,HF.out.2⟩⟩
    case measure=>simp [intOf];omega
   ·skip
    try simp only[zA,zB,zC]
    go_simp
    (refine(kZ (to:=to) (i:Int) _ (by first | exact HV.out.on HT.out.below HT.out.below.size | exact HV.out.on HT.out.below.drew HT.out.below.size) HX.out).mono ?_;rintro e w1 ⟨rv,rfl,hrv,hb⟩;rw[HE.out,bM] at hrv)
    try go_wp2_with fail
    refine hK.out _ _ ?_ (fun hHeld=>?_)
    ·trivial
    clear hK K
    try simp only[zA,zB,zC,Act.put,zD,zE,zF]
    have HRV:=zH (show w1.ownsRow wr.heap.size 4 1 rv to.length (bt (cO to.length (aB to i))) by first | exact hrv | exact eJ (Nat.le_refl _) hrv)
    have HB1:=zH (show Below wr.heap.size wr w1 by first | exact hb | exact(Below.refl wr.heap.size wr).drew.trans hb)
    obtain⟨rva,rvc,rfl⟩:=CC.iG HRV.out
    have hc1:w1.cell? ⟨W.heap.size,0,none⟩=some (.slice wa i wc):=(HB1.out.cell (p:=⟨W.heap.size,0,none⟩) hN).trans hcA
    have hc2:w1.drew.cell? ⟨W.heap.size,0,none⟩=some (.slice wa i wc):=hc1
    have hc3:(w1.alloc (.cells #[.slice rva to.length rvc] 38)).cell? ⟨W.heap.size,0,none⟩=some (.slice wa i wc):=((HB1.out.alloc HB1.out.size _).cell (p:=⟨W.heap.size,0,none⟩) hN).trans hcA
    have hc4:(w1.alloc (.cells #[.slice rva to.length rvc] 38)).drew.cell? ⟨W.heap.size,0,none⟩=some (.slice wa i wc):=hc3
    have hc5:(w1.drew.alloc (.cells #[.slice rva to.length rvc] 38)).cell? ⟨W.heap.size,0,none⟩=some (.slice wa i wc):=hc3
    clear hrv hb
    refine wpAnyH_ready (rs:=[0,4]) (by kernel_rfl) (by simp) ?_
    refine AllReadyH.cons rfl (fun K hK=>?_) (AllReadyH.cons rfl (fun K hK=>?_) AllReadyH.nil)
    ·skip
     try simp only[zA,zB,zC]
     go_simp
     try go_wp2_with fail
     refine hK.out _ _ ?_ (fun hHeld=>?_)
     ·trivial
     clear hK K
     try simp only[zA,zB,zC,Act.put,zD,zE,zF]
     refine wpAnyH_ready (rs:=[4]) (by kernel_rfl) (by simp) ?_
     refine AllReadyH.cons rfl (fun K hK=>?_) AllReadyH.nil
     try simp only[zA,zB,zC]
     go_simp
     try go_wp2_with fail
     refine hK.out _ _ ?_ (fun hHeld=>?_)
     ·trivial
     clear hK K
     try simp only[zA,zB,zC,Act.put,zD,zE,zF]
     refine wpAnyH_ready (rs:=[5]) (by kernel_rfl) (by simp) ?_
     refine AllReadyH.cons rfl (fun K hK=>?_) AllReadyH.nil
     refine step_append_lies _ rfl (.tmp 10) (.tmp 14) 101 rfl (W.heap.size+1) 38 b0 (.slice none 0 0) 1 24 Tryz.underlying101 hb0 hy0 hy1 hy2 rfl (by decide) (.slice wa i wc) i vs (by rfl) (own_of_block HT.out.own (fun k hk=>(HB1.out.alloc HB1.out.size _).block _ (HT.out.own.lt k hk).2)) ⟨w1.heap.size,0,none⟩ 1 1 [.slice rva to.length rvc] (by rfl) rfl (World.news_of_block (cs:=#[.slice rva to.length rvc]) (t:=38) (fr:=(0,0)) (dF rfl)) (by intro u hu;rw[List.mem_singleton.1 hu];rfl) (by decide) (by unfold maxLen;omega) (by omega) (by have:=HB1.out.size;simp;omega) (w1.heap.size+1) (by simp) ?_
     intro g2 cap2 w3 hown hg hat hlt2
     have HF:=zH (HT.out.next HB1.out HRV.out hown hg)
     have hc6:=cell_of_one HF.out.1
     have hf6:=free_of_one HF.out.1
     refine hK.out _ _ ?_ (fun hHeld=>?_)
     ·trivial
     clear hK K
     try simp only[zA,zB,zC,Act.put,zD,zE,zF]
     refine wpAnyH_ready (rs:=[6]) (by kernel_rfl) (by simp) ?_
     refine AllReadyH.cons rfl (fun K hK=>?_) AllReadyH.nil
     try simp only[zA,zB,zC]
     go_simp
     try go_wp2_with fail
     refine hK.out _ _ ?_ (fun hHeld=>?_)
     ·trivial
     clear hK K
     try simp only[zA,zB,zC,Act.put,zD,zE,zF]
     refine wpAnyH_done (by kernel_rfl) ?_ _
     clear hHeld
     go_wp2_with fail
     go_roundw
     case rel=>exact⟨i+1,by omega,by go_num,zH ⟨_,_,HF.out.2⟩⟩
     case measure=>simp [intOf];omega
    ·skip
     try simp only[zA,zB,zC]
     go_simp
     try go_wp2_with fail
     refine hK.out _ _ ?_ (fun hHeld=>?_)
     ·trivial
     clear hK K
     try simp only[zA,zB,zC,Act.put,zD,zE,zF]
     refine wpAnyH_ready (rs:=[0]) (by kernel_rfl) (by simp) ?_
     refine AllReadyH.cons rfl (fun K hK=>?_) AllReadyH.nil
     try simp only[zA,zB,zC]
     go_simp
     try go_wp2_with fail
     refine hK.out _ _ ?_ (fun hHeld=>?_)
     ·trivial
     clear hK K
     try simp only[zA,zB,zC,Act.put,zD,zE,zF]
     refine wpAnyH_ready (rs:=[5]) (by kernel_rfl) (by simp) ?_
     refine AllReadyH.cons rfl (fun K hK=>?_) AllReadyH.nil
     refine step_append_lies _ rfl (.tmp 10) (.tmp 14) 101 rfl (W.heap.size+1) 38 b0 (.slice none 0 0) 1 24 Tryz.underlying101 hb0 hy0 hy1 hy2 rfl (by decide) (.slice wa i wc) i vs (by rfl) (own_of_block HT.out.own (fun k hk=>(HB1.out.alloc HB1.out.size _).block _ (HT.out.own.lt k hk).2)) ⟨w1.heap.size,0,none⟩ 1 1 [.slice rva to.length rvc] (by rfl) rfl (World.news_of_block (cs:=#[.slice rva to.length rvc]) (t:=38) (fr:=(0,0)) (dF rfl)) (by intro u hu;rw[List.mem_singleton.1 hu];rfl) (by decide) (by unfold maxLen;omega) (by omega) (by have:=HB1.out.size;simp;omega) (w1.heap.size+1) (by simp) ?_
     intro g2 cap2 w3 hown hg hat hlt2
     have HF:=zH (HT.out.next HB1.out HRV.out hown hg)
     have hc6:=cell_of_one HF.out.1
     have hf6:=free_of_one HF.out.1
     refine hK.out _ _ ?_ (fun hHeld=>?_)
     ·trivial
     clear hK K
     try simp only[zA,zB,zC,Act.put,zD,zE,zF]
     refine wpAnyH_ready (rs:=[6]) (by kernel_rfl) (by simp) ?_
     refine AllReadyH.cons rfl (fun K hK=>?_) AllReadyH.nil
     try simp only[zA,zB,zC]
     go_simp
     try go_wp2_with fail
     refine hK.out _ _ ?_ (fun hHeld=>?_)
     ·trivial
     clear hK K
     try simp only[zA,zB,zC,Act.put,zD,zE,zF]
     refine wpAnyH_done (by kernel_rfl) ?_ _
     clear hHeld
     go_wp2_with fail
     go_roundw
     case rel=>exact⟨i+1,by omega,by go_num,zH ⟨_,_,HF.out.2⟩⟩
     case measure=>simp [intOf];omega
  ·have HF:=zH (show LeadT W to.length to.length (aB to) wr v vs by have e:i=to.length:=by omega
                                                                    rw[e] at HT;exact HT.out)
   go_wp2_with fail
   go_ret
   exact⟨rfl,HF.out.lead,HF.out.below⟩
end
end Go.Proofs.YtjngffgkllakaaaGreatDoor
