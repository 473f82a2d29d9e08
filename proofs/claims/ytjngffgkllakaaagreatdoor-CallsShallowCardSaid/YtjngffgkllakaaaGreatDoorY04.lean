/- A part of a proof: laws that the last text uses. -/
import Derived.Test.YtjngffgkllakaaaGreatDoorY02
import Derived.Test.YtjngffgkllakaaaGreatDoorY03
import Derived.RangeFuncNested
import Derived.Deep.QuietTactic
import Derived.BigQuiet
import Derived.Sort.QuietIn
import Derived.Sort.CutIn
import Derived.Deep.RegionWith
import Derived.ScopeJumps
import Derived.WalkMore
import Derived.Shelf.Small.Bits
import Derived.Shelf.Strconv.Itoa0
import Derived.Shelf.Sort.Plain
import Derived.Shelf.Bits.Mul64
import Derived.Shelf.Slices.Turned
import Derived.Shelf.Slices.Reverse
import Derived.Shelf.Slices.Equal
import Derived.Ground.Names2Prog
import Derived.Shelf.Slices.Clone
import Derived.Shelf.Slices.CompactI
import Derived.Shelf.Slices.Cells
import Derived.Shelf.Slices.In.SortNone
import Derived.Shelf.Slices.Empties2
import Derived.Test.YtjngffgkllakaaaGreatDoorProg
import Derived.RangeFuncBox
import Derived.RangeFuncFrom
import Derived.Maps.AppendAt
import Derived.Sort.OwnSortedInts
set_option linter.unusedSimpArgs false
set_option linter.unusedVariables false
namespace Go.Proofs.YtjngffgkllakaaaGreatDoor
open List renaming getElem_toArray → zA, getElem_cons_succ → zB, getElem_cons_zero → zC, setIfInBounds_toArray → zD, set_cons_zero → zE, set_cons_succ → zF
open Lib renaming hid → zH
section
open Go.RowKit Go.Shelf
open CD (OpP BodyP CodeP ae blAt fnAt)
attribute [local go_sem] Oper.semAt_some
theorem cnt_mono(l:List OpP):∀ {i j:Nat},i<=j->CD.cnt l i<=CD.cnt l j:=by
 intro i j h
 unfold CD.cnt
 exact((List.take_prefix_take_left h).sublist.filter _).length_le
theorem cntB_mono(b:BodyP){i j:Nat}(h:i<=j):CD.cntB b i<=CD.cntB b j:=by
 unfold CD.cntB
 rw[List.map_take,List.map_take]
 exact CD.iZ _ _ _ h
theorem same_len{n₀:Nat}{W:World}{b:BodyP}{ls:List (List OpV)}(h1:ls.length=b.bs.length)(h2:∀j,j<b.bs.length->dl n₀ W (ls[j]?.getD []) (b.bs[j]?.getD [])):gX ls b:=by
 refine⟨h1,fun i=>?_⟩
 by_cases hi:i<b.bs.length
 ·exact(h2 i hi).1
 ·unfold lsAt blAt
  rw[List.getElem?_eq_none (by omega),List.getElem?_eq_none (by omega)]
  rfl
def itB(b:BodyP):List (Nat × Nat):=bQ (b.bs.map fun l=>l.map fun _=>ov0)
theorem itB_at(b:BodyP)(i:Nat):(lsAt (b.bs.map fun l=>l.map fun _=>ov0) i).length=(blAt b i).length:=by
 unfold lsAt blAt
 rw[List.getElem?_map]
 cases b.bs[i]? with
 | none=>rfl
 | some l=>simp
theorem qQ{ls:List (List OpV)}{b:BodyP}(h:gX ls b):bQ ls=itB b:=by
 unfold itB bQ aE
 rw[List.length_map,h.1]
 congr 1
 refine congrArg List.flatten (List.map_congr_left fun a _=>?_)
 rw[h.2 a,itB_at]
theorem opv_ins{n₀:Nat}{W:World}{b:BodyP}{ls:List (List OpV)}(h1:ls.length=b.bs.length)(h2:∀j,j<b.bs.length->dl n₀ W (ls[j]?.getD []) (b.bs[j]?.getD [])){y:Nat × Nat}(hy:ItOk ls y):OpOf n₀ W (bt ls y) (ae (blAt b y.1) y.2):=by
 have h3:=h2 y.1 (by have:=hy.1;omega)
 have h4:(ls[y.1]?.getD [])[y.2]?=some (bt ls y):=by
  have h5:y.2<(lsAt ls y.1).length:=hy.2
  unfold bt
  unfold lsAt at h5 ⊢
  rw[List.getElem?_eq_getElem h5]
  rfl
 exact h3.2 y.2 _ h4
theorem cX{X Y:World}{row:Option Nat}{k:Nat}{o:Obj}(h:X.heap[k]?=some o)(ho:o.isCells=true)(hg:X.grownBy Y row)(hr:∀r,row=some r->∃o,X.heap[r]?=some o/\o.isCells=false):Y.heap[k]?=some o :=
 (hg.block k (Array.getElem?_eq_some_iff.1 h).1 (fun e=>by
  obtain⟨o',h',c⟩:=hr k e.symm
  rw[h] at h'
  cases h'
  rw[ho] at c
  cases c)).trans h
theorem heap_setCell{X:World}{k j i:Nat}{o:Obj}{v:Value}(h:X.heap[k]?=some o)(hne:k≠j):(X.setCell ⟨j,i,none⟩ v).heap[k]?=some o:=(Below.heap_setCell X ⟨j,i,none⟩ v k hne).trans h
theorem heap_alloc{X:World}{k:Nat}{o:Obj}(h:X.heap[k]?=some o)(o':Obj):(X.alloc o').heap[k]?=some o:=(Below.heap_alloc X o' k (Array.getElem?_eq_some_iff.1 h).1).trans h
structure DefW (m:Nat) (pn vn:Int) (bv:Value) (W:World):Prop where
 b:W.heap[m]?=some (.cells #[.int .i64 pn,.int .i64 vn,bv] 52)
 r:W.heap[m+1]?=some (.cells #[.slice none 0 0] 159)
 o:W.heap[m+1+1]?=some (.cells #[.bool false] 4)
 n:W.heap[m+1+1+1]?=some (.cells #[.int .i64 (-1),.int .i64 (-1)] 242)
theorem DefW.kept{m:Nat}{pn vn:Int}{bv:Value}{X Y:World}{row:Option Nat}(h:DefW m pn vn bv X)(hg:X.grownBy Y row)(hr:∀r,row=some r->∃o,X.heap[r]?=some o/\o.isCells=false):DefW m pn vn bv Y :=
 ⟨cX h.b rfl hg hr,cX h.r rfl hg hr,cX h.o rfl hg hr,cX h.n rfl hg hr⟩
theorem DefW.alloc{m:Nat}{pn vn:Int}{bv:Value}{X:World}(h:DefW m pn vn bv X)(o:Obj):DefW m pn vn bv (X.alloc o):=⟨heap_alloc h.b o,heap_alloc h.r o,heap_alloc h.o o,heap_alloc h.n o⟩
theorem DefW.setCell{m:Nat}{pn vn:Int}{bv:Value}{X:World}(h:DefW m pn vn bv X){g:Nat}(hg:m+1+1+1<g)(i:Nat)(v:Value):DefW m pn vn bv (X.setCell ⟨g,i,none⟩ v) :=
 ⟨heap_setCell h.b (by omega),heap_setCell h.r (by omega),heap_setCell h.o (by omega),heap_setCell h.n (by omega)⟩
theorem DefW.below{m N:Nat}{pn vn:Int}{bv:Value}{X Y:World}(h:DefW m pn vn bv X)(hB:Below N X Y)(hN:m+1+1+1<N):DefW m pn vn bv Y :=
 ⟨(hB.block m (by omega)).trans h.b,(hB.block (m+1) (by omega)).trans h.r,(hB.block (m+1+1) (by omega)).trans h.o,(hB.block (m+1+1+1) (by omega)).trans h.n⟩
theorem defw_new(w:World)(pn vn:Int)(bv:Value):DefW w.heap.size pn vn bv ((((w.alloc (.cells #[.int .i64 pn,.int .i64 vn,bv] 52)).alloc (.cells #[.slice none 0 0] 159)).alloc (.cells #[.bool false] 4)).alloc (.cells #[.int .i64 (-1),.int .i64 (-1)] 242)):=by
 refine⟨heap_alloc (heap_alloc (heap_alloc (heap_alloc_new w _) _) _) _,?_,?_,?_⟩
 ·have h:=heap_alloc_new (w.alloc (.cells #[.int .i64 pn,.int .i64 vn,bv] 52)) (.cells #[.slice none 0 0] 159)
  rw[World.size_alloc] at h
  exact heap_alloc (heap_alloc h _) _
 ·have h:=heap_alloc_new ((w.alloc (.cells #[.int .i64 pn,.int .i64 vn,bv] 52)).alloc (.cells #[.slice none 0 0] 159)) (.cells #[.bool false] 4)
  rw[World.size_alloc,World.size_alloc] at h
  exact heap_alloc h _
 ·have h:=heap_alloc_new (((w.alloc (.cells #[.int .i64 pn,.int .i64 vn,bv] 52)).alloc (.cells #[.slice none 0 0] 159)).alloc (.cells #[.bool false] 4)) (.cells #[.int .i64 (-1),.int .i64 (-1)] 242)
  rw[World.size_alloc,World.size_alloc,World.size_alloc] at h
  exact h
theorem items_len(ls:List (List OpV)){i k:Nat}(hi:i<ls.length)(hk:k<(lsAt ls i).length):(aE ls i k).length<(bQ ls).length+1:=by
 have:=(eQ ls hi (Nat.le_of_lt hk)).length_le
 omega
theorem jW(ls:List (List OpV))(n₀ Bs:Nat)(pa va:Int)(ba:Option Addr)(bc n:Nat)(hn:1<=n)(w:World)(hs:n₀<=w.heap.size)(hBs:w.heap[Bs]?=some (.cells #[.int .i64 pa,.int .i64 va,.slice ba ls.length bc] 52))(hM:bS n₀ w (.slice ba ls.length bc) ls)(hl1:ls.length<=4096)(hl2:∀i,i<ls.length->(lsAt ls i).length<=4096) :
 SeqStopsK Fence.wide n Tryz.prog 184 #[.pointer (some ⟨Bs,0,none⟩)] (encI ls) (bu n₀ Bs) (fun xs=>xs.map (·.1)=bQ ls) (fun pre=>pre.map (·.1) <+: bQ ls) ((bQ ls).length+1) w:=fun l J Jx W hW hJ _ hY h0 =>
 (instr1_in ls n₀ l Bs pa va ba bc _ n hn J Jx w hY W hJ (Nat.le_trans hs hW.size) ((hW.block Bs (Array.getElem?_eq_some_iff.1 hBs).1).trans hBs) (hM.below (hW.mono hs)) hl1 hl2 (fun i k hi hk=>items_len ls hi hk) h0).mono fun e W' h=>by
  rcases h with⟨hv,h⟩
  refine⟨hv,?_⟩
  rcases h with⟨ys,h1,h2⟩ | ⟨pre,h1,h2⟩
  ·exact .inl ⟨ys,h1,h2⟩
  ·exact .inr ⟨pre,h1,h2⟩
theorem nN{n₀ Bs N:Nat}(h:Bs<N)(hn:n₀<=N)(W:World)(l:Nat)(o o':Obj)(hl:N<=l)(h1:W.heap[l]?=some o)(_:o.isCells=false)(_:o.isWalk=false):bu n₀ Bs W (W.putObj l o'):=by
 refine⟨by simp [World.putObj],fun k hk=>?_⟩
 exact World.putObj_heap_other (by omega)
theorem bu.setCell{n₀ Bs:Nat}{A B:World}(h:bu n₀ Bs A B){g:Nat}(hn:n₀<=g)(hne:g≠Bs)(i:Nat)(v:Value):bu n₀ Bs A (B.setCell ⟨g,i,none⟩ v) :=
 ⟨Nat.le_trans h.1 (by simp),fun k hk=>(Below.heap_setCell B ⟨g,i,none⟩ v k (by show k≠g;omega)).trans (h.2 k hk)⟩
theorem PN.kept{X Y:World}{row:Option Nat}{g n:Nat}{f:Nat->Int}(h:PN X g n f)(hg:X.grownBy Y row)(hr:∀r,row=some r->∃o,X.heap[r]?=some o/\o.isCells=false):PN Y g n f:=by
 obtain⟨cs,h1,h2⟩:=h
 exact⟨cs,cX h1 rfl hg hr,h2⟩
structure DefI (b:BodyP) (ls:List (List OpV)) (m d5 pn vn:Nat) (bv:Value) (pre:List (It ls)) (W:World):Prop where
 z:d5+2<=W.heap.size
 w:DefW m pn vn bv W
 x:Boxed W d5 159 (.slice (some ⟨m+5,0,none⟩) vn vn)
 f:∃f,PN W (m+5) vn f/\(pre.map (·.1) <+: bQ ls->f=FF b (pre.map (·.1)))
theorem dr{X Y:World}{row:Option Nat}{k:Nat}{t:TypeId}{v:Value}(h:Boxed X k t v)(hg:X.grownBy Y row)(hr:∀r,row=some r->∃o,X.heap[r]?=some o/\o.isCells=false):Boxed Y k t v:=cX h rfl hg hr
theorem DefI.kept{b:BodyP}{ls:List (List OpV)}{m d5 pn vn:Nat}{bv:Value}{pre:List (It ls)}{X Y:World}{row:Option Nat}(h:DefI b ls m d5 pn vn bv pre X)(hg:X.grownBy Y row)(hr:∀r,row=some r->∃o,X.heap[r]?=some o/\o.isCells=false):DefI b ls m d5 pn vn bv pre Y :=
 ⟨Nat.le_trans h.z hg.size,h.w.kept hg hr,dr h.x hg hr,by obtain⟨f,h1,h2⟩:=h.f;exact⟨f,h1.kept hg hr,h2⟩⟩
theorem DefI.alloc{b:BodyP}{ls:List (List OpV)}{m d5 pn vn:Nat}{bv:Value}{pre:List (It ls)}{X:World}(h:DefI b ls m d5 pn vn bv pre X)(o:Obj):DefI b ls m d5 pn vn bv pre (X.alloc o) :=
 ⟨by rw[World.size_alloc];have:=h.z;omega,h.w.alloc o,heap_alloc h.x o,by obtain⟨f,h1,h2⟩:=h.f;exact⟨f,World.rowIs.alloc h1 o,h2⟩⟩
structure DefX (X:OpV) (i k Bx:Nat) (W:World):Prop where
 h:W.heap[Bx]?=some (.cells #[.int .i64 (i:Int),.int .i64 (k:Int)] 242)
 x:W.heap[Bx+1]?=some (.cells #[.int .u8 X.k,.int .u8 X.o,.int .i64 X.d,.int .i64 X.r,.int .i64 X.a,.slice X.xa X.xl X.xc,.slice X.ya X.yl X.yc,.int .i64 X.n,.int .i64 X.t] 56)
theorem DefX.kept{V:OpV}{i k Bx:Nat}{X Y:World}{row:Option Nat}(h:DefX V i k Bx X)(hg:X.grownBy Y row)(hr:∀r,row=some r->∃o,X.heap[r]?=some o/\o.isCells=false):DefX V i k Bx Y:=⟨cX h.h rfl hg hr,cX h.x rfl hg hr⟩
theorem pp(W:World)(X:OpV)(i k:Nat):DefX X i k W.heap.size ((W.alloc (.cells #[.int .i64 (i:Int),.int .i64 (k:Int)] 242)).alloc (.cells #[.int .u8 X.k,.int .u8 X.o,.int .i64 X.d,.int .i64 X.r,.int .i64 X.a,.slice X.xa X.xl X.xc,.slice X.ya X.yl X.yc,.int .i64 X.n,.int .i64 X.t] 56)):=by
 refine⟨heap_alloc (heap_alloc_new W _) _,?_⟩
 have h:=heap_alloc_new (W.alloc (.cells #[.int .i64 (i:Int),.int .i64 (k:Int)] 242)) (.cells #[.int .u8 X.k,.int .u8 X.o,.int .i64 X.d,.int .i64 X.r,.int .i64 X.a,.slice X.xa X.xl X.xc,.slice X.ya X.yl X.yc,.int .i64 X.n,.int .i64 X.t] 56)
 rw[World.size_alloc] at h
 exact h
theorem def_lt{q:CD.Cnt}{c:CodeP}{b:BodyP}(h:CD.aL q c b){i k:Nat}(hi:i<b.bs.length)(hk:k<(blAt b i).length)(hd:CD.Defs (ae (blAt b i) k).k):b.pa.toNat+CD.cntB b i+CD.cnt (blAt b i) k<b.va.toNat:=by
 have h1:=CD.gu hk
 rw[if_pos hd] at h1
 have h2:=CD.gS hi
 have h3:=h.2.2
 have h4:=cnt_mono (blAt b i) (show k+1<=(blAt b i).length from hk)
 have h5:=cntB_mono b (show i+1<=b.bs.length from hi)
 have:=h.1.1.1
 omega
set_option maxRecDepth 100000 in
set_option maxHeartbeats 8000000 in
theorem defs_any(q:CD.Cnt)(c:CodeP)(b:BodyP)(hb:CD.aL q c b)(hk:∀k,k<b.bs.length->(blAt b k).length<=300)(hv:b.va<=400)(ba:Option Addr)(bc n₀:Nat)(w:World)(hn:n₀<=w.heap.size)(hM:aX n₀ w (.slice ba b.bs.length bc) b.bs) :
 Calls Tryz.prog 89 #[.agg #[.int .i64 b.pa,.int .i64 b.va,.slice ba b.bs.length bc]] w fun e w'=>∃(g:Nat) (f:Nat->Int),e=.returned (.tuple #[.slice (some ⟨g,0,none⟩) b.va.toNat b.va.toNat,.bool true])/\PN w' g b.va.toNat f/\DInv b b.bs.length 0 f/\f=FF b (itB b)/\Below w.heap.size w w':=by
 obtain⟨ls,hM1,hM2,hM3⟩:=hM
 have HS:=zH (same_len hM2 hM3)
 have HM1:=zH hM1
 have HO:=zH (fun(y:Nat × Nat) (hy:ItOk ls y)=>(opv_ins hM2 hM3 hy).1.2.2.1)
 have HBO:=zH hb
 have HK:=zH hk
 have HL:=zH hb.1.2
 have HN:=zH hn
 have HM2:=zH hM2
 have hp1:(0<=b.pa/\b.pa<=6)/\b.pa<=b.va:=⟨hb.1.1,by have:=hb.2.2;omega⟩
 obtain⟨pn,epa⟩:∃pn:Nat,b.pa=(pn:Int):=⟨b.pa.toNat,by omega⟩
 obtain⟨vn,eva⟩:∃vn:Nat,b.va=(vn:Int):=⟨b.va.toNat,by omega⟩
 have EPA:=zH epa
 have EVA:=zH eva
 have i1:pn<=vn:=by omega
 have i2:vn<=400:=by omega
 have i3:(0:Int)<=(pn:Int):=by omega
 have i4:(vn:Int)<=4102:=by omega
 rw[epa,eva,Int.toNat_natCast]
 clear hM1 hM2 hM3 hb hk hp1 hv epa eva hn
 rw[<-HM2.out]
 refine(callsIn_wide (n:=6)).1 ?_
 refine callsIn_of_wp_marks Tryz.func89 rfl trivial ?_ rfl
 simp only[Tryz.ntmps89,List.size_toArray,List.length_cons,List.length_nil,Nat.reduceAdd,Nat.reduceSub,Array.replicate_succ,Array.replicate_zero,List.push_toArray,List.append_toArray,List.nil_append,List.cons_append]
 refine wpIn_mono (Q:=gU _) ?_ eE
 gi_upto_region 4 with fail
 have hD:=defw_new w pn vn (.slice ba ls.length bc)
 have hB4:=((((Below.refl w.heap.size w).alloc (Nat.le_refl _) (.cells #[.int .i64 pn,.int .i64 vn,.slice ba ls.length bc] 52)).alloc (by simp) (.cells #[.slice none 0 0] 159)).alloc (by simp;omega) (.cells #[.bool false] 4)).alloc (by simp;omega) (.cells #[.int .i64 (-1),.int .i64 (-1)] 242)
 have hsz4:((((w.alloc (.cells #[.int .i64 pn,.int .i64 vn,.slice ba ls.length bc] 52)).alloc (.cells #[.slice none 0 0] 159)).alloc (.cells #[.bool false] 4)).alloc (.cells #[.int .i64 (-1),.int .i64 (-1)] 242)).heap.size=w.heap.size+4:=by simp
 generalize ((((w.alloc (.cells #[.int .i64 pn,.int .i64 vn,.slice ba ls.length bc] 52)).alloc (.cells #[.slice none 0 0] 159)).alloc (.cells #[.bool false] 4)).alloc (.cells #[.int .i64 (-1),.int .i64 (-1)] 242))=W4 at hD hB4 hsz4 ⊢
 have hn1:W4.cell? ⟨w.heap.size+1+1+1,0,none⟩=some (.int .i64 (-1)):=cell_of_row _ _ 0 _ _ _ hD.n
 have hn2:W4.cell? ⟨w.heap.size+1+1+1,1,none⟩=some (.int .i64 (-1)):=cell_of_row _ _ 1 _ _ _ hD.n
 have hv1:W4.cell? ⟨w.heap.size,1,none⟩=some (.int .i64 vn):=cell_of_row _ _ 1 _ _ _ hD.b
 have hE4:=heap_alloc_new W4 (.cells #[.int .i64 (-1),.int .i64 (-1)] 242)
 have hR:=pk (w.heap.size+4) 0 1 vn (-1) (W4.alloc (.cells #[.int .i64 (-1),.int .i64 (-1)] 242)) (by rw[hsz4] at hE4;exact cell_of_row _ _ 0 _ _ _ hE4) (by rw[hsz4] at hE4;exact cell_of_row _ _ 1 _ _ _ hE4) (by rw[World.size_alloc];omega) (by omega)
 rw[show (W4.alloc (.cells #[.int .i64 (-1),.int .i64 (-1)] 242)).heap.size=w.heap.size+5 by rw[World.size_alloc,hsz4]] at hR
 have HR:=zH hR
 clear hE4 hR
 have HD4:=zH (hD.alloc (.cells #[.int .i64 (-1),.int .i64 (-1)] 242))
 have HB5:=zH (hB4.alloc (by omega) (.cells #[.int .i64 (-1),.int .i64 (-1)] 242))
 clear hD hB4
 gi_upto_region 5 with(refine⟨trivial,?_⟩;gi_at_call 140;refine(callsIn_wide.2 HR.out).mono ?_;rintro e w5 ⟨rfl,hPN,hb5⟩;have HPN:=zH hPN;have HD5:=zH (HD4.out.below hb5 (by omega));have HB6:=zH (HB5.out.trans (hb5.mono (by omega)));clear hb5 hPN)
 obtain⟨d5,ed5⟩:∃d5,d5=w5.heap.size:=⟨_,rfl⟩
 have hd5:w.heap.size+5<d5:=by
  rw[ed5]
  obtain⟨_,h,_⟩:=HPN.out
  exact(Array.getElem?_eq_some_iff.1 h).1
 have HD6:=zH (HD5.out.alloc (.cells #[.slice (some ⟨w.heap.size+5,0,none⟩) vn vn] 159))
 have HB7:=zH (HB6.out.alloc (by omega) (.cells #[.slice (some ⟨w.heap.size+5,0,none⟩) vn vn] 159))
 have HP6:=zH (World.rowIs.alloc HPN.out (.cells #[.slice (some ⟨w.heap.size+5,0,none⟩) vn vn] 159))
 have HX6:=zH (show Boxed (w5.alloc (.cells #[.slice (some ⟨w.heap.size+5,0,none⟩) vn vn] 159)) d5 159 (.slice (some ⟨w.heap.size+5,0,none⟩) vn vn) from by rw[ed5];exact Boxed.new w5 _ _)
 have hs6:(w5.alloc (.cells #[.slice (some ⟨w.heap.size+5,0,none⟩) vn vn] 159)).heap.size=d5+1:=by rw[World.size_alloc,ed5]
 rw[<-ed5]
 clear HD5 HB6 HPN HD4 HB5 ed5
 generalize w5.alloc (.cells #[.slice (some ⟨w.heap.size+5,0,none⟩) vn vn] 159)=W6 at HD6 HB7 HP6 HX6 hs6 ⊢
 have hbd0:W6.cell? ⟨w.heap.size,0,none⟩=some (.int .i64 pn):=cell_of_row _ _ 0 _ _ _ HD6.out.b
 have hbd1:W6.cell? ⟨w.heap.size,1,none⟩=some (.int .i64 vn):=cell_of_row _ _ 1 _ _ _ HD6.out.b
 have hbd2:W6.cell? ⟨w.heap.size,2,none⟩=some (.slice ba ls.length bc):=cell_of_row _ _ 2 _ _ _ HD6.out.b
 gi_wp2_with (refine⟨trivial,?_⟩;gi_at_call 141;refine(callsIn_wide.2 (mq _ _ pn vn ba ls.length bc rfl)).mono ?_;rintro e w' ⟨rfl,rfl⟩)
 clear hbd0 hbd1 hbd2 HR
 have HI7:=zH (show DefI b ls w.heap.size d5 pn vn (.slice ba ls.length bc) [] (W6.alloc (.cells #[.int .i64 pn,.int .i64 vn,.slice ba ls.length bc] 52)) from⟨by rw[World.size_alloc,hs6];omega,HD6.out.alloc _,heap_alloc HX6.out _,_,World.rowIs.alloc HP6.out _,fun _=>rfl⟩)
 have HB8:=zH (HB7.out.alloc (by omega) (.cells #[.int .i64 pn,.int .i64 vn,.slice ba ls.length bc] 52))
 have HBs:=zH (show (W6.alloc (.cells #[.int .i64 pn,.int .i64 vn,.slice ba ls.length bc] 52)).heap[d5+1]?=some (.cells #[.int .i64 pn,.int .i64 vn,.slice ba ls.length bc] 52) from by rw[<-hs6];exact heap_alloc_new W6 _)
 have hs7:(W6.alloc (.cells #[.int .i64 pn,.int .i64 vn,.slice ba ls.length bc] 52)).heap.size=d5+2:=by rw[World.size_alloc,hs6]
 clear HD6 HB7 HP6 HX6 hs6
 generalize W6.alloc (.cells #[.int .i64 pn,.int .i64 vn,.slice ba ls.length bc] 52)=W7 at HI7 HB8 HBs hs7 ⊢
 rw[<-HM2.out] at HM1
 refine wpIn_rangeFunc_ownH rfl (by omega) (gf:=184) (lb:=#[.pointer (some ⟨d5+1,0,none⟩)]) rfl trivial (enters_of Tryz.func184 (by kernel_rfl) rfl)
  (jW ls n₀ (d5+1) pn vn ba bc _ (by omega) W7 (by have:=HN.out;omega) HBs.out (HM1.out.below (HB8.out.mono HN.out)) (by have:=HL.out;have:=HM2.out;omega) (fun i hi=>by have:=HK.out i (by rw[<-HM2.out];exact hi);rw[(HS.out).2 i];omega)) (fun h k=>h.trans k) (nN (by omega) (by have:=HN.out;omega)) (Below.refl _ _) (fun _=>rfl)
  (fun pre W=>DefI b ls w.heap.size d5 pn vn (.slice ba ls.length bc) pre W/\Below w.heap.size w W)
  (fun c pre W=>(c=.ret/\¬(pre.map (·.1) <+: bQ ls))/\Below w.heap.size w W)
  (OwnFrom.and (Own.from (fun s A B row hs hg hr=>hs.kept hg hr) _) (ownFrom_below (Nat.le_refl _) (by omega)))
  (fun c=>OwnFrom.and (ownFrom_pure _ _) (ownFrom_below (Nat.le_refl _) (by omega)))
  ⟨HI7.out,HB8.out⟩
  (fun x a' W=>∃Bx,d5+1<Bx/\DefX (bt ls x.1) x.1.1 x.1.2 Bx W/\a' = { tmps:=#[.agg #[.int .i64 pn,.int .i64 vn,.slice ba ls.length bc],.pointer (some ⟨w.heap.size,0,none⟩),.pointer (some ⟨w.heap.size+1,0,none⟩),.pointer (some ⟨w.heap.size+1+1,0,none⟩),.pointer (some ⟨w.heap.size+1+1+1,0,none⟩),.pointer (some ⟨d5,0,none⟩),.pointer (some ⟨Bx,0,none⟩),.pointer (some ⟨Bx+1,0,none⟩),.pointer (some ⟨w.heap.size,0,none⟩),.int .i64 pn,.bool (decide ((pn:Int)<0)),.bool (decide ((pn:Int)<0)),.pointer (some ⟨w.heap.size,0,none⟩),.int .i64 pn,.pointer (some ⟨w.heap.size,1,none⟩),.int .i64 vn,.bool false,.bool (decide ((pn:Int)<0)),.bool (decide ((pn:Int)<0)),.pointer (some ⟨w.heap.size,1,none⟩),.int .i64 vn,.bool (decide (4102<(vn:Int))),.bool (decide ((pn:Int)<0) || decide (4102<(vn:Int))),.agg #[.int .i64 (-1),.int .i64 (-1)],.agg #[.int .i64 (-1),.int .i64 (-1)],.slice (some ⟨w.heap.size+4,0,none⟩) 1 1,.pointer (some ⟨w.heap.size,1,none⟩),.int .i64 vn,.slice (some ⟨w.heap.size+5,0,none⟩) vn vn,.agg #[.int .i64 pn,.int .i64 vn,.slice ba ls.length bc],.func (.func 184) #[] #[.pointer (some ⟨d5+1,0,none⟩)],.agg #[.int .i64 (x.1.1:Int),.int .i64 (x.1.2:Int)],.agg #[.int .u8 (bt ls x.1).k,.int .u8 (bt ls x.1).o,.int .i64 (bt ls x.1).d,.int .i64 (bt ls x.1).r,.int .i64 (bt ls x.1).a,.slice (bt ls x.1).xa (bt ls x.1).xl (bt ls x.1).xc,.slice (bt ls x.1).ya (bt ls x.1).yl (bt ls x.1).yc,.int .i64 (bt ls x.1).n,.int .i64 (bt ls x.1).t],undef,undef,undef,undef,undef,undef,undef,undef,undef,undef,undef,undef,undef,undef,undef,undef,undef,undef,undef,undef,undef,undef,undef,undef,undef,undef,undef,undef,undef,undef,undef,undef,undef,undef,undef,undef],defers:=[] })
  (fun x a' _ X Y row hs hg hr=>by obtain⟨Bx,h1,h2,h3⟩:=hs;exact⟨Bx,h1,h2.kept hg (fun r e=>(hr r e).2),h3⟩)
  ?assign ?body ?done ?stop
 case assign =>
  rintro l pre x W K ⟨hI,hB⟩ hK
  unfold encI aF
  have hz:=hI.z
  have hz1:=HN.out
  gi_wp2
  exact hK _ _ (((KeepsOthers.alloc _ _).trans (KeepsOthers.alloc _ _)).from _) (((bu.refl _ _ _).alloc _ (by omega) (by omega)).alloc _ (by rw[World.size_alloc];omega) (by rw[World.size_alloc];omega)) ⟨(hI.alloc _).alloc _,(hB.alloc (by omega) _).alloc (by rw[World.size_alloc];omega) _⟩ ⟨W.heap.size,by omega,pp W _ _ _,rfl⟩
 case body =>
  rintro l pre x a' W hl _ ⟨hI,hB⟩ ⟨Bx,hBx,hX,rfl⟩ _
  obtain⟨⟨i,k⟩,hx⟩:=x
  have hd:=HO.out (i,k) hx
  simp only at hX hd ⊢
  generalize bt ls (i,k)=X at hX hd ⊢
  have c7:W.cell? ⟨Bx+1,2,none⟩=some (.int .i64 X.d):=cell_of_row _ _ 2 _ _ _ hX.x
  have c60:W.cell? ⟨Bx,0,none⟩=some (.int .i64 i):=cell_of_row _ _ 0 _ _ _ hX.h
  have c61:W.cell? ⟨Bx,1,none⟩=some (.int .i64 k):=cell_of_row _ _ 1 _ _ _ hX.h
  have hii:i<b.bs.length:=by rw[<-HM2.out];exact hx.1
  have hkk:k<(blAt b i).length:=by rw[<-HS.out.2 i];exact hx.2
  rcases nK HBO.out hii hkk with⟨hdf,e⟩ | ⟨hdf,e⟩
  ·obtain⟨dn,edn⟩:∃dn,dn=b.pa.toNat+CD.cntB b i+CD.cnt (blAt b i) k:=⟨_,rfl⟩
   rw[<-hd,<-edn] at e
   have hdn:=def_lt HBO.out hii hkk hdf
   rw[<-edn,EVA.out,Int.toNat_natCast] at hdn
   have hpn:pn<=dn:=by have:=EPA.out;omega
   obtain⟨f,hf,hpre⟩:=hI.f
   have k0:W.cell? ⟨w.heap.size,0,none⟩=some (.int .i64 pn):=cell_of_row _ _ 0 _ _ _ hI.w.b
   have k1:W.cell? ⟨w.heap.size,1,none⟩=some (.int .i64 vn):=cell_of_row _ _ 1 _ _ _ hI.w.b
   have k2:W.cell? ⟨w.heap.size+1+1+1,0,none⟩=some (.int .i64 (-1)):=cell_of_row _ _ 0 _ _ _ hI.w.n
   have k3:W.cell? ⟨w.heap.size+1+1+1,1,none⟩=some (.int .i64 (-1)):=cell_of_row _ _ 1 _ _ _ hI.w.n
   have k4:W.cell? ⟨d5,0,none⟩=some (.slice (some ⟨w.heap.size+5,0,none⟩) vn vn):=hI.x.cell
   have k5:W.cell? ⟨w.heap.size+5,dn*2,none⟩=some (.int .i64 (f (dn*2))):=World.rowIs.cell hf (by omega)
   have k6:W.cell? ⟨w.heap.size+5,dn*2+1,none⟩=some (.int .i64 (f (dn*2+1))):=World.rowIs.cell hf (by omega)
   have k7:W.frozen? ⟨w.heap.size+5,dn*2,none⟩=false:=World.rowIs.frozen hf _
   have k8:W.frozen? ⟨w.heap.size+5,dn*2+1,none⟩=false:=World.rowIs.frozen hf _
   obtain⟨p1,e1⟩:∃p1,p1=f (dn*2):=⟨_,rfl⟩
   obtain⟨p2,e2⟩:∃p2,p2=f (dn*2+1):=⟨_,rfl⟩
   rw[<-e1] at k5
   rw[<-e2] at k6
   rw[e] at c7
   have j1:(0:Int)<=dn:=by omega
   have j2:¬((dn:Int)<pn):=by omega
   have j3:¬((vn:Int)<=dn):=by omega
   have j4:(dn:Int)<vn:=by omega
   have j5:(dn:Int)≠-1:=by omega
   have j6:decide ((dn:Int)<(pn:Int))=false:=decide_eq_false j2
   have j7:decide ((vn:Int)<=(dn:Int))=false:=decide_eq_false j3
   have j8:decide (dn<pn)=false:=decide_eq_false (by omega)
   have j9:decide (vn<=dn)=false:=decide_eq_false (by omega)
   have hE:∀W,(Op.equalIn 10000 242 (.agg #[.int .i64 p1,.int .i64 p2]) (.agg #[.int .i64 (-1),.int .i64 (-1)])).run Tryz.prog W=.ok (p1 == -1 && p2 == -1) W:=fun W=>pm p1 p2 (-1) (-1) W
   have HI:=zH hI
   have HBB:=zH hB
   have HFF:=zH hf
   have HPRE:=zH hpre
   have HEE:=zH (And.intro e1 e2)
   have HD1:=zH (And.intro e hd)
   have HDN:=zH edn
   clear hI hB hX hd hdf hf hpre e1 e2 e edn
   cases ht:(p1 == -1 && p2 == -1)
   ·rw[ht] at hE
    gi_wp2
    refine bT (by kernel_rfl) (by kernel_rfl) (by kernel_rfl) ?_
    repeat (gi_big_quiet_step (fail))
    refine wpQuietIn_nil ?_
    intro _ hw'
    obtain⟨nq,hw''⟩:=hw'
    subst hw''
    have m1:(W.drewN nq).cell? ⟨d5,0,none⟩=some (.slice (some ⟨w.heap.size+5,0,none⟩) vn vn):=k4
    have m2:(W.drewN nq).cell? ⟨Bx+1,2,none⟩=some (.int .i64 dn):=c7
    have m3:(W.drewN nq).cell? ⟨Bx,0,none⟩=some (.int .i64 i):=c60
    have m4:(W.drewN nq).cell? ⟨Bx,1,none⟩=some (.int .i64 k):=c61
    have m5:(W.drewN nq).cell? ⟨w.heap.size+5,dn*2,none⟩=some (.int .i64 p1):=k5
    have m6:(W.drewN nq).cell? ⟨w.heap.size+5,dn*2+1,none⟩=some (.int .i64 p2):=k6
    have m7:(W.drewN nq).frozen? ⟨w.heap.size+5,dn*2,none⟩=false:=k7
    have m8:(W.drewN nq).frozen? ⟨w.heap.size+5,dn*2+1,none⟩=false:=k8
    have HI9:=zH (show DefI b ls w.heap.size d5 pn vn (.slice ba ls.length bc) pre (W.drewN nq) from⟨HI.out.z,⟨HI.out.w.b,HI.out.w.r,HI.out.w.o,HI.out.w.n⟩,HI.out.x,HI.out.f⟩)
    have HB9:=zH (show Below w.heap.size w (W.drewN nq) from HBB.out.trans ⟨rfl,rfl,rfl,Nat.le_refl _,fun _ _=>rfl⟩)
    have HF9:=zH (show PN (W.drewN nq) (w.heap.size+5) vn f from HFF.out)
    have HK9:=zH (show KeepsFrom W7.heap.size W (W.drewN nq)/\bu n₀ (d5+1) W (W.drewN nq) from⟨⟨Nat.le_refl _,fun _ _ _ h _=>h⟩,⟨Nat.le_refl _,fun _ _=>rfl⟩⟩)
    have r1:(W.drewN nq).cell? ⟨w.heap.size+1,0,none⟩=some (.slice none 0 0):=cell_of_row _ _ 0 _ _ _ HI.out.w.r
    have r2:(W.drewN nq).cell? ⟨w.heap.size+1+1,0,none⟩=some (.bool false):=cell_of_row _ _ 0 _ _ _ HI.out.w.o
    have r3:(W.drewN nq).frozen? ⟨w.heap.size+1,0,none⟩=false:=Boxed.frozen HI.out.w.r
    have r4:(W.drewN nq).frozen? ⟨w.heap.size+1+1,0,none⟩=false:=Boxed.frozen HI.out.w.o
    clear hE k0 k1 k2 k3 k4 k5 k6 k7 k8 c7 c60 c61 HI HBB HFF
    generalize W.drewN nq=W9 at m1 m2 m3 m4 m5 m6 m7 m8 HI9 HB9 HF9 HK9 r1 r2 r3 r4 ⊢
    gi_wp2
    refine⟨HK9.out.1.trans (((KeepsOthers.setCell _ _ _).trans (KeepsOthers.setCell _ _ _)).from _),⟨rfl,fun hp=>?_⟩,(HB9.out.setCell (p:=⟨w.heap.size+1,0,none⟩) (by simp) _).setCell (p:=⟨w.heap.size+1+1,0,none⟩) (by simp;omega) _⟩
    rw[List.map_append] at hp
    have hpa:=pre_at (y:=(i,k)) hp hx
    have hfe:=HPRE.out ((List.prefix_append _ _).trans hp)
    rw[hpa] at hfe
    have h3:=(dinv_at HBO.out HS.out hii (Nat.le_of_lt hkk)).lo dn (.inr (by rw[HDN.out];omega))
    rw[<-hfe,<-HEE.out.1,<-HEE.out.2] at h3
    rw[h3.1,h3.2] at ht
    simp at ht
   ·rw[ht] at hE
    gi_wp2
    refine bT (by kernel_rfl) (by kernel_rfl) (by kernel_rfl) ?_
    repeat (gi_big_quiet_step (fail))
    refine wpQuietIn_nil ?_
    intro _ hw'
    obtain⟨nq,hw''⟩:=hw'
    subst hw''
    have m1:(W.drewN nq).cell? ⟨d5,0,none⟩=some (.slice (some ⟨w.heap.size+5,0,none⟩) vn vn):=k4
    have m2:(W.drewN nq).cell? ⟨Bx+1,2,none⟩=some (.int .i64 dn):=c7
    have m3:(W.drewN nq).cell? ⟨Bx,0,none⟩=some (.int .i64 i):=c60
    have m4:(W.drewN nq).cell? ⟨Bx,1,none⟩=some (.int .i64 k):=c61
    have m5:(W.drewN nq).cell? ⟨w.heap.size+5,dn*2,none⟩=some (.int .i64 p1):=k5
    have m6:(W.drewN nq).cell? ⟨w.heap.size+5,dn*2+1,none⟩=some (.int .i64 p2):=k6
    have m7:(W.drewN nq).frozen? ⟨w.heap.size+5,dn*2,none⟩=false:=k7
    have m8:(W.drewN nq).frozen? ⟨w.heap.size+5,dn*2+1,none⟩=false:=k8
    have HI9:=zH (show DefI b ls w.heap.size d5 pn vn (.slice ba ls.length bc) pre (W.drewN nq) from⟨HI.out.z,⟨HI.out.w.b,HI.out.w.r,HI.out.w.o,HI.out.w.n⟩,HI.out.x,HI.out.f⟩)
    have HB9:=zH (show Below w.heap.size w (W.drewN nq) from HBB.out.trans ⟨rfl,rfl,rfl,Nat.le_refl _,fun _ _=>rfl⟩)
    have HF9:=zH (show PN (W.drewN nq) (w.heap.size+5) vn f from HFF.out)
    have HK9:=zH (show KeepsFrom W7.heap.size W (W.drewN nq)/\bu n₀ (d5+1) W (W.drewN nq) from⟨⟨Nat.le_refl _,fun _ _ _ h _=>h⟩,⟨Nat.le_refl _,fun _ _=>rfl⟩⟩)
    clear hE k0 k1 k2 k3 k4 k5 k6 k7 k8 c7 c60 c61 HI HBB HFF
    generalize W.drewN nq=W9 at m1 m2 m3 m4 m5 m6 m7 m8 HI9 HB9 HF9 HK9 ⊢
    gi_wp2
    have hn5:n₀<=w.heap.size+5:=by have:=HN.out;omega
    refine⟨HK9.out.1.trans (((KeepsOthers.setCell _ _ _).trans (KeepsOthers.setCell _ _ _)).from _),(HK9.out.2.setCell hn5 (by omega) _ _).setCell hn5 (by omega) _ _,⟨by simpa using HI9.out.z,(HI9.out.w.setCell (by omega) _ _).setCell (by omega) _ _,heap_setCell (heap_setCell HI9.out.x (by omega)) (by omega),_,(PN.set HF9.out (dn*2) i).set (dn*2+1) k,fun hp=>?_⟩,(HB9.out.setCell (p:=⟨w.heap.size+5,dn*2,none⟩) (by simp) _).setCell (p:=⟨w.heap.size+5,dn*2+1,none⟩) (by simp) _⟩
    rw[List.map_append] at hp ⊢
    have hfe:=HPRE.out ((List.prefix_append _ _).trans hp)
    show _=FF b (pre.map (·.1) ++ [(i,k)])
    rw[nJ,<-hfe]
    unfold fN
    have hdd:(ae (blAt b i) k).d=(dn:Int):=by rw[<-HD1.out.2,HD1.out.1]
    simp only
    rw[hdd,if_neg (by omega),Int.toNat_natCast]
  ·rw[<-hd] at e
   rw[e] at c7
   have HI:=zH hI
   have HBB:=zH hB
   have HF:=zH (show fN b (FF b (pre.map (·.1))) (i,k)=FF b (pre.map (·.1)) from by unfold fN;rw[if_pos (by rw[<-hd];exact e)])
   clear hI hB hX hd hdf
   gi_wp2
   refine⟨KeepsFrom.refl _ _,bu.refl _ _ _,⟨HI.out.z,HI.out.w,HI.out.x,?_⟩,HBB.out⟩
   obtain⟨f,h1,h2⟩:=HI.out.f
   refine⟨f,h1,fun hp=>?_⟩
   rw[List.map_append] at hp ⊢
   show f=FF b (pre.map (·.1) ++ [(i,k)])
   rw[nJ,HF.out]
   exact h2 ((List.prefix_append _ _).trans hp)
 case done =>
  rintro D ys W hD hys ⟨hI,hB⟩ hKD
  obtain⟨f,hf,hfe⟩:=hI.f
  have hfe':f=FF b (bQ ls):=by
   have:=hfe (by rw[hys];exact List.prefix_rfl)
   rw[hys] at this
   exact this
  have HFE:=zH (hfe'.trans (by rw[qQ HS.out]:FF b (bQ ls)=FF b (itB b)))
  have hdi:=ph HBO.out HS.out
  rw[<-hfe'] at hdi
  have k0:W.cell? ⟨w.heap.size,0,none⟩=some (.int .i64 pn):=cell_of_row _ _ 0 _ _ _ hI.w.b
  have k2:W.cell? ⟨w.heap.size+1+1+1,0,none⟩=some (.int .i64 (-1)):=cell_of_row _ _ 0 _ _ _ hI.w.n
  have k3:W.cell? ⟨w.heap.size+1+1+1,1,none⟩=some (.int .i64 (-1)):=cell_of_row _ _ 1 _ _ _ hI.w.n
  have k4:W.cell? ⟨d5,0,none⟩=some (.slice (some ⟨w.heap.size+5,0,none⟩) vn vn):=hI.x.cell
  have hzz:=hI.z
  have hno:CD.tf (HasP (fun i=>f (pn*2+i)) (vn-pn) (-1) (-1))=false:=CD.bg (by
   rintro ⟨i,hi,h1,h2⟩
   have hp:=EPA.out
   have hv:=EVA.out
   have hlast:b.pa.toNat+CD.cntB b b.bs.length+CD.cnt (blAt b b.bs.length) 0=vn:=by
    have:=HBO.out.2.2
    rw[CD.ew]
    omega
   obtain⟨i',k',_,_,_,_,h3,_⟩:=hdi.hi (pn+i) (by omega) (by omega)
   rw[show (pn+i)*2=pn*2+i*2 by omega] at h3
   simp only at h1
   omega)
  have hct:=fun(V:World) (h1:w.heap.size+5<V.heap.size) (hc:∀i,i<(vn-pn)*2->V.cell? ⟨w.heap.size+5,pn*2+i,none⟩=some (.int .i64 (f (pn*2+i))))=>it (some ⟨w.heap.size+5,pn*2,none⟩) (w.heap.size+5) (pn*2) (vn-pn) (vn-pn) (fun i=>f (pn*2+i)) (-1) (-1) V (fun _=>rfl) (fun _=>h1) (by omega) hc
  rw[hno] at hct
  have HCT:=zH hct
  have HFC:=zH (show ∀i,i<(vn-pn)*2->W.cell? ⟨w.heap.size+5,pn*2+i,none⟩=some (.int .i64 (f (pn*2+i))) from fun i hi=>World.rowIs.cell hf (by omega))
  have HI:=zH hI
  have HBB:=zH hB
  have HFF:=zH hf
  have HDI:=zH hdi
  have HKD:=zH hKD
  clear hI hB hf hfe hfe' hdi hno hct hys hKD
  have i5:(pn:Int)<=(vn:Int):=by omega
  gi_upto_region 12 with fail
  by_cases hpv:vn=pn
  ·subst hpv
   have HCT0:=zH (fun V=>it (some ⟨w.heap.size+5,0,none⟩) (w.heap.size+5) 0 0 0 f (-1) (-1) V (fun h=>absurd h (by omega)) (fun h=>absurd h (by omega)) (by omega) (fun i hi=>absurd hi (by omega)))
   rw[show CD.tf (HasP f 0 (-1) (-1))=false from CD.bg (fun⟨i,hi,_⟩=>absurd hi (by omega))] at HCT0
   gi_region_with (refine⟨trivial,?_⟩;gi_at_call 142;refine(callsIn_wide.2 (HCT0.out _)).mono ?_;rintro e w' ⟨rfl,hbw⟩)
   all_goals (
    replace hbw:Below W.heap.size W w':=(show Below W.heap.size W W.drew from⟨rfl,rfl,rfl,Nat.le_refl _,fun _ _=>rfl⟩).trans (show Below W.heap.size W.drew w' from hbw)
    have hz:=HI.out.z
    have HWW:=zH (HI.out.w.below hbw (by omega))
    have hx:Boxed w' d5 159 (.slice (some ⟨w.heap.size+5,0,none⟩) vn vn):=(hbw.block d5 (by omega)).trans HI.out.x
    have k4:=hx.cell
    have r1:w'.cell? ⟨w.heap.size+1,0,none⟩=some (.slice none 0 0):=cell_of_row _ _ 0 _ _ _ HWW.out.r
    have r2:w'.cell? ⟨w.heap.size+1+1,0,none⟩=some (.bool false):=cell_of_row _ _ 0 _ _ _ HWW.out.o
    have r3:w'.frozen? ⟨w.heap.size+1,0,none⟩=false:=Boxed.frozen HWW.out.r
    have r4:w'.frozen? ⟨w.heap.size+1+1,0,none⟩=false:=Boxed.frozen HWW.out.o
    have hF:PN w' (w.heap.size+5) vn f:=World.rowIs.of_block HFF.out (hbw.block _ (by omega))
    have hKD:w'.heap[D]?=some (.deferred (some [])):=(hbw.block D (Array.getElem?_eq_some_iff.1 HKD.out).1).trans HKD.out
    have hBW:=HBB.out.trans (hbw.mono HBB.out.size)
    have HF:=zH hF
    have HK2:=zH hKD
    have HBW:=zH hBW
    clear hx hbw hF hKD hBW
    gi_wp2
    have hK':=((KeepsOthers.setCell w' ⟨w.heap.size+1,0,none⟩ (.slice (some ⟨w.heap.size+5,0,none⟩) vn vn)).trans (KeepsOthers.setCell _ ⟨w.heap.size+1+1,0,none⟩ (.bool true))).same D _ HK2.out rfl
    refine⟨by simp,.inl ⟨_,_,rfl,run_takeDeferred hK',?_⟩⟩
    have h1:((w'.setCell ⟨w.heap.size+1,0,none⟩ (.slice (some ⟨w.heap.size+5,0,none⟩) vn vn)).setCell ⟨w.heap.size+1+1,0,none⟩ (.bool true)).cell? ⟨w.heap.size+1,0,none⟩=some (.slice (some ⟨w.heap.size+5,0,none⟩) vn vn) :=
     (World.cell?_setCell_other _ _ _ _ (by simp)).trans (World.cell?_setCell_same' _ _ _ (by rw[r1];rfl))
    have h2:((w'.setCell ⟨w.heap.size+1,0,none⟩ (.slice (some ⟨w.heap.size+5,0,none⟩) vn vn)).setCell ⟨w.heap.size+1+1,0,none⟩ (.bool true)).cell? ⟨w.heap.size+1+1,0,none⟩=some (.bool true) :=
     World.cell?_setCell_same' _ _ _ (by rw[World.cell?_setCell_other _ _ _ _ (by simp),r2];rfl)
    have h1':=cell_kept h1 (grownBy_putObj' _ D (.deferred none)) (fun r e=>(by cases e;exact⟨_,hK',rfl⟩))
    have h2':=cell_kept h2 (grownBy_putObj' _ D (.deferred none)) (fun r e=>(by cases e;exact⟨_,hK',rfl⟩))
    refine⟨.tuple #[.slice (some ⟨w.heap.size+5,0,none⟩) vn vn,.bool true],?_,w.heap.size+5,f,rfl,?_,by rw[HM2.out];exact HDI.out,HFE.out,((HBW.out.setCell (p:=⟨w.heap.size+1,0,none⟩) (by simp) _).setCell (p:=⟨w.heap.size+1+1,0,none⟩) (by simp;omega) _).trans (belowK_b (w:=w) (Nat.le_refl _) _ D _ _ (by omega) hK' rfl rfl)⟩
    ·simp [results,Tryz.f89,go_sem,h1',h2']
    ·exact World.rowIs.of_block (World.rowIs.setOther (World.rowIs.setOther HF.out (by simp) _) (by simp) _) (World.putObj_heap_other (by omega)))
  ·gi_region_with (refine⟨trivial,?_⟩;gi_at_call 142;refine(callsIn_wide.2 (HCT.out W.drew (by show _<W.heap.size;omega) (fun i hi=>HFC.out i hi))).mono ?_;rintro e w' ⟨rfl,hbw⟩)
   all_goals (
    replace hbw:Below W.heap.size W w':=(show Below W.heap.size W W.drew from⟨rfl,rfl,rfl,Nat.le_refl _,fun _ _=>rfl⟩).trans (show Below W.heap.size W.drew w' from hbw)
    have hz:=HI.out.z
    have HWW:=zH (HI.out.w.below hbw (by omega))
    have hx:Boxed w' d5 159 (.slice (some ⟨w.heap.size+5,0,none⟩) vn vn):=(hbw.block d5 (by omega)).trans HI.out.x
    have k4:=hx.cell
    have r1:w'.cell? ⟨w.heap.size+1,0,none⟩=some (.slice none 0 0):=cell_of_row _ _ 0 _ _ _ HWW.out.r
    have r2:w'.cell? ⟨w.heap.size+1+1,0,none⟩=some (.bool false):=cell_of_row _ _ 0 _ _ _ HWW.out.o
    have r3:w'.frozen? ⟨w.heap.size+1,0,none⟩=false:=Boxed.frozen HWW.out.r
    have r4:w'.frozen? ⟨w.heap.size+1+1,0,none⟩=false:=Boxed.frozen HWW.out.o
    have hF:PN w' (w.heap.size+5) vn f:=World.rowIs.of_block HFF.out (hbw.block _ (by omega))
    have hKD:w'.heap[D]?=some (.deferred (some [])):=(hbw.block D (Array.getElem?_eq_some_iff.1 HKD.out).1).trans HKD.out
    have hBW:=HBB.out.trans (hbw.mono HBB.out.size)
    have HF:=zH hF
    have HK2:=zH hKD
    have HBW:=zH hBW
    clear hx hbw hF hKD hBW
    gi_wp2
    have hK':=((KeepsOthers.setCell w' ⟨w.heap.size+1,0,none⟩ (.slice (some ⟨w.heap.size+5,0,none⟩) vn vn)).trans (KeepsOthers.setCell _ ⟨w.heap.size+1+1,0,none⟩ (.bool true))).same D _ HK2.out rfl
    refine⟨by simp,.inl ⟨_,_,rfl,run_takeDeferred hK',?_⟩⟩
    have h1:((w'.setCell ⟨w.heap.size+1,0,none⟩ (.slice (some ⟨w.heap.size+5,0,none⟩) vn vn)).setCell ⟨w.heap.size+1+1,0,none⟩ (.bool true)).cell? ⟨w.heap.size+1,0,none⟩=some (.slice (some ⟨w.heap.size+5,0,none⟩) vn vn) :=
     (World.cell?_setCell_other _ _ _ _ (by simp)).trans (World.cell?_setCell_same' _ _ _ (by rw[r1];rfl))
    have h2:((w'.setCell ⟨w.heap.size+1,0,none⟩ (.slice (some ⟨w.heap.size+5,0,none⟩) vn vn)).setCell ⟨w.heap.size+1+1,0,none⟩ (.bool true)).cell? ⟨w.heap.size+1+1,0,none⟩=some (.bool true) :=
     World.cell?_setCell_same' _ _ _ (by rw[World.cell?_setCell_other _ _ _ _ (by simp),r2];rfl)
    have h1':=cell_kept h1 (grownBy_putObj' _ D (.deferred none)) (fun r e=>(by cases e;exact⟨_,hK',rfl⟩))
    have h2':=cell_kept h2 (grownBy_putObj' _ D (.deferred none)) (fun r e=>(by cases e;exact⟨_,hK',rfl⟩))
    refine⟨.tuple #[.slice (some ⟨w.heap.size+5,0,none⟩) vn vn,.bool true],?_,w.heap.size+5,f,rfl,?_,by rw[HM2.out];exact HDI.out,HFE.out,((HBW.out.setCell (p:=⟨w.heap.size+1,0,none⟩) (by simp) _).setCell (p:=⟨w.heap.size+1+1,0,none⟩) (by simp;omega) _).trans (belowK_b (w:=w) (Nat.le_refl _) _ D _ _ (by omega) hK' rfl rfl)⟩
    ·simp [results,Tryz.f89,go_sem,h1',h2']
    ·exact World.rowIs.of_block (World.rowIs.setOther (World.rowIs.setOther HF.out (by simp) _) (by simp) _) (World.putObj_heap_other (by omega)))
 case stop =>
  rintro D c pre W hD hpre ⟨⟨rfl,hno⟩,_⟩ _
  exact absurd hpre hno
end
end Go.Proofs.YtjngffgkllakaaaGreatDoor
namespace Go
theorem kQ{P:Nat->Prop}:∀(n:Nat),P n->∃m,P m/\∀k,P k->m<=k:=by
 intro n
 induction n using Nat.strongRecOn with
 | _ n ih =>
   intro h
   by_cases hl:∃k,k<n/\P k
   ·obtain⟨k,hk,hp⟩:=hl
    exact ih k hk hp
   ·exact⟨n,h,fun k hk=>Nat.le_of_not_lt fun hlt=>hl ⟨k,hlt,hk⟩⟩
open Classical in
noncomputable def leastN (P:Nat->Prop):Nat:=if h:∃m,P m/\∀k,P k->m<=k then Classical.choose h else 0
theorem jX{P:Nat->Prop}{n:Nat}(h:P n):P (leastN P)/\∀k,P k->leastN P<=k:=by
 unfold leastN
 rw[dif_pos (kQ n h)]
 exact Classical.choose_spec (kQ n h)
theorem kR{P:Program}{a:Act}{w:World}{Q:Exit->Act->World->Prop}{c rest:Code}(l:Nat)(J:Nat->Act->World->Prop)(hf:findLabel c l=some (.seq .skip rest))
 (pass:∀n a w,J n a w->rest.wp P (Exit.jump l (fun a' w'=>∃m,m<n/\J m a' w') Q) a w)
 (first:∀R:Exit->Act->World->Prop,(∀n a w,J n a w->rest.wp P R a w)->c.wp P R a w):(Code.scope c).wp P Q a w:=by
 have hmono:∀n a w,J n a w->rest.wp P (Exit.jump l (fun a' w'=>(∃m,J m a' w')/\leastN (fun m=>J m a' w')<n) Q) a w:=fun n a w h=>by
  refine Code.wp_mono (fun e a' w' hq=>?_) (pass n a w h)
  cases e with
  | goto l' =>
    obtain⟨h1,m,hm,hj⟩:=hq
    exact⟨h1,⟨m,hj⟩,Nat.lt_of_le_of_lt ((jX (P:=fun m=>J m a' w') hj).2 m hj) hm⟩
  | normal=>exact hq
  | exit _=>exact hq
  | ret=>exact hq
  | panic _=>exact hq
  | outgrown=>exact hq
 refine wp_scope_jumps l (fun a w=>∃n,J n a w) (fun a w=>leastN (fun m=>J m a w)) hf (first _ fun n a w h=>?_) (fun a w ⟨n,h⟩=>?_)
 ·refine Code.wp_mono (fun e a' w' hq=>?_) (hmono n a w h)
  cases e with
  | goto l'=>exact⟨hq.1,hq.2.1⟩
  | normal=>exact hq
  | exit _=>exact hq
  | ret=>exact hq
  | panic _=>exact hq
  | outgrown=>exact hq
 ·exact wp_seq (wp_skip (hmono _ a w (jX (P:=fun m=>J m a w) h).1))
end Go
namespace Go.Proofs.YtjngffgkllakaaaGreatDoor
open List renaming getElem_toArray → zA, getElem_cons_succ → zB, getElem_cons_zero → zC, setIfInBounds_toArray → zD, set_cons_zero → zE, set_cons_succ → zF
open Lib renaming hid → zH
section
open Go.RowKit
theorem lostI_no{to:List (List Int)}(hr:GG.am to=true)(h:DD.allB to=false):∃k:Nat,gg to=(k:Int):=by
 unfold DD.allB at h
 rw[List.all_eq_false] at h
 unfold gg
 rw[if_pos hr]
 obtain⟨x,hx,hnx⟩:=h
 obtain⟨m,⟨hm1,hm2⟩,hl⟩:=kQ (P:=fun k=>k<to.length/\(!GG.reachB to (-1) 0 k)=true) x ⟨List.mem_range.1 hx,by simpa using hnx⟩
 refine⟨m,GG.ed hm1 hm2 (fun j hj=>?_)⟩
 cases e:(!GG.reachB to (-1) 0 j)
 ·rfl
 ·have:=hl j ⟨by omega,e⟩;omega
theorem lostI_all{to:List (List Int)}(hr:GG.am to=true)(h:DD.allB to=true):gg to = -1:=by
 unfold gg
 rw[if_pos hr]
 exact GG.eN fun j hj=>by rw[DD.all_at h hj];rfl
def TFrame(o b p t:Value)(a:Act):Prop:=∃u0 u1 u2 u3 u4 u9 u10 u11 u12 u13 u14 u15 u16 u17 u18 u19 u20 u21 u22 u23 u24 u25 u26 u27 u28 u29 u30 u31 u32 u33 u34 u35 u36 u37 u38 u39 u40 u41 u42 u43 u44 u45 u46 u47 u48 u49 u50 u51 u52 u53 u54 u55:Value,a = { tmps:=#[u0,u1,u2,u3,u4,o,b,p,t,u9,u10,u11,u12,u13,u14,u15,u16,u17,u18,u19,u20,u21,u22,u23,u24,u25,u26,u27,u28,u29,u30,u31,u32,u33,u34,u35,u36,u37,u38,u39,u40,u41,u42,u43,u44,u45,u46,u47,u48,u49,u50,u51,u52,u53,u54,u55],defers:=[] }
theorem cell_newD(W:World)(x:Value)(t:TypeId):(W.alloc (.cells #[x] t)).cell? ⟨W.heap.size,0,none⟩=some x:=by
 have:=GG.aW W x t 0 x rfl
 rwa [Addr.add_lit] at this
theorem places_n(la:Option Addr)(lc n:Nat)(l:List Int)(w:World)(HF:Row w.heap.size w (.slice la n lc) l)(hln:l.length=n)(hn:l.Nodup)(hll:n<=256)(hl:∀x∈l,0<=x/\x<n) :
 Calls Tryz.prog 145 #[.slice la n lc] w fun e w'=>e=.returned (.slice (some ⟨w.heap.size,0,none⟩) n n)/\bH w' w.heap.size n (plA l n)/\Below w.heap.size w w':=by
 subst hln
 exact qM la lc l w HF hn hll hl
theorem own_rd{W:World}{B n:Nat}{T:Nat->Int}{v:Value}{xs:List Value}(h:W.ownsRow B 3 1 v n xs)(hx:xs=ao ((List.range n).map T))(h0:0<n):∃g cap,v=.slice (some ⟨g,0,none⟩) n cap/\B<=g/\g<W.heap.size/\Rd W g 0 n T:=by
 subst hx
 have hl:=h.lt
 have hr:=aM h
 rcases h.2 with⟨rfl,e⟩ | ⟨g,cap,cur,rfl,hb,hg,_⟩
 ·omega
 ·refine⟨g,cap,rfl,hb,(hl g rfl).2,fun i hi=>?_⟩
  rcases hr with⟨_,e⟩ | ⟨g',off,cap',e,_,_,hc⟩
  ·have:(ao ((List.range n).map T)).length=0:=by rw[e];rfl
   rw[aC] at this;simp at this;omega
  ·simp at e
   obtain⟨⟨rfl,rfl⟩,_⟩:=e
   refine hc i _ ?_
   unfold ao
   rw[List.getElem?_map,List.getElem?_map,List.getElem?_range hi];rfl
theorem Rd.setCell{W:World}{b off n g i:Nat}{f:Nat->Int}(h:Rd W b off n f)(hne:b≠g)(v:Value):Rd (W.setCell ⟨g,i,none⟩ v) b off n f:=fun j hj=>by
 rw[World.cell?_setCell_other _ _ _ _ (by simp [Ne.symm hne])];exact h j hj
theorem Rd.below{W W':World}{b off n B:Nat}{f:Nat->Int}(h:Rd W b off n f)(hb:Below B W W')(hl:b<B):Rd W' b off n f:=fun j hj=>(hb.cell (p:=⟨b,off+j,none⟩) hl).trans (h j hj)
structure TJ (W:World) (to:List (List Int)) (R n:Nat) (W1:World) (ob oo oc:Nat) (bv:Value) (pb tb r:Nat) (T:Nat->Int) (w:World):Prop where
 at_:tb=W1.heap.size
 order:Row W1.heap.size W1 (.slice (some ⟨ob,oo,none⟩) to.length oc) (GG.br to)
 back:az W1.heap.size W1 bv (GG.bz to)
 place:Rd W1 pb 0 to.length (fun i=>(DD.plOf to i:Int))
 placeAt:pb<W1.heap.size
 base:Below W.heap.size W W1
 tree:bH w tb to.length T
 below:Below W1.heap.size W1 w
 st:DD.St to.length (GG.an to) (DD.plOf to) r 1 T
 ghost:n+r=R+2
def TJump(W:World)(to:List (List Int))(R n:Nat)(a:Act)(w:World):Prop :=
 ∃(W1:World) (ob oo oc:Nat) (bv:Value) (pb tb r:Nat) (T:Nat->Int),TFrame (.slice (some ⟨ob,oo,none⟩) to.length oc) bv (.slice (some ⟨pb,0,none⟩) to.length to.length) (.slice (some ⟨tb,0,none⟩) to.length to.length) a/\TJ W to R n W1 ob oo oc bv pb tb r T w
theorem map_eq{n:Nat}{T T0:Nat->Int}(h:(List.range n).map T=(List.range n).map T0):∀k,k<n->T k=T0 k:=fun k hk=>by
 have:=congrArg (fun l=>l[k]?) h
 simpa [List.getElem?_map,List.getElem?_range hk] using this
theorem fun_eq{n:Nat}{T T0:Nat->Int}(h:∀k,k<n->T k=T0 k)(h1:∀k,n<=k->T k = -1)(h2:∀k,n<=k->T0 k = -1):T=T0:=by
 funext k
 by_cases e:k<n
 ·exact h k e
 ·rw[h1 k (by omega),h2 k (by omega)]
theorem tj_first{W:World}{to:List (List Int)}{R:Nat}{w5 w6 w7:World}{oa:Option Addr}{oc pb:Nat}{bv:Value}(hr:GG.am to=true)(ha:DD.allB to=true)(G:DD.Gr to.length (GG.an to) (DD.plOf to))
 (ho:Row w5.heap.size w5 (.slice oa to.length oc) (GG.br to)) (hg:az w5.heap.size w5 bv (GG.bz to)) (hp:bH w5 pb to.length (plA (GG.br to) to.length)) (hpb:pb<w5.heap.size) (hb:Below W.heap.size W w5) (h6:Below w5.heap.size w5 w6) (ht:bH w7 w6.heap.size to.length (fun _=>-1)) (h7:Below w6.heap.size w6 w7) {tb:Nat} (htb:tb=w6.heap.size) :
 ∃ob oo,oa=some ⟨ob,oo,none⟩/\TJ W to R (R+2) w6 ob oo oc bv pb tb 0 (fun k=>-1) w7:=by
 have hl:=DD.gW hr ha
 obtain⟨ob,oo,cap,e,_⟩:=ho.at (by have:=GG.aB hr;omega)
 simp at e
 obtain⟨rfl,-,rfl⟩:=e
 have ho6:=ho.on h6 h6.size
 have hs:=h6.size
 subst htb
 refine⟨ob,oo,rfl,⟨rfl,ho6,hg.on h6 h6.size,(hp.congr (f':=fun i=>(DD.plOf to i:Int)) (fun i hi=>plA_all (by omega) ((DD.gV hr ha).2 hi))).rd.below h6 hpb,by omega,bstep hb h6,ht,h7,DD.st_first G (fun _=>rfl),by omega⟩⟩
theorem qR{n:Nat}{adj:Nat->List Nat}{pl:Nat->Nat}{r R:Nat}{T T0:Nat->Int}(G:DD.Gr n adj pl)(hR:∀a k,a<n->k<n->DD.Av adj a k->DD.RP adj pl a R k)(h0:DD.St n adj pl r 1 T0)(h1:DD.St n adj pl (r+1) 1 T)(hne:T≠T0):r<=R:=by
 rcases Nat.lt_or_ge R r with h | h
 ·exact absurd ((h1.fin_far G hR (by omega)).same (h0.fin_far G hR h)) hne
 ·exact h
def nO(to:List (List Int)):Prop:=GG.am to=true->DD.allB to=true->∃T,DD.Fin to.length (GG.an to) (DD.plOf to) T
set_option maxRecDepth 100000 in
set_option maxHeartbeats 3200000 in
theorem tree_full{v:Value}{to:List (List Int)}(W:World)(hv:az W.heap.size W v to)(hx:cd to) :
 Calls Tryz.prog 92 #[v] W fun e W'=>nu W.heap.size (DD.bU to) e W W'/\nO to:=by
 have hx0:=hx.1
 have HV:=zH hv
 have HX:=zH hx
 obtain⟨va,vc,rfl⟩:=hv.form
 clear hv hx
 cases hr:GG.am to
 ·have HR:=zH hr
  have HE:=zH (show DD.bU to=[] by unfold DD.bU;rw[if_neg (by rw[hr];simp)])
  clear hr
  go_enter Tryz.func92,Tryz.ntmps92
  go_wp2
  go_step3
  go_wp2_with (go_at_call 35;refine(aG _ to _ HV.out HX.out).mono ?_;rintro e w' ⟨rfl,hB⟩;have HB:=zH hB;clear hB;rw[HR.out])
  try rw[Exit.noGoto_ret]
  go_ret
  exact⟨⟨_,rfl,by rw[HE.out];exact aT _ _ _ _ (fun _=>rfl),HB.out⟩,fun h=>absurd (h.symm.trans HR.out) (by decide)⟩
 ·cases ha:DD.allB to
  ·have HR:=zH hr
   obtain⟨k,hk⟩:=lostI_no hr ha
   have HK:=zH hk
   have HE:=zH (show DD.bU to=[] by unfold DD.bU;rw[if_neg (by rw[ha];simp)])
   have HA:=zH ha
   clear hr ha hk
   go_enter Tryz.func92,Tryz.ntmps92
   go_wp2
   go_step3
   go_wp2_with (first
    | (go_at_call 35;refine(aG _ to _ HV.out HX.out).mono ?_;rintro e w' ⟨rfl,hB⟩;have HB:=zH hB;clear hB;rw[HR.out])
    | (go_at_call 138;refine(gq (to:=to) _ (HV.out.on HB.out HB.out.size) HX.out).mono ?_;rintro e w2 ⟨rfl,hB2⟩;have HB2:=zH (bstep HB.out hB2);clear hB2;rw[HK.out,fI]))
   try rw[Exit.noGoto_ret]
   go_ret
   exact⟨⟨_,rfl,by rw[HE.out];exact aT _ _ _ _ (fun _=>rfl),HB2.out⟩,fun _ h=>absurd (h.symm.trans HA.out) (by decide)⟩
  ·have HR :=zH hr
   have HA:=zH ha
   have HG:=zH (DD.gr_of hr ha)
   have hlen:=GG.aB hr
   have HK:=zH (lostI_all hr ha)
   have HOE:=zH (show iD to=GG.br to by unfold iD;rw[if_pos hr])
   have HOL:=zH (DD.gW hr ha)
   have HON:=zH (GG.eO hr)
   have HBE:=zH (show fl to=GG.bz to by unfold fl;rw[if_pos hr])
   have HFL:=zH (fun T F=>DD.pd (T:=T) hr ha F)
   obtain⟨R,hR⟩:=DD.RP.all (GG.an to) (DD.plOf to) to.length
   have HRR:=zH hR
   clear hr ha hR
   go_enter Tryz.func92,Tryz.ntmps92
   go_wp2
   refine kR 0 (TJump W to R) rfl ?pass ?first
   case first =>
    intro QR hrest
    go_wp2_with (first
     | (go_at_call 35;refine(aG _ to _ HV.out HX.out).mono ?_;rintro e w' ⟨rfl,hB⟩;have HB:=zH hB;clear hB;rw[HR.out])
     | (go_at_call 138;refine(gq (to:=to) _ (HV.out.on HB.out HB.out.size) HX.out).mono ?_;rintro e w2 ⟨rfl,hB2⟩;have HB2:=zH (bstep HB.out hB2);clear hB2;rw[HK.out,cE])
     | (go_at_call 144
        refine(qy (to:=to) _ (HV.out.on HB2.out HB2.out.size) HX.out).mono ?_
        rintro e w3 ⟨ov,rfl,ho,hB3⟩
        rw[HOE.out] at ho
        obtain⟨oa,oc,hov⟩:=ho.form
        rw[HOL.out] at hov
        subst hov
        have HO3:=zH ho
        have HB3:=zH (bstep HB2.out hB3)
        clear ho hB3)
     | (go_at_call 90
        refine(gt (to:=to) _ (HV.out.on HB3.out HB3.out.size) HX.out).mono ?_
        rintro e w4 ⟨bv,rfl,hg,hB4⟩
        rw[HBE.out] at hg
        have HG4:=zH hg
        have HO4:=zH (HO3.out.on hB4 hB4.size)
        have HB4:=zH (bstep HB3.out hB4)
        clear hg hB4)
     | (go_at_call 145
        refine(places_n oa oc to.length (GG.br to) w4 HO4.out HOL.out HON.out hlen.2 (fun x hx=>by have:=(GG.gR HR.out x).1 hx;exact⟨this.1,this.2.1⟩)).mono ?_
        rintro e w5 ⟨rfl,hp,hB5⟩
        have HP5:=zH hp
        have HO5:=zH (HO4.out.on hB5 hB5.size)
        have HG5:=zH (HG4.out.on hB5 hB5.size)
        have HB5:=zH (bstep HB4.out hB5)
        have HS5:=zH (show w4.heap.size<w5.heap.size from World.rowIs.lt hp)
        clear hp hB5)
     | (go_at_call 146
        have HB6:=zH ((Below.refl w5.heap.size w5).alloc (Nat.le_refl _) (.cells #[.int .i64 (-1)] 3))
        refine(qN w5.heap.size 0 1 to.length (-1) _ (cell_newD _ _ _) (by simp) hlen.1 hlen.2).mono ?_
        rintro e w7 ⟨rfl,ht,hB7⟩
        have HT7:=zH ht
        have HB7:=zH hB7
        clear ht hB7))
    have HJ:=zH (fun(tb:Nat) (e:tb=w5.heap.size+1)=>tj_first (W:=W) (R:=R) (tb:=tb) HR.out HA.out HG.out HO5.out HG5.out HP5.out HS5.out HB5.out HB6.out HT7.out HB7.out (by rw[e];simp))
    obtain⟨ob,oo,rfl,hj⟩:=HJ.out _ rfl
    rename_i hK
    go_step3
    refine hK _ _ (hrest (R+2) _ _ ⟨_,_,_,_,_,_,_,_,_,?_,hj⟩)
    exact⟨_,_,_,_,_,_,_,_,_,_,_,_,_,_,_,_,_,_,_,_,_,_,_,_,_,_,_,_,_,_,_,_,_,_,_,_,_,_,_,_,_,_,_,_,_,_,_,_,_,_,_,_,rfl⟩
   case pass =>
    intro gh a w hJ
    obtain⟨W1,ob,oo,oc,bv,pb,tb,r,T0,hfr,hj⟩:=hJ
    obtain⟨u0,u1,u2,u3,u4,u9,u10,u11,u12,u13,u14,u15,u16,u17,u18,u19,u20,u21,u22,u23,u24,u25,u26,u27,u28,u29,u30,u31,u32,u33,u34,u35,u36,u37,u38,u39,u40,u41,u42,u43,u44,u45,u46,u47,u48,u49,u50,u51,u52,u53,u54,u55,rfl⟩:=hfr
    have HJ:=zH hj
    have HOC:=zH (show to.length<=oc by
     rcases HJ.out.order with⟨⟨_,_,e,_⟩,e2⟩ | ⟨_,_,_,e,_,h,_⟩
     ·have:(ao (GG.br to)).length=0:=by rw[e2];rfl
      rw[aC,HOL.out] at this;omega
     ·rw[aC,HOL.out] at h e
      cases e;exact h)
    have hcp:∀j,j<((List.range to.length).map T0).length->w.cell? ⟨tb,0+j,none⟩=some (.int .i64 (((List.range to.length).map T0).getD j 0)):=fun j hjl=>by
     have hjn:j<to.length:=by simpa using hjl
     rw[hj.tree.rd j hjn,List.getD_eq_getElem?_getD,List.getElem?_map,List.getElem?_range hjn];rfl
    have HC:=zH (Tryz.slices_Clone_int tb 0 to.length to.length ((List.range to.length).map T0) w (by simp) (by omega) hcp)
    clear hj hcp
    go_wp2_with (go_at_call 147
                 refine HC.out.mono ?_
                 rintro e w2 ⟨cv,rfl,hown,_,hB2⟩
                 rw[List.take_of_length_le (by simp)] at hown
                 obtain⟨cb,cc,rfl,hcb,hcl,hrd⟩:=own_rd hown rfl (by omega)
                 have HRD:=zH hrd
                 have HB2:=zH hB2
                 clear hown hrd hB2)
    all_goals try subst h
    all_goals
     obtain⟨bb,bo,bc,hbv⟩:=HJ.out.back.addr (by rw[GG.bG];omega)
     rw[GG.bG] at hbv
     subst hbv
     go_loopw [36] (fun k wr=>∃(q:Nat) (T:Nat->Int),q<=to.length-1/\k=.int .i64 (q:Int)/\bH wr tb to.length T/\Below W1.heap.size W1 wr/\Rd wr cb 0 to.length T0/\RowKit.Hid (DD.St to.length (GG.an to) (DD.plOf to) r (q+1) T/\DD.Fx to.length (GG.an to) (DD.plOf to) T0 (q+1) T)) (fun k _=>to.length-1-(intOf k).toNat)
     case atStart =>
      have htl:=HJ.out.at_
      have hts:=World.rowIs.lt HJ.out.tree
      exact⟨0,T0,Nat.zero_le _,rfl,HJ.out.tree.below HB2.out hts,HJ.out.below.trans (HB2.out.mono (by omega)),HRD.out,zH ⟨HJ.out.st,DD.fx_first HG.out⟩⟩
     case round =>
      obtain⟨q,T,hq,rfl,hI,hB,hR0,HS⟩:=hrel
      have HI:=zH hI
      have HB:=zH hB
      have HR0:=zH hR0
      clear hI hB hR0
      have htb:cb≠tb:=by have:=World.rowIs.lt HJ.out.tree;omega
      by_cases hlt:q<to.length-1
      ·first
       | (exfalso;have:=HOC.out;omega)
       | (obtain⟨i,hin,hoi,hpi⟩:=DD.at_pl HR.out HA.out (show q+1<to.length by omega)
          have hc:wr.cell? ⟨ob,oo+1+q,none⟩=some (.int .i64 (i:Int)):=by
           obtain⟨b',o',e1,e2⟩:=(HJ.out.order.below HB.out).cellAt (show q+1<(GG.br to).length by rw[HOL.out];omega)
           cases e1
           rw[hoi,show oo+(q+1)=oo+1+q by omega] at e2
           exact e2
          have hi0:i≠0:=fun e=>by rw[e,HG.out.first] at hpi;omega
          obtain⟨ra,rc,hrc,hrr⟩:=(HJ.out.back.below HB.out).at (show i<(GG.bz to).length by rw[GG.bG];exact hin)
          rw[GG.iV hin] at hrc hrr
          have hll:=jE to i to.length
          have HPR:=zH (show DD.preds to i=fe (GG.bZ to i to.length) from rfl)
          have HLB:=zH (fun x (hx:x∈GG.bZ to i to.length)=>(show 0<=x/\x<(to.length:Int) by obtain⟨k,rfl,hk,_⟩:=GG.di.1 hx;omega))
          have HMP:=zH (DD.mem_preds HR.out hin)
          rw[HPR.out] at HMP
          obtain⟨l,el⟩:∃l,l=GG.bZ to i to.length:=⟨_,rfl⟩
          rw[<-el] at hrc hrr hll HLB HMP
          have HRR2:=zH (hrr.mono (show W1.heap.size<=wr.heap.size by have:=HB.out.size;omega))
          have hct:=World.rowIs.cell HI.out hin
          have hft:=World.rowIs.frozen HI.out i
          have i1:(0:Int)<=q/\(q:Int)<(to.length-1:Nat):=by omega
          have i2:(0:Int)<=i/\(i:Int)<to.length:=by omega
          have HSTEP:=zH (fun c hm=>(And.intro (HS.out.1.step (near:=c) HG.out hin hi0 hpi HMP.out hm) (HS.out.2.step (near:=c) HS.out.1 (fun k hk=>HJ.out.st.inv.out k hk) HG.out hin hi0 hpi HMP.out hm)))
          clear el hrr HPR hoi hpi
          go_wp2_with (go_at_call 148
                       refine(qL tb 0 to.length pb 0 to.length ra rc l _ HI.out.rd (HJ.out.place.below HB.out HJ.out.placeAt) HRR2.out HS.out.1.inv HG.out hlen.2 (by omega) HLB.out).mono ?_
                       rintro e w5 ⟨⟨c,rfl,hm⟩,d,rfl⟩
                       have HN:=zH (HSTEP.out c hm)
                       clear hm)
          go_roundw
          case rel=>exact⟨q+1,DD.setI T i c,by omega,by go_num,bH.set (W:=wr.drewN d) HI.out i c,(kD HB.out d).setCell (p:=⟨tb,i,none⟩) (by have:=HJ.out.at_;simp;omega) _,Rd.setCell (W:=wr.drewN d) HR0.out htb _,HN⟩
          case measure=>simp [intOf];omega)
      ·have HE:=zH (Tryz.slices_Equal_int tb 0 to.length to.length cb 0 to.length cc ((List.range to.length).map T) ((List.range to.length).map T0) wr (by simp) (by simp) (by omega) (by omega) (fun j hj=>by
        have hjn:j<to.length:=by simpa using hj
        rw[HI.out.rd j hjn,List.getD_eq_getElem?_getD,List.getElem?_map,List.getElem?_range hjn];rfl) (fun j hj=>by
        have hjn:j<to.length:=by simpa using hj
        rw[HR0.out j hjn,List.getD_eq_getElem?_getD,List.getElem?_map,List.getElem?_range hjn];rfl))
       rw[List.take_of_length_le (by simp),List.take_of_length_le (by simp)] at HE
       cases hb:((List.range to.length).map T == (List.range to.length).map T0)
       ·have HNX:=zH (HS.out.1.next HG.out (show to.length<=q+1 by omega))
        have HRL:=zH (qR HG.out HRR.out HJ.out.st HNX.out (fun e=>by rw[e,beq_self_eq_true] at hb;cases hb))
        have hgh:=HJ.out.ghost
        have hrl:=HRL.out
        rw[hb] at HE
        clear hb
        go_wp2_with (go_at_call 149;refine HE.out.mono ?_;rintro e w5 ⟨rfl,d,rfl⟩)
        go_step3
        exact⟨rfl,gh-1,by omega,W1,ob,oo,_,_,pb,tb,r+1,T,⟨_,_,_,_,_,_,_,_,_,_,_,_,_,_,_,_,_,_,_,_,_,_,_,_,_,_,_,_,_,_,_,_,_,_,_,_,_,_,_,_,_,_,_,_,_,_,_,_,_,_,_,_,rfl⟩,⟨HJ.out.at_,HJ.out.order,HJ.out.back,HJ.out.place,HJ.out.placeAt,HJ.out.base,HI.out,kD HB.out d,HNX.out,by omega⟩⟩
       ·have hTT:T=T0:=fun_eq (map_eq (by simpa using hb)) (fun k hk=>HS.out.1.inv.out k hk) (fun k hk=>HJ.out.st.inv.out k hk)
        have HFIN:=zH (HS.out.1.fin_fix HG.out (show to.length<=q+1 by omega) (by have h:=HS.out.2;rw[<-hTT] at h;exact h))
        have HFN:=zH (HFL.out T HFIN.out)
        rw[hb] at HE
        clear hb hTT
        go_wp2_with (go_at_call 149;refine HE.out.mono ?_;rintro e w5 ⟨rfl,d,rfl⟩)
        simp only[Exit.jump]
        go_ret
        exact⟨⟨_,rfl,by rw[<-HFN.out];exact(bH.row (W:=wr.drewN d) HI.out),(HJ.out.base.trans ((kD HB.out d).mono HJ.out.base.size))⟩,fun _ _=>⟨_,HFIN.out⟩⟩
end
end Go.Proofs.YtjngffgkllakaaaGreatDoor
namespace Go.Proofs.YtjngffgkllakaaaGreatDoor.DD
open List renaming getElem_toArray → zA, getElem_cons_succ → zB, getElem_cons_zero → zC, setIfInBounds_toArray → zD, set_cons_zero → zE, set_cons_succ → zF
open Lib renaming hid → zH
section
open GG
def fnOf(xs:List Int)(k:Nat):Int:=xs[k]?.getD (-1)
theorem nP{xs:List Int}{k:Nat}(h:k<xs.length):fnOf xs k=xs[k]?.getD 0:=by unfold fnOf;rw[List.getElem?_eq_getElem h];rfl
theorem pq{xs:List Int}{k:Nat}(h:xs.length<=k):fnOf xs k = -1:=by unfold fnOf;rw[List.getElem?_eq_none h];rfl
theorem qS{n:Nat}{T:Nat->Int}(h:∀k,n<=k->T k = -1):fnOf ((List.range n).map T)=T:=by
 funext k
 unfold fnOf
 by_cases e:k<n
 ·rw[List.getElem?_map,List.getElem?_range e];rfl
 ·rw[List.getElem?_eq_none (by simp;omega),h k (by omega)];rfl
def gz(xs:List Int):Prop:=(1<=xs.length/\xs.length<=256)/\fnOf xs 0 = -1/\∀i,i<xs.length->Up (fnOf xs) i 0
open Classical in
noncomputable def treeB (xs:List Int):Bool:=decide (gz xs)
theorem ft{xs:List Int}:treeB xs=true↔gz xs:=by unfold treeB;simp
theorem jf{xs:List Int}(h:¬gz xs):treeB xs=false:=by
 cases e:treeB xs
 ·rfl
 ·exact absurd (ft.1 e) h
theorem qT{xs:List Int}(h0:0<xs.length){k:Nat}(h:Up (fnOf xs) k 0):k<xs.length:=by
 rcases h.head with e | ⟨j,hj,_⟩
 ·omega
 ·rcases Nat.lt_or_ge k xs.length with h' | h'
  ·exact h'
  ·rw[pq h'] at hj;omega
theorem gz.next{xs:List Int}(h:gz xs){k:Nat}(hk:k<xs.length)(h0:k≠0):∃j:Nat,fnOf xs k=(j:Int)/\j<xs.length:=by
 rcases (h.2.2 k hk).head with e | ⟨j,hj,hu⟩
 ·exact absurd e.symm h0
 ·exact⟨j,hj,qT (by have:=h.1;omega) hu⟩
inductive ChR (T:Nat->Int) (n:Nat):Int->List Nat->Prop
 | nil:ChR T n (-1) []
 | cons {k:Nat} {l:List Nat} (hk:k<n) (h:ChR T n (T k) l):ChR T n (k:Int) (k :: l)
theorem ChR.det{T:Nat->Int}{n:Nat}{c:Int}{l:List Nat}(h:ChR T n c l):∀ {l':List Nat},ChR T n c l'->l=l':=by
 induction h with
 | nil =>
   intro l' h'
   generalize hc:(-1:Int)=c at h'
   cases h' with
   | nil=>rfl
   | cons=>omega
 | @cons k l hk h ih =>
   intro l' h'
   generalize hc:(k:Int)=c at h'
   cases h' with
   | nil=>omega
   | @cons k' l2 hk' h2 =>
     have:k=k':=by omega
     subst this
     rw[ih h2]
theorem ChR.tail{T:Nat->Int}{n:Nat}{c:Int}{l:List Nat}(h:ChR T n c l){x:Nat}(hx:x∈l):∃l',ChR T n (x:Int) l'/\l'.length<=l.length:=by
 induction h with
 | nil=>cases hx
 | @cons k l hk h ih =>
   rcases List.mem_cons.1 hx with e | hx
   ·subst e;exact⟨_,.cons hk h,Nat.le_refl _⟩
   ·obtain⟨l',h1,h2⟩:=ih hx
    exact⟨l',h1,by simp;omega⟩
theorem ChR.nodup{T:Nat->Int}{n:Nat}{c:Int}{l:List Nat}(h:ChR T n c l):l.Nodup:=by
 induction h with
 | nil=>exact List.nodup_nil
 | @cons k l hk h ih =>
   rw[List.nodup_cons]
   refine⟨fun hm=>?_,ih⟩
   obtain⟨l',h1,h2⟩:=h.tail hm
   have:=h1.det (.cons hk h)
   subst this
   simp at h2
   omega
theorem ChR.lt{T:Nat->Int}{n:Nat}{c:Int}{l:List Nat}(h:ChR T n c l):∀x∈l,x<n:=by
 induction h with
 | nil=>intro x hx;cases hx
 | cons hk h ih =>
   intro x hx
   rcases List.mem_cons.1 hx with rfl | hx
   ·exact hk
   ·exact ih x hx
theorem ChR.len{T:Nat->Int}{n:Nat}{c:Int}{l:List Nat}(h:ChR T n c l):l.length<=n:=pigeon n l h.lt h.nodup
theorem ChR.mem_up{T:Nat->Int}{n:Nat}{c:Int}{l:List Nat}(h:ChR T n c l):∀ {k:Nat},c=(k:Int)->∀x,x∈l↔Up T k x:=by
 induction h with
 | nil=>intro k e;omega
 | @cons k l hk h ih =>
   intro k' e x
   have:k=k':=by omega
   subst this
   rw[List.mem_cons]
   constructor
   ·rintro (rfl | hx)
    ·exact .refl _
    ·generalize hc:T k=c at h
     cases h with
     | nil=>cases hx
     | @cons j l2 hj h2=>exact .step hc ((ih (by rw[hc]) x).1 hx)
   ·intro hu
    rcases hu.head with e | ⟨j,hj,hu'⟩
    ·exact .inl e
    ·exact .inr ((ih hj x).2 hu')
theorem ChR.of_up{T:Nat->Int}{n:Nat}(h0:T 0 = -1)(hn:0<n)(hout:∀k,n<=k->T k = -1){k:Nat}(h:Up T k 0):∃l,ChR T n (k:Int) l:=by
 have:∀ {k z:Nat},Up T k z->z=0->∃l,ChR T n (k:Int) l:=by
  intro k z h
  induction h with
  | refl k =>
    intro e;subst e
    exact⟨[0],.cons hn (by rw[h0];exact .nil)⟩
  | @step k j a h _ ih =>
    intro e
    obtain⟨l,hl⟩:=ih e
    refine⟨k :: l,.cons ?_ (by rw[h];exact hl)⟩
    rcases Nat.lt_or_ge k n with h' | h'
    ·exact h'
    ·rw[hout k h'] at h;omega
 exact this h rfl
theorem gz.chain{xs:List Int}(h:gz xs){a:Nat}(ha:a<xs.length):∃l,ChR (fnOf xs) xs.length (a:Int) l :=
 ChR.of_up h.2.1 (by have:=h.1;omega) (fun k hk=>pq hk) (h.2.2 a ha)
open Classical in
noncomputable def chainN (xs:List Int) (a:Int):List Nat:=if h:(treeB xs=true/\inB xs.length a=true)/\∃l,ChR (fnOf xs) xs.length a l then Classical.choose h.2 else []
theorem iF{xs:List Int}(h:treeB xs=true){a:Nat}(ha:a<xs.length):ChR (fnOf xs) xs.length (a:Int) (chainN xs a):=by
 unfold chainN
 have hin:inB xs.length (a:Int)=true:=decide_eq_true (by omega)
 rw[dif_pos ⟨⟨h,hin⟩,(ft.1 h).chain ha⟩]
 exact Classical.choose_spec (p:=fun l=>ChR (fnOf xs) xs.length (a:Int) l) _
theorem mu{xs:List Int}{a:Int}(h:¬(treeB xs=true/\inB xs.length a=true)):chainN xs a=[]:=by
 unfold chainN;rw[dif_neg (fun hh=>h hh.1)]
theorem kS(xs:List Int)(a:Int):(chainN xs a).length<=256:=by
 by_cases h:treeB xs=true/\inB xs.length a=true
 ·have h2:=of_decide_eq_true h.2
  obtain⟨k,rfl⟩:∃k:Nat,a=(k:Int):=⟨a.toNat,by omega⟩
  have:=(iF h.1 (show k<xs.length by omega)).len
  have:=(ft.1 h.1).1
  omega
 ·rw[mu h];simp
noncomputable def chainL (xs:List Int) (a:Int):List Int:=(chainN xs a).map Int.ofNat
noncomputable def domB (xs:List Int) (a b:Int):Bool:=decide (a∈chainL xs b)
theorem qU{xs:List Int}(h:treeB xs=true){b:Nat}(hb:b<xs.length)(a:Int):a∈chainL xs b↔∃k:Nat,a=(k:Int)/\Up (fnOf xs) b k:=by
 have hc:=iF h hb
 unfold chainL
 rw[List.mem_map]
 constructor
 ·rintro ⟨k,hk,rfl⟩;exact⟨k,rfl,(hc.mem_up rfl k).1 hk⟩
 ·rintro ⟨k,rfl,hk⟩;exact⟨k,(hc.mem_up rfl k).2 hk,rfl⟩
theorem domB_iff{xs:List Int}(h:treeB xs=true){a b:Nat}(hb:b<xs.length):domB xs a b=true↔Up (fnOf xs) b a:=by
 unfold domB
 rw[decide_eq_true_iff,qU h hb]
 constructor
 ·rintro ⟨k,e,hk⟩
  have:k=a:=by omega
  subst this;exact hk
 ·intro hk;exact⟨a,rfl,hk⟩
structure MK (xs:List Int) (i:Nat) (f:Nat->Int):Prop where
 val:∀x,f x=0∨(1<=f x/\f x<i/\x<xs.length)
 zero:f 0=0
 good:∀x,f x≠0->Up (fnOf xs) x 0
 all:∀x,1<=x->x<i->f x≠0
structure MI (xs:List Int) (i j:Nat) (f:Nat->Int):Prop where
 val:∀x,f x=0∨(1<=f x/\f x<=i/\x<xs.length)
 zero:f 0=0
 good:∀x,f x≠0->f x≠i->Up (fnOf xs) x 0
 own:∀x,f x=i->Up (fnOf xs) x j/\∃y:Nat,fnOf xs x=(y:Int)/\(y=j∨f y=i)
 start:i=j∨f i=i
 all:∀x,1<=x->x<i->f x≠0
theorem mk_first(xs:List Int):MK xs 1 (fun _=>0):=⟨fun _=>.inl rfl,rfl,fun x h=>absurd rfl h,fun x h1 h2=>by omega⟩
theorem MK.begin{xs:List Int}{i:Nat}{f:Nat->Int}(h:MK xs i f)(hi:1<=i):MI xs i i f :=
 ⟨fun x=>(h.val x).imp id (fun⟨a,b,c⟩=>⟨a,by omega,c⟩),h.zero,fun x h1 _=>h.good x h1,fun x hx=>by have:=h.val x;omega,.inl rfl,h.all⟩
theorem MI.step{xs:List Int}{i j j':Nat}{f:Nat->Int}(h:MI xs i j f)(hi:1<=i)(hj0:j≠0)(hj:f j=0)(hjn:j<xs.length)(he:fnOf xs j=(j':Int)):MI xs i j' (setI f j i):=by
 refine⟨fun x=>?_,?_,fun x h1 h2=>?_,fun x hx=>?_,?_,fun x h1 h2=>?_⟩
 ·unfold setI
  split
  ·rename_i e;subst e;exact .inr ⟨by omega,by omega,hjn⟩
  ·exact h.val x
 ·unfold setI;rw[if_neg (fun e=>hj0 e.symm)];exact h.zero
 ·unfold setI at h1 h2
  split at h1
  ·rename_i e;rw[if_pos e] at h2;exact absurd rfl h2
  ·rename_i e;rw[if_neg e] at h2;exact h.good x h1 h2
 ·unfold setI at hx
  split at hx
  ·rename_i e;subst e
   exact⟨.one he,j',he,.inl rfl⟩
  ·obtain⟨hu,y,hy,hyy⟩:=h.own x hx
   refine⟨hu.trans (.one he),y,hy,.inr ?_⟩
   unfold setI
   rcases hyy with e | e
   ·rw[if_pos e]
   ·split
    ·rfl
    ·exact e
 ·right
  unfold setI
  rcases h.start with e | e
  ·rw[if_pos e]
  ·split
   ·rfl
   ·exact e
 ·unfold setI
  split
  ·omega
  ·exact h.all x h1 h2
theorem MI.next{xs:List Int}{i j:Nat}{f:Nat->Int}(h:MI xs i j f)(hi:1<=i)(hj:j=0∨f j≠0)(hn:f j≠i):MK xs (i+1) f:=by
 have hj0:Up (fnOf xs) j 0:=by
  rcases hj with e | e
  ·rw[e];exact .refl _
  ·exact h.good j e hn
 refine⟨fun x=>(h.val x).imp id (fun⟨a,b,c⟩=>⟨a,by omega,c⟩),h.zero,fun x hx=>?_,fun x h1 h2=>?_⟩
 ·by_cases e:f x=i
  ·exact(h.own x e).1.trans hj0
  ·exact h.good x hx e
 ·by_cases e:x=i
  ·subst e
   rcases h.start with e | e
   ·rcases hj with e2 | e2
    ·omega
    ·rw[e];exact e2
   ·omega
  ·exact h.all x h1 (by omega)
theorem MI.ring{xs:List Int}{i j:Nat}{f:Nat->Int}(h:MI xs i j f)(hi:1<=i)(hj:f j=i):¬gz xs:=by
 intro ht
 have hjn:j<xs.length:=by have:=h.val j;omega
 have:∀ {k z:Nat},Up (fnOf xs) k z->f k=i->f z=i:=by
  intro k z hu
  induction hu with
  | refl=>exact id
  | @step k y a hy _ ih =>
    intro hk
    obtain⟨_,y',hy',hyy⟩:=h.own k hk
    have:y=y':=by rw[hy] at hy';omega
    subst this
    refine ih ?_
    rcases hyy with e | e
    ·rw[e];exact hj
    ·exact e
 have:=this (ht.2.2 j hjn) hj
 have:=h.zero
 omega
theorem MK.tree{xs:List Int}{f:Nat->Int}{i:Nat}(h:MK xs i f)(hi:xs.length<=i)(hl:1<=xs.length/\xs.length<=256)(h0:fnOf xs 0 = -1):gz xs :=
 ⟨hl,h0,fun k hk=>by
  by_cases e:k=0
  ·subst e;exact .refl _
  ·exact h.good k (h.all k (by omega) (by omega))⟩
theorem gz.node{xs:List Int}(h:gz xs){j:Nat}(hj:j<xs.length)(h0:j≠0):inB xs.length (fnOf xs j)=true:=by
 obtain⟨y,hy,hyn⟩:=h.next hj h0
 rw[hy];exact decide_eq_true (by omega)
def mv(n:Nat)(f:Nat->Int):Nat:=unv n (fun x=>decide (f x≠0))
theorem freeN_set{n:Nat}{f:Nat->Int}{j:Nat}{c:Int}(hj:j<n)(h:f j=0)(hc:c≠0):mv n (setI f j c)<mv n f:=by
 unfold mv
 have:=eM n (B:=fun x=>decide (f x≠0)) hj (by simp [h])
 have e:(fun x=>decide (setI f j c x≠0))=setB (fun x=>decide (f x≠0)) j:=by
  funext x
  unfold setI setB
  by_cases e:x=j
  ·rw[if_pos e,if_pos e];exact decide_eq_true hc
  ·rw[if_neg e,if_neg e]
 rw[e];exact this
end
end Go.Proofs.YtjngffgkllakaaaGreatDoor.DD
namespace Go.Proofs.YtjngffgkllakaaaGreatDoor
open List renaming getElem_toArray → zA, getElem_cons_succ → zB, getElem_cons_zero → zC, setIfInBounds_toArray → zD, set_cons_zero → zE, set_cons_succ → zF
open Lib renaming hid → zH
section
open Go.RowKit
theorem gY(v:Value)(n:Nat)(i:Int)(w:World)(hv:∃a cap,v=.slice a n cap)(hn:n<=17592186044416) :
 Calls Tryz.prog 187 #[v,.int .i64 i] w fun e w'=>e=.returned (.bool (GG.inB n i))/\w=w':=by
 obtain⟨a,cap,rfl⟩:=hv
 by_cases h:0<=i/\i<n
 ·have HS:=zH (show GG.inB n i=true from decide_eq_true h)
  obtain⟨h1,h2⟩:=h
  go_enter Tryz.func187,Tryz.ntmps187
  go_wp2_with fail
  go_ret
  exact⟨af HS.out.symm,rfl⟩
 ·have HS:=zH (show GG.inB n i=false from decide_eq_false h)
  by_cases h1:0<=i
  ·have h2:¬i<n:=fun h2=>h ⟨h1,h2⟩
   clear h
   go_enter Tryz.func187,Tryz.ntmps187
   go_wp2_with fail
   go_ret
   exact⟨af HS.out.symm,rfl⟩
  ·clear h
   go_enter Tryz.func187,Tryz.ntmps187
   go_wp2_with fail
   go_ret
   exact⟨af HS.out.symm,rfl⟩
def zeros:Array Value:=Array.replicate 256 (.int .i64 0)
theorem info63:(Tryz.prog.info? 298).map (fun i=>(i.zero,i.size))=some (some (.agg zeros),256):=by kernel_rfl
theorem qV(w:World):(zeroValue 298).run Tryz.prog w=.ok (.agg zeros) w:=by
 have h:=info63
 cases hi:Tryz.prog.info? 298 with
 | none=>rw[hi] at h;cases h
 | some i =>
   rw[hi] at h
   simp only[Option.map_some,Option.some.injEq,Prod.mk.injEq] at h
   simp [zeroValue,typeInfo,hi,h.1]
def fu(W:World)(g:Nat)(f:Nat->Int):Prop:=W.rowIs g 298 256 (fun i=>.int .i64 (f i))
theorem fu.set{W:World}{g:Nat}{f:Nat->Int}(h:fu W g f)(i:Nat)(c:Int):fu (W.setCell ⟨g,i,none⟩ (.int .i64 c)) g (DD.setI f i c):=by
 refine World.rowIs.congr (World.rowIs.set h i (.int .i64 c)) (fun j _=>?_)
 unfold DD.setI
 by_cases e:j=i <;> simp [e]
theorem marks_new(W:World):fu (W.alloc (.cells zeros 298)) W.heap.size (fun _=>0):=by
 have h:=World.rowIs_alloc W zeros 298 (fun _=>.int .i64 0) (fun i hi=>by unfold zeros at hi ⊢;rw[Array.size_replicate] at hi;simp [hi])
 have e:zeros.size=256:=by simp [zeros]
 rw[e] at h
 exact h
set_option maxRecDepth 100000 in
set_option maxHeartbeats 3200000 in
theorem iG(v:Value) (xs:List Int) (w:World) (hv:Row w.heap.size w v xs) (hx:xs.length<=17592186044416) :
 Calls Tryz.prog 186 #[v] w fun e w'=>e=.returned (.bool (DD.treeB xs))/\Below w.heap.size w w':=by
 have HV:=zH hv
 obtain⟨va,vc,rfl⟩:=hv.form
 clear hv
 by_cases hl:1<=xs.length/\xs.length<=256
 ·obtain⟨hl1,hl2⟩:=hl
  obtain⟨vb,vo,rfl,hc0⟩:=HV.out.cellAt (show 0<xs.length by omega)
  rw[<-DD.nP (show 0<xs.length by omega),Nat.add_zero] at hc0
  have hz:=fun(w:World)=>qV w
  by_cases h0:DD.fnOf xs 0 = -1
  ·have H0:=zH h0
   have hn0:(DD.fnOf xs 0 != -1)=false:=by rw[h0];rfl
   have i1:(0:Int)<xs.length:=by omega
   have HM0:=zH (marks_new w)
   have HB0:=zH ((Below.refl w.heap.size w).alloc (Nat.le_refl _) (.cells zeros 298))
   clear h0
   go_enter Tryz.func186,Tryz.ntmps186
   go_wp2_with fail
   clear hz
   go_loopw [4] (fun k wr=>∃(i:Nat) (f:Nat->Int),1<=i/\i<=xs.length/\k=.int .i64 (i:Int)/\fu wr w.heap.size f/\Below w.heap.size w wr/\RowKit.Hid (DD.MK xs i f)) (fun k _=>xs.length-(intOf k).toNat)
   case atStart=>exact⟨1,fun _=>0,Nat.le_refl _,hl1,rfl,HM0.out,HB0.out,zH (DD.mk_first xs)⟩
   case round =>
    obtain⟨i,f,hi1,hi,rfl,hM,hB,HK⟩:=hrel
    clear HM0 HB0
    by_cases hlt:i<xs.length
    ·have HM:=zH hM
     have HB:=zH hB
     have HIB:=zH (HK.out.begin hi1)
     clear hM hB
     go_wp2_with fail
     go_loopg [5] (DD.mv xs.length f) (fun gn k wr=>∃(j:Nat) (f:Nat->Int),j<xs.length/\k=.int .i64 (j:Int)/\fu wr w.heap.size f/\Below w.heap.size w wr/\RowKit.Hid (DD.MI xs i j f/\gn=DD.mv xs.length f))
     case atStart=>exact⟨i,f,hlt,rfl,HM.out,HB.out,zH ⟨HIB.out,rfl⟩⟩
     case round =>
      obtain⟨j,f,hj,rfl,hM2,hB2,HH⟩:=hrel
      clear HM HB HIB HK
      have HM2:=zH hM2
      have HB2:=zH hB2
      clear hM2 hB2
      have hcj:=World.rowIs.cell HM2.out (show j<256 by omega)
      have i2:(0:Int)<=j/\(j:Int)<256:=by omega
      have i3:(0:Int)<=j/\(j:Int)<xs.length:=by omega
      by_cases hgo:j≠0/\f j=0
      ·have hfj:=World.rowIs.frozen HM2.out j
       obtain⟨vb2,vo2,e2,hct⟩:=(HV.out.below HB2.out).cellAt hj
       cases e2
       rw[<-DD.nP hj] at hct
       have h1:((j:Int) != 0)=true:=by rw[bne_iff_ne];have:=hgo.1;omega
       have h2:(f j == 0)=true:=by rw[hgo.2];rfl
       have HM3:=zH (HM2.out.set j (i:Int))
       have HB3:=zH (HB2.out.setCell (p:=⟨w.heap.size,j,none⟩) (Nat.le_refl _) (.int .i64 i))
       have HFR:=zH (DD.freeN_set (c:=(i:Int)) hj hgo.2 (by omega))
       have HST:=zH (fun(j':Nat) (e:DD.fnOf xs j=(j':Int))=>HH.out.1.step hi1 hgo.1 hgo.2 hj e)
       have hct3:(wr.setCell ⟨w.heap.size,j,none⟩ (.int .i64 i)).cell? ⟨vb,vo+j,none⟩=some (.int .i64 (DD.fnOf xs j)):=by
        rw[World.cell?_setCell_other _ _ _ _ (fun e=>by
         have hb:=HV.out
         rcases hb with⟨_,e2⟩ | ⟨b3,o3,c3,e3,hb3,_⟩
         ·have:(ao xs).length=0:=by rw[e2];rfl
          rw[aC] at this;omega
         ·simp at e3 e;omega)]
        exact hct
       have HGN:=zH HH.out.2
       cases hin:GG.inB xs.length (DD.fnOf xs j)
       ·have HIN:=zH hin
        have HS:=zH (show DD.treeB xs=false from DD.jf (fun ht=>by rw[ht.node hj hgo.1] at hin;cases hin))
        clear hin hgo hct HH
        go_wp2_with (go_at_call 187;refine(gY _ xs.length _ _ ⟨_,_,rfl⟩ hx).mono ?_;rintro e w5 ⟨rfl,rfl⟩;rw[HIN.out])
        go_ret
        exact⟨af HS.out.symm,HB3.out⟩
       ·have HIN:=zH hin
        have hin2:=of_decide_eq_true hin
        obtain⟨y,hy⟩:∃y:Nat,DD.fnOf xs j=(y:Int):=⟨(DD.fnOf xs j).toNat,by omega⟩
        have HN:=zH (HST.out y hy)
        rw[hy] at HIN hct3
        have hyn:y<xs.length:=by omega
        clear hin hgo hct HH hin2 hy HST
        go_wp2_with (go_at_call 187;refine(gY _ xs.length _ _ ⟨_,_,rfl⟩ hx).mono ?_;rintro e w5 ⟨rfl,rfl⟩;rw[HIN.out])
        go_roundg (DD.mv xs.length (DD.setI f j (i:Int)))
        case measure=>have:=HGN.out;have:=HFR.out;omega
        case rel=>exact⟨y,_,hyn,rfl,HM3.out,HB3.out,zH ⟨HN.out,rfl⟩⟩
      ·have hex:j=0∨f j≠0:=by
        by_cases e:j=0
        ·exact .inl e
        ·exact .inr (fun e2=>hgo ⟨e,e2⟩)
       by_cases hri:f j=(i:Int)
       ·have HS:=zH (show DD.treeB xs=false from DD.jf (HH.out.1.ring hi1 hri))
        have hj0:((j:Int) != 0)=true:=by
         rw[bne_iff_ne];intro e
         have:=HH.out.1.zero
         rw[show j=0 by omega] at hri;omega
        have h2:(f j == 0)=false:=by rw[hri];exact beq_eq_false_iff_ne.2 (by omega)
        have h3:(f j == (i:Int))=true:=by rw[hri];exact beq_self_eq_true _
        clear hgo hex hri HH
        go_wp2_with fail
        go_ret
        exact⟨af HS.out.symm,HB2.out⟩
       ·have HN:=zH (HH.out.1.next hi1 hex hri)
        have h3:(f j == (i:Int))=false:=beq_eq_false_iff_ne.2 hri
        by_cases e0:j=0
        ·subst e0
         have h1:(((0:Nat):Int) != 0)=false:=rfl
         clear hgo hex hri HH
         go_wp2_with fail
         go_roundw
         case rel=>exact⟨i+1,f,by omega,by omega,by go_num,HM2.out,HB2.out,HN⟩
         case measure=>simp [intOf];omega
        ·have h1:((j:Int) != 0)=true:=by rw[bne_iff_ne];omega
         have h2:(f j == 0)=false:=beq_eq_false_iff_ne.2 (fun e=>hgo ⟨e0,e⟩)
         clear hgo hex hri HH
         go_wp2_with fail
         go_roundw
         case rel=>exact⟨i+1,f,by omega,by omega,by go_num,HM2.out,HB2.out,HN⟩
         case measure=>simp [intOf];omega
    ·have HS:=zH (show DD.treeB xs=true from DD.ft.2 (HK.out.tree (by omega) ⟨hl1,hl2⟩ H0.out))
     have HB:=zH hB
     clear hB hM
     go_wp2_with fail
     go_ret
     exact⟨af HS.out.symm,HB.out⟩
  ·have HS:=zH (show DD.treeB xs=false from DD.jf (fun ht=>h0 ht.2.1))
   have hn0:(DD.fnOf xs 0 != -1)=true:=bne_iff_ne.2 h0
   have i1:(0:Int)<xs.length:=by omega
   clear h0
   go_enter Tryz.func186,Tryz.ntmps186
   go_wp2_with fail
   go_ret
   exact⟨af HS.out.symm,Below.refl _ _⟩
 ·have HS:=zH (show DD.treeB xs=false from DD.jf (fun ht=>hl ht.1))
  by_cases h1:1<=xs.length
  ·have h2:¬xs.length<=256:=fun h2=>hl ⟨h1,h2⟩
   clear hl
   go_enter Tryz.func186,Tryz.ntmps186
   go_wp2_with fail
   go_ret
   exact⟨af HS.out.symm,Below.refl _ _⟩
  ·clear hl
   go_enter Tryz.func186,Tryz.ntmps186
   go_wp2_with fail
   go_ret
   exact⟨af HS.out.symm,Below.refl _ _⟩
end
section
open Go.RowKit
theorem DD.ChR.inv{T:Nat->Int}{n:Nat}{c:Int}{l:List Nat}(h:DD.ChR T n c l):(c = -1/\l=[])∨∃k l',c=((k:Nat):Int)/\l=k :: l'/\k<n/\DD.ChR T n (T k) l':=by
 cases h with
 | nil=>exact .inl ⟨rfl,rfl⟩
 | cons hk h=>exact .inr ⟨_,_,rfl,rfl,hk,h⟩
theorem DD.ChR.bd{T:Nat->Int}{n:Nat}{c:Int}{l:List Nat}(h:DD.ChR T n c l):-1<=c/\c<n:=by
 cases h with
 | nil=>omega
 | cons hk h=>omega
theorem qW(dn:List Nat)(k:Nat):ao ((dn ++ [k]).map Int.ofNat)=ao (dn.map Int.ofNat) ++ [.int .i64 (k:Int)]:=by simp [ao]
def OwnInts(B:Nat)(l:List Int)(e:Ending)(W W':World):Prop:=∃v,e=.returned v/\W'.ownsRow B 3 1 v l.length (ao l)/\Below B W W'
theorem dchain_no{v:Value}{xs:List Int}(a:Int)(W:World)(hv:Row W.heap.size W v xs)(hx:xs.length<=17592186044416)(h:¬(DD.treeB xs=true/\GG.inB xs.length a=true)) :
 Calls Tryz.prog 143 #[v,.int .i64 a] W fun e W'=>OwnInts W.heap.size (DD.chainL xs a) e W W':=by
 have HV:=zH hv
 have HE:=zH (show DD.chainL xs a=[] by unfold DD.chainL;rw[DD.mu h];rfl)
 obtain⟨va,vc,rfl⟩:=hv.form
 clear hv
 cases ht:DD.treeB xs
 ·have HT:=zH ht
  clear h ht
  go_enter Tryz.func143,Tryz.ntmps143
  go_wp2_with (go_at_call 186;refine(iG _ xs _ HV.out hx).mono ?_;rintro e w' ⟨rfl,hB⟩;have HB:=zH hB;clear hB;rw[HT.out])
  go_ret
  exact⟨_,rfl,by rw[HE.out];exact World.ownsRow_nil _ _ _ _,HB.out⟩
 ·have hi:GG.inB xs.length a=false:=by
   cases e:GG.inB xs.length a
   ·rfl
   ·exact absurd ⟨ht,e⟩ h
  have HT:=zH ht
  have HI:=zH hi
  clear h ht hi
  go_enter Tryz.func143,Tryz.ntmps143
  go_wp2_with (first
   | (go_at_call 186;refine(iG _ xs _ HV.out hx).mono ?_;rintro e w' ⟨rfl,hB⟩;have HB:=zH hB;clear hB;rw[HT.out])
   | (go_at_call 187;refine(gY _ xs.length _ _ ⟨_,_,rfl⟩ hx).mono ?_;rintro e w5 ⟨rfl,rfl⟩;rw[HI.out]))
  go_ret
  exact⟨_,rfl,by rw[HE.out];exact World.ownsRow_nil _ _ _ _,HB.out⟩
set_option maxRecDepth 100000 in
set_option maxHeartbeats 1600000 in
theorem qX{v:Value}{xs:List Int}(a:Int)(W:World)(hv:Row W.heap.size W v xs)(hx:xs.length<=17592186044416) :
 Calls Tryz.prog 143 #[v,.int .i64 a] W fun e W'=>OwnInts W.heap.size (DD.chainL xs a) e W W':=by
 by_cases h:DD.treeB xs=true/\GG.inB xs.length a=true
 ·obtain⟨ht,hi⟩:=h
  have hin:=of_decide_eq_true hi
  obtain⟨k,rfl⟩:∃k:Nat,a=(k:Int):=⟨a.toNat,by omega⟩
  have HV:=zH hv
  have HT:=zH ht
  have HI:=zH hi
  have hch:=DD.iF ht (show k<xs.length by omega)
  have HL:=zH (DD.kS xs k)
  have HE:=zH (show DD.chainL xs k=(DD.chainN xs k).map Int.ofNat from rfl)
  generalize DD.chainN xs (k:Int)=full at hch HL HE
  have HCH:=zH hch
  obtain⟨i0,hi0,hz0,hz1,hz2⟩:=info_parts Tryz.infoGInt
  obtain⟨va,vc,rfl⟩:=hv.form
  clear hv ht hi hin hch
  go_enter Tryz.func143,Tryz.ntmps143
  go_wp2_with (first
   | (go_at_call 186;refine(iG _ xs _ HV.out hx).mono ?_;rintro e w' ⟨rfl,hB⟩;have HB:=zH hB;clear hB;rw[HT.out])
   | (go_at_call 187;refine(gY _ xs.length _ _ ⟨_,_,rfl⟩ hx).mono ?_;rintro e w5 ⟨rfl,rfl⟩;rw[HI.out]))
  go_loopg [1,5] full.length (fun gn k o wr=>∃(dn rest:List Nat) (c:Int),k=.int .i64 c/\wr.ownsRow W.heap.size 3 1 o dn.length (ao (dn.map Int.ofNat))/\Below W.heap.size W wr/\RowKit.Hid (full=dn ++ rest/\DD.ChR (DD.fnOf xs) xs.length c rest/\gn=rest.length))
  case atStart=>exact⟨[],full,k,rfl,World.ownsRow_nil _ _ _ _,HB.out,zH ⟨rfl,HCH.out,rfl⟩⟩
  case round =>
   obtain⟨dn,rest,c,rfl,hO,hB,HH⟩:=hrel
   have HO:=zH hO
   have HB:=zH hB
   clear hO hB HCH
   rcases HH.out.2.1.inv with⟨rfl,hr⟩ | ⟨j,rest',rfl,hr,hj,hch⟩
   ·have HF:=zH (show wr.ownsRow W.heap.size 3 1 u5 (DD.chainL xs k).length (ao (DD.chainL xs k)) by
     rw[HE.out,HH.out.1,hr,List.append_nil,List.length_map]
     exact HO.out)
    clear hr HO
    go_wp2_with fail
    go_ret
    exact⟨_,rfl,HF.out,HB.out⟩
   ·have hlen:dn.length<=256:=by
     have h1:=HL.out
     rw[HH.out.1,List.length_append] at h1;omega
    have HN:=zH (show full=(dn ++ [j]) ++ rest'/\gk=rest'.length+1 by
     have h1:=HH.out
     rw[hr] at h1
     exact⟨by rw[h1.1];simp,by rw[h1.2.2];rfl⟩)
    have HCH:=zH hch
    have hbd:=hch.bd
    have hc1:((j:Int) != -1)=true:=by rw[bne_iff_ne];omega
    have i1:(0:Int)<=j/\(j:Int)<xs.length:=by omega
    obtain⟨x,hx2⟩:∃x,x=DD.fnOf xs j:=⟨_,rfl⟩
    rw[<-hx2] at hbd HCH
    obtain⟨vb,vo,rfl,hcv⟩:=HV.out.cellAt hj
    rw[<-DD.nP hj,<-hx2] at hcv
    have HVB:=zH (show vb<W.heap.size by
     rcases HV.out with⟨_,e2⟩ | ⟨b3,o3,c3,e3,hb3,_⟩
     ·have:(ao xs).length=0:=by rw[e2];rfl
      rw[aC] at this;omega
     ·simp at e3;omega)
    have HCV:=zH hcv
    have HXX:=zH hx2
    clear hr hch HH hcv hx2
    go_wp2_with (first
     | (at_builtin
        refine GG.wpList_append_any rfl _ _ 54 rfl W.heap.size 3 i0 (.int .i64 0) 1 8 Tryz.underlying54 hi0 hz0 hz1 hz2 rfl (by decide) u5 _ _ rfl (HO.out.alloc _) (.slice (some ⟨wr.heap.size,0,none⟩) 1 1) 1 [.int .i64 (j:Int)] rfl rfl (.inr ⟨_,_,rfl,GG.aW _ _ _⟩) (by intro u hu;rw[List.mem_singleton.1 hu];rfl) (by unfold maxLen;omega) (by omega) (by have:=HB.out.size;simp;omega) ?_
        intro v1 w2 ho hg
        have HO2:=zH (show w2.ownsRow W.heap.size 3 1 v1 (dn ++ [j]).length (ao ((dn ++ [j]).map Int.ofNat)) by
         rw[qW,List.length_append];exact ho)
        have HB2:=zH ((HB.out.alloc HB.out.size _).grown hg (by have:=HB.out.size;simp;omega) (fun k e=>(HO.out.lt k e).1))
        have hcv:=(HB2.out.cell (p:=⟨vb,vo+j,none⟩) HVB.out).trans HCV.out
        clear ho hg))
    go_roundg rest'.length
    case measure=>have:=HN.out.2;omega
    case rel=>exact⟨dn ++ [j],rest',x,rfl,HO2.out,HB2.out,zH ⟨HN.out.1,HCH.out,rfl⟩⟩
 ·exact dchain_no a W hv hx h
theorem nQ{n₀:Nat}{v:Value}{l:List Int}(x:Int)(W:World)(hv:Row n₀ W v l)(hl:l.length<=9223372036854775807) :
 Calls Tryz.prog 62 #[v,.int .i64 x] W fun e W'=>e=.returned (.bool (decide (x∈l)))/\W'=W:=by
 rw[<-List.contains_eq_mem]
 by_cases h0:0<l.length
 ·obtain⟨b,off,cap,rfl,_,hc⟩:=hv.at h0
  have:=Tryz.slices_Contains_int b off l.length cap l x W (Nat.le_refl _) hl (fun j hj=>by rw[hc j hj,List.getD_eq_getElem?_getD])
  rwa [List.take_of_length_le (Nat.le_refl _)] at this
 ·have:l=[]:=List.length_eq_zero_iff.1 (by omega)
  subst this
  obtain⟨a,cap,rfl⟩:=hv.form
  exact Tryz.slices_Contains_int_empty a cap x W
theorem kT(xs:List Int)(a:Int):(DD.chainL xs a).length<=256:=by
 unfold DD.chainL;rw[List.length_map];exact DD.kS xs a
theorem near_hit{l m:List Int}{j:Nat}(hj:j<l.length)(hno:∀i,i<j->decide (l[i]?.getD 0∈m)=false)(h:decide (l[j]?.getD 0∈m)=true):(l.find? fun x=>decide (x∈m))=some (l[j]?.getD 0):=by
 rw[List.getElem?_eq_getElem hj,Option.getD_some] at h ⊢
 rw[List.find?_eq_some_iff_append]
 refine⟨h,l.take j,l.drop (j+1),?_,fun x hx=>?_⟩
 ·conv=>lhs;rw[<-List.take_append_drop j l]
  rw[List.drop_eq_getElem_cons hj]
 ·obtain⟨i,hi,e⟩:=List.mem_take_iff_getElem.1 hx
  have:=hno i (by omega)
  rw[List.getElem?_eq_getElem (by omega),Option.getD_some,e] at this
  rw[this];rfl
theorem near_none{l m:List Int}(hno:∀i,i<l.length->decide (l[i]?.getD 0∈m)=false):(l.find? fun x=>decide (x∈m))=none:=by
 rw[List.find?_eq_none]
 intro x hx
 obtain⟨i,hi,e⟩:=List.getElem_of_mem hx
 have:=hno i hi
 rw[List.getElem?_eq_getElem hi,Option.getD_some,e] at this
 rw[this];simp
end
section
open Go.RowKit
theorem kU(n:Nat)(p:Nat->Bool):(∃k:Nat,GG.cz n p=(k:Int)/\k<n)∨GG.cz n p = -1:=by
 unfold GG.cz
 cases e:(List.range n).find? p with
 | none=>exact .inr rfl
 | some k=>exact .inl ⟨k,rfl,List.mem_range.1 (List.mem_of_find?_eq_some e)⟩
def gZ(to:List (List Int)):Prop:=gg to = -1/\iC to = -1/\((GG.bz to)[0]?.getD []).length=0
set_option maxRecDepth 100000 in
set_option maxHeartbeats 3200000 in
theorem qY{v:Value}{to:List (List Int)}(W:World)(hv:az W.heap.size W v to)(hx:cd to)(hr:GG.am to=true)(h0:0<to.length) :
 Calls Tryz.prog 88 #[v] W fun e W'=>(∃i k:Nat,e=.returned (.tuple #[.int .i64 i,.int .i64 k])/\(k=0↔gZ to)/\i<to.length)/\Below W.heap.size W W':=by
 have HV:=zH hv
 have HX:=zH hx
 have hl:gg to=GG.cz to.length (fun x=>!GG.reachB to (-1) 0 x):=if_pos hr
 have hs:iC to=GG.cz to.length (fun x=>!GG.endsB to x):=if_pos hr
 have hb:fl to=GG.bz to:=if_pos hr
 have HBE:=zH hb
 have hbl:0<(GG.bz to).length:=by rw[GG.bG];exact h0
 have HBL:=zH hbl
 obtain⟨va,vc,rfl⟩:=hv.form
 clear hv hx hr hb hbl
 rcases kU to.length (fun x=>!GG.reachB to (-1) 0 x) with⟨k,ek,hk⟩ | ek
 ·rw[ek] at hl
  have HL:=zH hl
  have HK:=zH (show (16=0↔gZ to)/\k<to.length from⟨⟨(fun h=>by cases h),(fun h=>by have:=h.1;omega)⟩,hk⟩)
  clear hl hs ek hk
  go_enter Tryz.func88,Tryz.ntmps88
  go_wp2_with (go_at_call 138;refine(gq _ HV.out HX.out).mono ?_;rintro e w' ⟨rfl,hB⟩;have HB:=zH hB;clear hB;rw[HL.out,fI])
  go_ret2
  exact⟨⟨k,16,rfl,HK.out⟩,HB.out⟩
 ·rw[ek] at hl
  have HL:=zH hl
  rcases kU to.length (fun x=>!GG.endsB to x) with⟨k,ek2,hk⟩ | ek2
  ·rw[ek2] at hs
   have HS:=zH hs
   have HK:=zH (show (17=0↔gZ to)/\k<to.length from⟨⟨(fun h=>by cases h),(fun h=>by have:=h.2.1;omega)⟩,hk⟩)
   clear hl hs ek ek2 hk
   go_enter Tryz.func88,Tryz.ntmps88
   go_wp2_with (first
    | (go_at_call 138;refine(gq _ HV.out HX.out).mono ?_;rintro e w' ⟨rfl,hB⟩;have HB:=zH hB;clear hB;rw[HL.out,cE])
    | (go_at_call 139;refine(me _ (HV.out.on HB.out HB.out.size) HX.out).mono ?_;rintro e w2 ⟨rfl,hB2⟩;have HB2:=zH (bstep HB.out hB2);clear hB2;rw[HS.out,fI]))
   go_ret2
   exact⟨⟨k,17,rfl,HK.out⟩,HB2.out⟩
  ·rw[ek2] at hs
   have HS:=zH hs
   have HK:=zH (show ((GG.bz to)[0]?.getD []).length=0->gZ to from fun h=>⟨hl,hs,h⟩)
   clear hl hs ek ek2
   have HZ:=zH h0
   clear h0
   go_enter Tryz.func88,Tryz.ntmps88
   go_upto_region 7 with(first
    | (go_at_call 138;refine(gq _ HV.out HX.out).mono ?_;rintro e w' ⟨rfl,hB⟩;have HB:=zH hB;clear hB;rw[HL.out,cE])
    | (go_at_call 139;refine(me _ (HV.out.on HB.out HB.out.size) HX.out).mono ?_;rintro e w2 ⟨rfl,hB2⟩;have HB2:=zH (bstep HB.out hB2);clear hB2;rw[HS.out,cE]))
   obtain⟨z,ez⟩:∃z,z=((GG.bz to)[0]?.getD []).length:=⟨_,rfl⟩
   by_cases hz:z=0
   ·subst hz
    have HZZ:=zH ez.symm
    clear ez
    go_wp2_with (go_at_call 90;refine(gt _ (HV.out.on HB2.out HB2.out.size) HX.out).mono ?_;rintro e w3 ⟨bv,rfl,hg3,hB3⟩;rw[HBE.out] at hg3;have HB3:=zH (bstep HB2.out hB3);obtain⟨b,off,cap,rfl⟩:=hg3.addr HBL.out;obtain⟨ra,rc,hrow,_⟩:=hg3.at HBL.out;rw[Nat.add_zero,HZZ.out] at hrow;have hbl:=HBL.out;clear hg3 hB3)
    go_ret2
    exact⟨⟨0,0,rfl,⟨fun _=>HK.out HZZ.out,fun _=>rfl⟩,HZ.out⟩,HB3.out⟩
   ·have HZZ:=zH ez.symm
    have HZ1:=zH hz
    clear ez
    go_wp2_with (go_at_call 90;refine(gt _ (HV.out.on HB2.out HB2.out.size) HX.out).mono ?_;rintro e w3 ⟨bv,rfl,hg3,hB3⟩;rw[HBE.out] at hg3;have HB3:=zH (bstep HB2.out hB3);obtain⟨b,off,cap,rfl⟩:=hg3.addr HBL.out;obtain⟨ra,rc,hrow,_⟩:=hg3.at HBL.out;rw[Nat.add_zero,HZZ.out] at hrow;have hbl:=HBL.out;clear hg3 hB3)
    go_ret2
    exact⟨⟨0,18,rfl,⟨(fun h=>by cases h),(fun h=>absurd (HZZ.out.symm.trans h.2.2) HZ1.out)⟩,HZ.out⟩,HB3.out⟩
theorem mw{B B':Nat}{e:TypeId}{k:Nat}{v:Value}{n:Nat}{xs:List Value}{w:World}(h:w.ownsRow B e k v n xs)(hb:B'<=B):w.ownsRow B' e k v n xs:=by
 refine⟨h.1,?_⟩
 rcases h.2 with h2 | ⟨g,cap,cur,h3,h4,h5⟩
 ·exact .inl h2
 ·exact .inr ⟨g,cap,cur,h3,by omega,h5⟩
theorem qZ{B:Nat}{e:TypeId}{k:Nat}{v:Value}{n:Nat}{xs:List Value}{w w':World}(h:w.ownsRow B e k v n xs)(hb:Below w.heap.size w w'):w'.ownsRow B e k v n xs :=
 h.kept (row:=none) ⟨hb.os,hb.tape,hb.output,hb.size,fun j hj _=>hb.block j hj⟩ (by cases hv:v.ownBlock <;> simp)
theorem pr{B:Nat}{w w':World}{vs:List Value}{to:List (List Int)}(h:GG.Rows B w vs to)(hb:Below w.heap.size w w'):GG.Rows B w' vs to :=
 h.grown (b:=none) ⟨hb.os,hb.tape,hb.output,hb.size,fun j hj _=>hb.block j hj⟩ (fun k e=>by cases e)
noncomputable def chainsTo (xs:List Int) (i:Nat):List (List Int):=(List.range i).map fun(j:Nat)=>DD.chainL xs (j:Int)
noncomputable def chainsL (xs:List Int):List (List Int):=chainsTo xs xs.length
theorem lT(xs:List Int)(i:Nat):chainsTo xs i ++ [DD.chainL xs (i:Int)]=chainsTo xs (i+1):=by
 unfold chainsTo
 rw[List.range_succ,List.map_append]
 rfl
theorem fO(xs:List Int)(i:Nat):(chainsTo xs i).length=i:=by unfold chainsTo;rw[List.length_map,List.length_range]
theorem kV(xs:List Int){i:Nat}(hi:i<xs.length):(chainsL xs)[i]?.getD []=DD.chainL xs (i:Int):=by
 unfold chainsL chainsTo
 rw[List.getElem?_map,List.getElem?_range hi]
 rfl
set_option maxRecDepth 100000 in
set_option maxHeartbeats 3200000 in
theorem re{v:Value}{xs:List Int}(W:World)(hv:Row W.heap.size W v xs)(hx:xs.length<=4294967296) :
 Calls Tryz.prog 91 #[v] W fun e W'=>oM W.heap.size (chainsL xs) e W W':=by
 obtain⟨va,vc,rfl⟩:=hv.form
 obtain⟨j0,hj,hy0,hy1,hy2⟩:=info_parts Tryz.infoGRow
 have HV:=zH hv
 clear hv
 go_enter Tryz.func91,Tryz.ntmps91
 go_wp2_with fail
 go_loopw [3,7] (fun o k wr=>∃(i:Nat) (vs:List Value),i<=xs.length/\k=.int .i64 (i:Int)/\wr.ownsRow W.heap.size 54 1 o i vs/\GG.Rows W.heap.size wr vs (chainsTo xs i)/\Below W.heap.size W wr) (fun _ k _=>xs.length-(intOf k).toNat)
 case atStart=>exact⟨0,[],by omega,rfl,World.ownsRow_nil _ _ _ _,GG.Rows.nil _ _,Below.refl _ _⟩
 case round =>
  obtain⟨i,vs,hi',rfl,hO,hR,hB⟩:=hrel
  have HO:=zH hO
  have HR:=zH hR
  have HB:=zH hB
  clear hO hR hB
  by_cases hlt:i<xs.length
  ·have i1:(0:Int)<=i/\(i:Int)<xs.length:=by omega
   have HC:=zH (qX (i:Int) wr (HV.out.on HB.out HB.out.size) (by omega))
   have HLT:=zH hlt
   have HS:=zH (lT xs i)
   have hcl:=kT xs (i:Int)
   obtain⟨ch,ech⟩:∃ch,ch=DD.chainL xs (i:Int):=⟨_,rfl⟩
   rw[<-ech] at HC HS hcl
   clear ech
   go_wp2_with (first
    | (go_at_call 143
       refine HC.out.mono ?_
       rintro e w1 ⟨r,rfl,hr,hb1⟩
       obtain⟨ra,rc,rfl⟩:=GG.ap hr
       have HRO:=zH (mw hr HB.out.size)
       have HOO:=zH (qZ HO.out hb1)
       have HRR:=zH (pr HR.out hb1)
       have HB1:=zH (bstep HB.out hb1)
       clear hr hb1)
    | (at_builtin
       refine GG.wpList_append_any rfl _ _ 32 rfl W.heap.size 54 j0 (.slice none 0 0) 1 24 Tryz.underlying32 hj hy0 hy1 hy2 rfl (by decide) u3 i vs rfl (HOO.out.alloc _) (.slice (some ⟨w1.heap.size,0,none⟩) 1 1) 1 [.slice ra ch.length rc] rfl rfl (.inr ⟨_,_,rfl,GG.aW _ _ _⟩) (by intro u hu;rw[List.mem_singleton.1 hu];rfl) (by unfold maxLen;omega) (by omega) (by have:=HB1.out.size;simp;omega) ?_
       intro v2 w2 ho hg
       have HD:=zH (show w2.ownsRow W.heap.size 54 1 v2 (i+1) (vs ++ [.slice ra ch.length rc])/\GG.Rows W.heap.size w2 (vs ++ [.slice ra ch.length rc]) (chainsTo xs (i+1))/\Below W.heap.size W w2 from⟨ho,by rw[<-HS.out];exact((HRR.out.snoc HRO.out).alloc _).kept (HOO.out.alloc _) (by decide) hg,(HB1.out.alloc HB1.out.size _).grown hg (by have:=HB1.out.size;simp;omega) (fun k e=>(HOO.out.lt k e).1)⟩)
       clear ho hg))
   go_roundw
   case rel=>exact⟨i+1,_,HLT.out,by go_num,HD.out.1,HD.out.2.1,HD.out.2.2⟩
   case measure=>have:=HLT.out;simp [intOf];omega
  ·have e0:i=xs.length:=by omega
   subst e0
   have HE:=zH (show az wr.heap.size wr u3 (chainsL xs) from(show GG.Rows W.heap.size wr vs (chainsL xs) from HR.out).graph (by rw[show (chainsL xs).length=xs.length from fO xs _];exact HO.out))
   go_wp2_with fail
   go_ret
   exact⟨_,rfl,HE.out,HB.out⟩
end
section
open Go.RowKit
open CD (OpP BodyP CodeP ae blAt fnAt)
structure FnM (n₀ Fb:Nat) (b:BodyP) (f:Nat->Int) (back over:List (List Int)) (ba:Option Addr) (bc g:Nat) (kv ov:Value) (W:World):Prop where
 lt:Fb<n₀
 glt:g<n₀
 box:W.heap[Fb]?=some (.cells #[.int .i64 b.pa,.int .i64 b.va,.slice ba b.bs.length bc,.slice (some ⟨g,0,none⟩) b.va.toNat b.va.toNat,kv,ov] 166)
 defs:PN W g b.va.toNat f
 back:az n₀ W kv back
 over:az n₀ W ov over
 bs:aX n₀ W (.slice ba b.bs.length bc) b.bs
theorem FnM.below{n₀ Fb:Nat}{b:BodyP}{f:Nat->Int}{back over:List (List Int)}{ba:Option Addr}{bc g:Nat}{kv ov:Value}{A B:World}(h:FnM n₀ Fb b f back over ba bc g kv ov A)(hb:Below n₀ A B):FnM n₀ Fb b f back over ba bc g kv ov B :=
 ⟨h.lt,h.glt,(hb.block _ h.lt).trans h.box,World.rowIs.of_block h.defs (hb.block _ h.glt),h.back.below hb,h.over.below hb,h.bs.below hb⟩
theorem pt{n₀:Nat}{v:Value}{l:List Int}{W:World}(h:Row n₀ W v l)(hl:l.length<=4000)(x:Int)(d:Nat):Calls Tryz.prog 62 #[v,.int .i64 x] (W.drewN d) fun e w'=>e=.returned (.bool (decide (x∈l)))/\∃k,w'=W.drewN k :=
 (nQ x (W.drewN d) (h.drewN d) (by omega)).mono fun _ _ h=>⟨h.1,d,h.2⟩
def cJ(b:BodyP)(f:Nat->Int)(over:List (List Int))(v bi:Nat)(ki:Int):Bool :=
 if (v:Int)<b.pa then true else if f (v*2)=bi then decide (f (v*2+1)<ki) else decide (f (v*2)∈over[bi]?.getD [])
set_option maxRecDepth 100000 in
set_option maxHeartbeats 3200000 in
theorem mx{n₀ Fb:Nat}{b:BodyP}{f:Nat->Int}{back over:List (List Int)}{ba:Option Addr}{bc g:Nat}{kv ov:Value}(v bi:Nat)(ki:Int)(W:World)(h:FnM n₀ Fb b f back over ba bc g kv ov W)(hn:n₀<=W.heap.size)(hv:(v:Int)<b.va)(hva:b.va<=4000)(hbi:bi<over.length)(hol:over.length<=4000)(hor:(over[bi]?.getD []).length<=4000) :
 Calls Tryz.prog 151 #[.pointer (some ⟨Fb,0,none⟩),.int .i64 v,.agg #[.int .i64 bi,.int .i64 ki]] W fun e W'=>e=.returned (.bool (cJ b f over v bi ki))/\Below W.heap.size W W':=by
 obtain⟨pa,epa⟩:∃pa,pa=b.pa:=⟨_,rfl⟩
 obtain⟨vn,evn⟩:∃vn:Nat,b.va=(vn:Int):=⟨b.va.toNat,by omega⟩
 have hvn:v<vn:=by omega
 have i1:(v:Int)<vn:=by omega
 have i2:vn<=4000:=by omega
 have hbox:=h.box
 rw[evn,Int.toNat_natCast,<-epa] at hbox
 have hd:=h.defs
 rw[evn,Int.toNat_natCast] at hd
 have hlt:=h.lt
 have hglt:=h.glt
 have c0:W.cell? ⟨Fb,0,none⟩=some (.int .i64 pa):=cell_of_row _ _ 0 _ _ _ hbox
 have c3:W.cell? ⟨Fb,3,none⟩=some (.slice (some ⟨g,0,none⟩) vn vn):=cell_of_row _ _ 3 _ _ _ hbox
 have c5:W.cell? ⟨Fb,5,none⟩=some ov:=cell_of_row _ _ 5 _ _ _ hbox
 have d0:W.cell? ⟨g,v*2,none⟩=some (.int .i64 (f (v*2))):=World.rowIs.cell hd (by omega)
 have d1:W.cell? ⟨g,v*2+1,none⟩=some (.int .i64 (f (v*2+1))):=World.rowIs.cell hd (by omega)
 obtain⟨ob,oo,oc,rfl⟩:=h.over.addr (by omega)
 obtain⟨ra,rc,hrow,hr⟩:=h.over.at hbi
 obtain⟨row,erow⟩:∃row,row=over[bi]?.getD []:=⟨_,rfl⟩
 obtain⟨p0,ep0⟩:∃p0,p0=f (v*2):=⟨_,rfl⟩
 obtain⟨p1,ep1⟩:∃p1,p1=f (v*2+1):=⟨_,rfl⟩
 rw[<-ep0] at d0
 rw[<-ep1] at d1
 rw[<-erow] at hrow hr hor
 have HT:=zH (show cJ b f over v bi ki=(if (v:Int)<pa then true else if p0=bi then decide (p1<ki) else decide (p0∈row)) by unfold cJ;rw[ep0,ep1,erow,epa])
 have i3:(bi:Int)<over.length:=by omega
 have i4:(0:Int)<=v/\(0:Int)<=bi:=by omega
 have hlW:Fb<W.heap.size:=by omega
 have hgW:g<W.heap.size:=by omega
 have hoW:ob<W.heap.size:=by
  rcases Nat.lt_or_ge ob W.heap.size with h1 | h1
  ·exact h1
  ·simp [World.cell?,Array.getElem?_eq_none h1] at hrow
 have HR:=zH hr
 have HHN:=zH hn
 rw[HT.out]
 clear h hbox hd hr HT erow ep0 ep1 epa hn hlt hglt
 by_cases h1:(v:Int)<pa
 ·rw[if_pos h1]
  go_enter Tryz.func151,Tryz.ntmps151
  go_wp2_with fail
  go_ret
  exact⟨rfl,((Below.refl _ _).alloc (Nat.le_refl _) _).alloc (by simp) _⟩
 ·rw[if_neg h1]
  by_cases h2:p0=(bi:Int)
  ·rw[if_pos h2]
   subst h2
   go_enter Tryz.func151,Tryz.ntmps151
   go_wp2_with fail
   go_ret
   exact⟨rfl,((Below.refl _ _).alloc (Nat.le_refl _) _).alloc (by simp) _⟩
  ·rw[if_neg h2]
   have HBW:=zH (((Below.refl W.heap.size W).alloc (Nat.le_refl _) (.cells #[.int .i64 bi,.int .i64 ki] 242)).alloc (by simp) (.cells #[.int .i64 p0,.int .i64 p1] 242))
   go_enter Tryz.func151,Tryz.ntmps151
   go_upto_region 6 with fail
   have e5:((W.alloc (.cells #[.int .i64 bi,.int .i64 ki] 242)).alloc (.cells #[.int .i64 p0,.int .i64 p1] 242)).cell? ⟨Fb,5,none⟩=some (.slice (some ⟨ob,oo,none⟩) over.length oc):=(HBW.out.cell (p:=⟨Fb,5,none⟩) hlW).trans c5
   have er:((W.alloc (.cells #[.int .i64 bi,.int .i64 ki] 242)).alloc (.cells #[.int .i64 p0,.int .i64 p1] 242)).cell? ⟨ob,oo+bi,none⟩=some (.slice ra row.length rc):=(HBW.out.cell (p:=⟨ob,oo+bi,none⟩) hoW).trans hrow
   have g1:=cell_of_row _ _ 0 _ _ _ (heap_alloc (heap_alloc_new W (.cells #[.int .i64 bi,.int .i64 ki] 242)) (.cells #[.int .i64 p0,.int .i64 p1] 242))
   have g2:=heap_alloc_new (W.alloc (.cells #[.int .i64 bi,.int .i64 ki] 242)) (.cells #[.int .i64 p0,.int .i64 p1] 242)
   rw[World.size_alloc] at g2
   have g3:=cell_of_row _ _ 0 _ _ _ g2
   have HRW:=zH (HR.out.below (HBW.out.mono HHN.out))
   clear g2 c0 c3 c5 d0 d1 hrow HR
   generalize ((W.alloc (.cells #[.int .i64 bi,.int .i64 ki] 242)).alloc (.cells #[.int .i64 p0,.int .i64 p1] 242))=W2 at e5 er g1 g3 HBW HRW ⊢
   replace g1:W2.cell? ⟨W.heap.size,0,none⟩=some (.int .i64 bi):=g1
   replace g3:W2.cell? ⟨W.heap.size+1,0,none⟩=some (.int .i64 p0):=g3
   go_quiet ((go_at_call 62;exact(pt HRW.out (by omega) p0 _)))
   go_wp2_with fail
   go_ret
   exact⟨rfl,HBW.out.trans ⟨rfl,rfl,rfl,Nat.le_refl _,fun _ _=>rfl⟩⟩
def aH(b:BodyP)(x:OpP)(j i:Nat)(k:Int):Int × Int:=if x.k=3 then (x.ys[j]?.getD 0,((blAt b (x.ys[j]?.getD 0).toNat).length:Int)) else ((i:Int),k)
set_option maxRecDepth 100000 in
set_option maxHeartbeats 3200000 in
theorem kW{n₀ Fb:Nat}{b:BodyP}{f:Nat->Int}{back over:List (List Int)}{ba:Option Addr}{bc g:Nat}{kv ov:Value}(x:OpP)(xa ya:Option Addr)(xc yc j i:Nat)(k:Int)(W:World)(h:FnM n₀ Fb b f back over ba bc g kv ov W)(hn:n₀<=W.heap.size)(hy:Row n₀ W (.slice ya x.ys.length yc) x.ys)(hj:x.k=3->j<x.ys.length/\0<=x.ys[j]?.getD 0/\x.ys[j]?.getD 0<(b.bs.length:Nat))(hb:b.bs.length<=4000) :
 Calls Tryz.prog 152 #[.pointer (some ⟨Fb,0,none⟩),.agg (aF (opC x xa xc ya yc)).toArray,.int .i64 j,.agg #[.int .i64 i,.int .i64 k]] W fun e W'=>e=.returned (.agg #[.int .i64 (aH b x j i k).1,.int .i64 (aH b x j i k).2])/\Below W.heap.size W W':=by
 by_cases h3:x.k=3
 ·obtain⟨h4,h5,h6⟩:=hj h3
  obtain⟨yb,yo,rfl,hyc⟩:=hy.cellAt h4
  have hyl:yb<n₀:=by
   rcases hy with⟨_,e⟩ | ⟨b1,o1,c1,e,hb1,_⟩
   ·have e1:(ao x.ys).length=0:=by rw[e];rfl
    rw[aC] at e1
    omega
   ·have e2:=(Value.slice.inj e).1
    simp at e2
    omega
  obtain⟨fr,efr⟩:∃fr:Nat,x.ys[j]?.getD 0=(fr:Int):=⟨(x.ys[j]?.getD 0).toNat,by omega⟩
  have HN:=zH (show aH b x j i k=((fr:Int),((blAt b fr).length:Int)) by unfold aH;rw[if_pos h3,efr,Int.toNat_natCast])
  rw[efr] at hyc h5 h6
  have hfr:fr<b.bs.length:=by omega
  obtain⟨bb,bo,ba',bc',rfl,hbb,hbc,hops⟩:=h.bs.at hfr
  obtain⟨bl,ebl⟩:∃bl,bl=(blAt b fr).length:=⟨_,rfl⟩
  rw[show (b.bs[fr]?.getD []).length=bl from ebl.symm] at hbc
  rw[<-ebl] at HN
  have hbox2:W.cell? ⟨Fb,2,none⟩=some (.slice (some ⟨bb,bo,none⟩) b.bs.length bc):=cell_of_row _ _ 2 _ _ _ h.box
  have hlt:=h.lt
  obtain⟨yl,eyl⟩:∃yl,yl=x.ys.length:=⟨_,rfl⟩
  obtain⟨xk,exk⟩:∃xk,xk=x.k:=⟨_,rfl⟩
  unfold opC aF
  rw[HN.out]
  simp only
  rw[<-eyl] at h4
  rw[<-eyl,h3]
  have HB3:=zH ((((Below.refl W.heap.size W).alloc (Nat.le_refl _) (.cells #[.int .u8 3,.int .u8 x.o,.int .i64 x.d,.int .i64 x.r,.int .i64 x.a,.slice xa x.xs.length xc,.slice (some ⟨yb,yo,none⟩) yl yc,.int .i64 x.n,.int .i64 x.t] 56)).alloc (by simp) (.cells #[.int .i64 i,.int .i64 k] 242)).alloc (by simp;omega) (.cells #[.int .i64 0,.int .i64 0] 242))
  have f1:=cell_of_row _ _ 6 _ _ _ (heap_alloc (heap_alloc (heap_alloc_new W (.cells #[.int .u8 3,.int .u8 x.o,.int .i64 x.d,.int .i64 x.r,.int .i64 x.a,.slice xa x.xs.length xc,.slice (some ⟨yb,yo,none⟩) yl yc,.int .i64 x.n,.int .i64 x.t] 56)) (.cells #[.int .i64 i,.int .i64 k] 242)) (.cells #[.int .i64 0,.int .i64 0] 242))
  have g2:=heap_alloc_new ((W.alloc (.cells #[.int .u8 3,.int .u8 x.o,.int .i64 x.d,.int .i64 x.r,.int .i64 x.a,.slice xa x.xs.length xc,.slice (some ⟨yb,yo,none⟩) yl yc,.int .i64 x.n,.int .i64 x.t] 56)).alloc (.cells #[.int .i64 i,.int .i64 k] 242)) (.cells #[.int .i64 0,.int .i64 0] 242)
  rw[World.size_alloc,World.size_alloc] at g2
  have i1:(0:Int)<=j/\(j:Int)<yl:=by omega
  have i2:(fr:Int)<b.bs.length:=by omega
  clear hops efr h h3 hy hj ebl exk HN eyl
  go_enter Tryz.func152,Tryz.ntmps152
  go_upto_region 3 with fail
  have HG:=zH g2
  have f2:=(HB3.out.cell (p:=⟨yb,yo+j,none⟩) (by show yb<_;omega)).trans hyc
  have f3:=(HB3.out.cell (p:=⟨Fb,2,none⟩) (by show Fb<_;omega)).trans hbox2
  have f4:=(HB3.out.cell (p:=⟨bb,bo+fr,none⟩) (by show bb<_;omega)).trans hbc
  clear g2 hyc hbox2 hbc
  generalize (((W.alloc (.cells #[.int .u8 3,.int .u8 x.o,.int .i64 x.d,.int .i64 x.r,.int .i64 x.a,.slice xa x.xs.length xc,.slice (some ⟨yb,yo,none⟩) yl yc,.int .i64 x.n,.int .i64 x.t] 56)).alloc (.cells #[.int .i64 i,.int .i64 k] 242)).alloc (.cells #[.int .i64 0,.int .i64 0] 242))=W3 at HB3 f1 HG f2 f3 f4 ⊢
  replace f1:W3.cell? ⟨W.heap.size,6,none⟩=some (.slice (some ⟨yb,yo,none⟩) yl yc):=f1
  have z0:W3.cell? ⟨W.heap.size+1+1,0,none⟩=some (.int .i64 0):=cell_of_row _ _ 0 _ _ _ HG.out
  have z1:W3.cell? ⟨W.heap.size+1+1,1,none⟩=some (.int .i64 0):=cell_of_row _ _ 1 _ _ _ HG.out
  have z2:W3.frozen? ⟨W.heap.size+1+1,0,none⟩=false:=by simp [World.frozen?,HG.out]
  have z3:W3.frozen? ⟨W.heap.size+1+1,1,none⟩=false:=by simp [World.frozen?,HG.out]
  go_wp2_with fail
  have y0:((W3.setCell ⟨W.heap.size+1+1,0,none⟩ (.int .i64 fr)).setCell ⟨W.heap.size+1+1,1,none⟩ (.int .i64 bl)).cell? ⟨W.heap.size+1+1,0,none⟩=some (.int .i64 fr) :=
   (World.cell?_setCell_other _ _ _ _ (by simp)).trans (World.cell?_setCell_same' _ _ _ (by rw[z0];rfl))
  have y1:((W3.setCell ⟨W.heap.size+1+1,0,none⟩ (.int .i64 fr)).setCell ⟨W.heap.size+1+1,1,none⟩ (.int .i64 bl)).cell? ⟨W.heap.size+1+1,1,none⟩=some (.int .i64 bl) :=
   World.cell?_setCell_same' _ _ _ (by rw[World.cell?_setCell_other _ _ _ _ (by simp),z1];rfl)
  refine bodyPost_ret (v:=.agg #[.int .i64 fr,.int .i64 bl]) ?_ rfl ?_
  ·simp [results,Tryz.f152,go_sem,y0,y1]
  ·exact⟨rfl,(HB3.out.setCell (p:=⟨W.heap.size+1+1,0,none⟩) (by simp;omega) _).setCell (p:=⟨W.heap.size+1+1,1,none⟩) (by simp;omega) _⟩
 ·have HN:=zH (show aH b x j i k=((i:Int),k) from if_neg h3)
  have HB:=zH h3
  clear h hy hj
  rw[HN.out]
  unfold opC aF
  obtain⟨xk,exk⟩:∃xk,xk=x.k:=⟨_,rfl⟩
  rw[<-exk] at h3
  go_enter Tryz.func152,Tryz.ntmps152
  have HBW:=zH (((Below.refl W.heap.size W).alloc (Nat.le_refl _) (.cells #[.int .u8 x.k,.int .u8 x.o,.int .i64 x.d,.int .i64 x.r,.int .i64 x.a,.slice xa x.xs.length xc,.slice ya x.ys.length yc,.int .i64 x.n,.int .i64 x.t] 56)).alloc (by simp) (.cells #[.int .i64 i,.int .i64 k] 242))
  have g2:=heap_alloc_new ((W.alloc (.cells #[.int .u8 x.k,.int .u8 x.o,.int .i64 x.d,.int .i64 x.r,.int .i64 x.a,.slice xa x.xs.length xc,.slice ya x.ys.length yc,.int .i64 x.n,.int .i64 x.t] 56)).alloc (.cells #[.int .i64 i,.int .i64 k] 242)) (.cells #[.int .i64 i,.int .i64 k] 242)
  rw[World.size_alloc,World.size_alloc] at g2
  have g3:=cell_of_row _ _ 0 _ _ _ g2
  have g4:=cell_of_row _ _ 1 _ _ _ g2
  go_wp2_with fail
  refine bodyPost_ret (v:=.agg #[.int .i64 i,.int .i64 k]) ?_ rfl ?_
  ·simp [results,Tryz.f152,go_sem,g3,g4]
  ·exact⟨rfl,HBW.out.alloc (by simp;omega) _⟩
end
end Go.Proofs.YtjngffgkllakaaaGreatDoor
namespace Go.Proofs
open Go.Shelf
def Tryz.lays189_ren:Go.Shelf.Ren:=⟨fun | 189=>33 | 125=>60 | 257=>59 | 128=>103 | 129=>104 | 294=>94 | 295=>95 | 296=>96 | 297=>97 | 298=>98 | 299=>99 | 216=>100 | 300=>101 | 301=>102 | 328=>153 | 329=>154 | 330=>155 | 331=>156 | 332=>157 | 215=>158 | 343=>192 | n=>n,fun | 28=>54 | 3=>3 | 46=>129 | 0=>0 | 51=>176 | 53=>178 | 4=>4 | 183=>170 | 182=>169 | 131=>99 | 5=>5 | 9=>9 | 218=>252 | 222=>256 | 228=>283 | 229=>93 | n=>n,fun | n=>n⟩
theorem Tryz.lays189:Go.Proofs.Lays.n189 Tryz.prog Tryz.lays189_ren:={
 mixed:=by kernel_rfl
 f125:=Tryz.func60.trans (congrArg some (by kernel_rfl))
 f128:=Tryz.func103.trans (congrArg some (by kernel_rfl))
 f129:=Tryz.func104.trans (congrArg some (by kernel_rfl))
 f189:=Tryz.func33.trans (congrArg some (by kernel_rfl))
 f215:=Tryz.func158.trans (congrArg some (by kernel_rfl))
 f216:=Tryz.func100.trans (congrArg some (by kernel_rfl))
 f257:=Tryz.func59.trans (congrArg some (by kernel_rfl))
 f294:=Tryz.func94.trans (congrArg some (by kernel_rfl))
 f295:=Tryz.func95.trans (congrArg some (by kernel_rfl))
 f296:=Tryz.func96.trans (congrArg some (by kernel_rfl))
 f297:=Tryz.func97.trans (congrArg some (by kernel_rfl))
 f298:=Tryz.func98.trans (congrArg some (by kernel_rfl))
 f299:=Tryz.func99.trans (congrArg some (by kernel_rfl))
 f300:=Tryz.func101.trans (congrArg some (by kernel_rfl))
 f301:=Tryz.func102.trans (congrArg some (by kernel_rfl))
 f328:=Tryz.func153.trans (congrArg some (by kernel_rfl))
 f329:=Tryz.func154.trans (congrArg some (by kernel_rfl))
 f330:=Tryz.func155.trans (congrArg some (by kernel_rfl))
 f331:=Tryz.func156.trans (congrArg some (by kernel_rfl))
 f332:=Tryz.func157.trans (congrArg some (by kernel_rfl))
 f343:=Tryz.func192.trans (congrArg some (by kernel_rfl))
 t0:=Tryz.underlying0
 a0:=Tryz.isAgg0
 z0:=Tryz.sizeOf0
 v0:=Tryz.zeroValue0
 t3:=Tryz.underlying3
 a3:=Tryz.isAgg3
 z3:=Tryz.sizeOf3
 v3:=Tryz.zeroValue3
 t4:=Tryz.underlying4
 a4:=Tryz.isAgg4
 z4:=Tryz.sizeOf4
 v4:=Tryz.zeroValue4
 t5:=Tryz.underlying5
 a5:=Tryz.isAgg5
 z5:=Tryz.sizeOf5
 v5:=Tryz.zeroValue5
 t9:=Tryz.underlying9
 a9:=Tryz.isAgg9
 z9:=Tryz.sizeOf9
 v9:=Tryz.zeroValue9
 t28:=Tryz.underlying54
 a28:=Tryz.isAgg54
 z28:=Tryz.sizeOf54
 v28:=Tryz.zeroValue54
 t46:=Tryz.underlying129
 a46:=Tryz.isAgg129
 z46:=Tryz.sizeOf129
 v46:=Tryz.zeroValue129
 t51:=Tryz.underlying176
 a51:=Tryz.isAgg176
 z51:=Tryz.sizeOf176
 v51:=Tryz.zeroValue176
 t53:=Tryz.underlying178
 a53:=Tryz.isAgg178
 z53:=Tryz.sizeOf178
 v53:=Tryz.zeroValue178
 t131:=Tryz.underlying99
 a131:=Tryz.isAgg99
 z131:=Tryz.sizeOf99
 v131:=Tryz.zeroValue99
 t182:=Tryz.underlying169
 a182:=Tryz.isAgg169
 z182:=Tryz.sizeOf169
 v182:=Tryz.zeroValue169
 t183:=Tryz.underlying170
 a183:=Tryz.isAgg170
 z183:=Tryz.sizeOf170
 v183:=Tryz.zeroValue170
 t218:=Tryz.underlying252
 a218:=Tryz.isAgg252
 z218:=Tryz.sizeOf252
 v218:=Tryz.zeroValue252
 t222:=Tryz.underlying256
 a222:=Tryz.isAgg256
 z222:=Tryz.sizeOf256
 v222:=Tryz.zeroValue256
 t228:=Tryz.underlying283
 a228:=Tryz.isAgg283
 z228:=Tryz.sizeOf283
 v228:=Tryz.zeroValue283
 t229:=Tryz.underlying93
 a229:=Tryz.isAgg93
 z229:=Tryz.sizeOf93
 v229:=Tryz.zeroValue93 }
open Go.Sort Go.RowKit in
theorem Tryz.slices_Sort_int(blk off cap:Nat)(zs:List Int)(w:World)(hH:Holds (Value.int .i64) w blk off zs.toArray)(hblk:blk<w.heap.size)(hsz:zs.length<4611686018427387904) :
 Calls Tryz.prog 33 #[.slice (some ⟨blk,off,none⟩) zs.length cap] w fun e w' =>
  e=.returned (.tuple #[])/\∃n os,w'=grow (putRow (Value.int .i64) (Sort.ahead w n) blk off (zs.mergeSort fun x y=>decide (x<=y)).toArray) os:=Any.slices_Sort_int Tryz.lays189 blk off cap zs w hH hblk hsz
open Go.RowKit Go.Sort in
theorem Tryz.slices_Sort_int_none(p:Option Addr)(cap:Nat)(w:World) :
 Calls Tryz.prog 33 #[.slice p 0 cap] w fun e w'=>e=.returned (.tuple #[])/\w'=w:=Any.slices_Sort_int_none Tryz.lays189 p cap w
end Go.Proofs
namespace Go.Proofs.YtjngffgkllakaaaGreatDoor
open List renaming getElem_toArray → zA, getElem_cons_succ → zB, getElem_cons_zero → zC, setIfInBounds_toArray → zD, set_cons_zero → zE, set_cons_succ → zF
open Lib renaming hid → zH
section
open Go.RowKit Go.Shelf
attribute [local go_sem] Oper.semAt_some
set_option maxRecDepth 100000 in
set_option maxHeartbeats 1600000 in
theorem vals1_in(zs:List Int)(n₀ l Bs:Nat)(a:Option Addr)(c:Nat)(n:Nat)(hn:1<=n)(J Jx:List Int->World->Prop)
 (hY:∀pre x W,J pre W->pre.length<zs.length->YieldAt Fence.wide (n-1) Tryz.prog l #[.int .i64 x] W fun e W' =>
  (e=.returned (.bool true)/\J (pre ++ [x]) W'/\bu n₀ Bs W W')∨(e=.returned (.bool false)/\Jx (pre ++ [x]) W'))
 (W:World) (hBs:W.heap[Bs]?=some (.cells #[.slice a zs.length c] 54)) (hr:Row n₀ W (.slice a zs.length c) zs) (hl:zs.length<=4096) (h0:J [] W) :
 CallsIn Fence.wide n Tryz.prog 223 #[.func (.yield l) #[] #[],.pointer (some ⟨Bs,0,none⟩)] W fun e W'=>(∃v,e=.returned v) /\
  ((∃ys,ys=zs/\J ys W')∨(∃pre,pre <+: zs/\Jx pre W')):=by
 have HR:=zH hr
 have hb:W.cell? ⟨Bs,0,none⟩=some (.slice a zs.length c):=cell_of_row _ _ 0 _ _ _ hBs
 have i0:(zs.length:Int)<=4096:=by omega
 clear hr hBs
 refine callsIn_of_wp Tryz.func223 rfl trivial ?_ rfl
 simp only[Tryz.ntmps223,List.size_toArray,List.length_cons,List.length_nil,Nat.reduceAdd,Nat.reduceSub,Array.replicate_succ,Array.replicate_zero,List.push_toArray,List.append_toArray,List.nil_append,List.cons_append]
 gi_wp2
 gi_loopw [7] (fun k wr=>∃i:Nat,i<=zs.length/\k=.int .i64 (i:Int)/\RowKit.Hid (J (zs.take i) wr/\bu n₀ Bs W wr)) (fun k _=>zs.length-(intOf k).toNat)
 case atStart=>exact⟨0,Nat.zero_le _,rfl,zH ⟨h0,bu.refl _ _ _⟩⟩
 case round =>
  clear hb
  obtain⟨w4,rfl⟩:∃w4,w4=wr:=⟨_,rfl⟩
  obtain⟨i,hi,rfl,HI⟩:=hrel
  by_cases hlt:i<zs.length
  ·obtain⟨zb,zo,rfl,hz⟩:=HR.out.cellAt hlt
   have hzl:zb<n₀:=by
    rcases HR.out with⟨_,e⟩ | ⟨b1,o1,c1,e,hb1,_⟩
    ·have e1:(ao zs).length=0:=by rw[e];rfl
     rw[aC] at e1
     omega
    ·have e2:=(Value.slice.inj e).1
     simp at e2
     omega
   have hz4:w4.cell? ⟨zb,zo+i,none⟩=some (.int .i64 (zs[i]?.getD 0)):=(World.cell?_of_block (a:=⟨zb,zo+i,none⟩) (HI.out.2.2 zb (.inl hzl))).trans hz
   obtain⟨x,ex⟩:∃x,x=zs[i]?.getD 0:=⟨_,rfl⟩
   rw[<-ex] at hz4
   have HT:=zH (show zs.take i ++ [x]=zs.take (i+1) by rw[List.take_succ_eq_append_getElem hlt,ex,List.getElem?_eq_getElem hlt];rfl)
   have HLT:=zH hlt
   have i1:(0:Int)<=i/\(i:Int)<zs.length:=by omega
   obtain⟨fn,tmps,assign,body,hy,hR⟩:=hY (zs.take i) x w4 HI.out.1 (by rw[List.length_take];omega)
   clear hz ex hzl hlt
   gi_wp2
   refine hR.mono ?_
   rintro e W3 (⟨rfl,hJ3,hk3⟩ | ⟨rfl,hJx3⟩)
   ·have HN3:=zH (show J (zs.take (i+1)) W3/\bu n₀ Bs W W3 from⟨by rw[<-HT.out];exact hJ3,HI.out.2.trans hk3⟩)
    clear hJ3 hk3
    gi_wp2
    go_roundw
    case rel=>exact⟨i+1,HLT.out,by go_num,HN3⟩
    case measure=>have:=HLT.out;simp [intOf];omega
   ·gi_wp2
    refine bodyPost_ret (results_none rfl _ _ _) rfl ?_
    exact⟨⟨_,rfl⟩,.inr ⟨_,by rw[HT.out];exact List.take_prefix _ _,hJx3⟩⟩
  ·have e0:i=zs.length:=by omega
   subst e0
   gi_wp2
   go_end0
   exact⟨⟨_,rfl⟩,.inl ⟨zs,rfl,by have:=HI.out.1;rwa [List.take_length] at this⟩⟩
theorem vals_any(a:Option Addr)(len cap:Nat)(w:World):Calls Tryz.prog 191 #[.slice a len cap] w fun e w'=>e=.returned (.func (.func 223) #[] #[.pointer (some ⟨w.heap.size,0,none⟩)])/\w'=w.alloc (.cells #[.slice a len cap] 54):=by
 go_enter Tryz.func191,Tryz.ntmps191
 go_wp2
 go_ret
 exact⟨rfl,rfl⟩
theorem rg(zs:List Int)(n₀ Bs:Nat)(a:Option Addr)(c n:Nat)(hn:1<=n)(w:World)(hs:n₀<=w.heap.size)(hBs:w.heap[Bs]?=some (.cells #[.slice a zs.length c] 54))(hr:Row n₀ w (.slice a zs.length c) zs)(hl:zs.length<=4096) :
 SeqStopsK Fence.wide n Tryz.prog 223 #[.pointer (some ⟨Bs,0,none⟩)] (fun x:Int=>#[Value.int .i64 x]) (bu n₀ Bs) (fun ys=>ys=zs) (fun pre=>pre <+: zs) zs.length w:=fun l J Jx W hW hJ _ hY h0 =>
 vals1_in zs n₀ l Bs a c n hn J Jx hY W ((hW.block Bs (Array.getElem?_eq_some_iff.1 hBs).1).trans hBs) (hr.below (hW.mono hs)) hl h0
theorem rh{W w1:World}{R:Nat}{e:TypeId}{size:Nat}{v:Value}{k:Nat}{xs:List Value}{tmp:Obj}
 (hrow:W.ownsRow R e size v k xs) (hR:R<=W.heap.size) (hgrow:(W.alloc tmp).grownBy w1 v.ownBlock):Below R W w1/\KeepsOthers W w1:=by
 refine⟨((Below.refl R W).alloc hR tmp).grown hgrow (by simp;omega) (fun j ej=>(hrow.lt j ej).1),(KeepsOthers.alloc W tmp).trans (KeepsOthers.of_grownBy hgrow fun j o ej hj=>?_)⟩
 rcases (hrow.alloc tmp).2 with⟨rfl,_⟩ | ⟨g,cap,cur,rfl,_,hgb,_⟩
 ·simp [Value.ownBlock] at ej
 ·obtain rfl:g=j:=by simpa [Value.ownBlock] using ej
  rw[hgb] at hj;cases hj;rfl
theorem nR{W:World}{R B:Nat}{e:TypeId}{size:Nat}{v:Value}{k:Nat}{xs:List Value}(h:W.ownsRow R e size v k xs)(hB:B<R)(u:Value):(W.setCell ⟨B,0,none⟩ u).ownsRow R e size v k xs :=
 h.kept (grownBy_setCell' W B u) (by
  rcases h.2 with⟨rfl,_⟩ | ⟨g,cap,cur,rfl,hg,_⟩
  ·exact .inl rfl
  ·refine .inr fun e'=>?_
   have:g=B:=by simpa [Value.ownBlock] using e'
   omega)
structure ApI (b:Nat) (pre:List Int) (W:World):Prop where
 h:∃v,Boxed W b 54 v/\W.ownsRow (b+1) 3 1 v pre.length (pre.map (Value.int .i64))/\True
 z:b+1<=W.heap.size
theorem ApI.own(b:Nat):Own (ApI b):=fun s A B row hs hg hr =>
 ⟨holdsRow_own (b+1) b 54 3 1 (fun pre:List Int=>pre.length) (fun pre=>pre.map (Value.int .i64)) (fun _ _=>True) s A B row hs.h hg hr,Nat.le_trans hs.z hg.size⟩
theorem bu.of_below{n₀ Bs R:Nat}{A B:World}(h:Below R A B)(hn:n₀<=R)(hb:Bs<R):bu n₀ Bs A B:=⟨h.size,fun k hk=>h.block k (by omega)⟩
set_option maxRecDepth 100000 in
set_option maxHeartbeats 3200000 in
theorem ri(zs:List Int)(n₀ Bs:Nat)(a:Option Addr)(c:Nat)(w:World)(hs:n₀<=w.heap.size)(hBs:w.heap[Bs]?=some (.cells #[.slice a zs.length c] 54))(hr:Row n₀ w (.slice a zs.length c) zs)(hl:zs.length<=4096) :
 Calls Tryz.prog 231 #[.slice none 0 0,.func (.func 223) #[] #[.pointer (some ⟨Bs,0,none⟩)]] w fun e w'=>∃v,e=.returned v/\w'.ownsRow w.heap.size 3 1 v zs.length (ao zs)/\Below w.heap.size w w':=by
 have HR:=zH hr
 have HBs:=zH hBs
 have hBl:=(Array.getElem?_eq_some_iff.1 hBs).1
 clear hr hBs
 refine(callsIn_wide (n:=6)).1 ?_
 refine callsIn_of_wp_marks Tryz.func231 rfl trivial ?_ rfl
 simp only[Tryz.ntmps231,List.size_toArray,List.length_cons,List.length_nil,Nat.reduceAdd,Nat.reduceSub,Array.replicate_succ,Array.replicate_zero,List.push_toArray,List.append_toArray,List.nil_append,List.cons_append]
 refine wpIn_mono (Q:=gU _) ?_ eE
 obtain⟨i0,hi,hz0,hz1,hz2⟩:=info_parts Tryz.infoGInt
 gi_wp2
 have hB1:=(Below.refl w.heap.size w).alloc (Nat.le_refl _) (.cells #[.slice none 0 0] 54)
 have hX:=Boxed.new w 54 (.slice none 0 0)
 have hsz:(w.alloc (.cells #[.slice none 0 0] 54)).heap.size=w.heap.size+1:=World.size_alloc _ _
 have hR1:=(HR.out.below (hB1.mono hs))
 have hBs1:=heap_alloc HBs.out (.cells #[.slice none 0 0] 54)
 generalize w.alloc (.cells #[.slice none 0 0] 54)=W1 at hB1 hX hsz hR1 hBs1 ⊢
 refine wpIn_rangeFunc_ownF rfl (by omega) (gf:=223) (lb:=#[.pointer (some ⟨Bs,0,none⟩)]) rfl trivial (enters_of Tryz.func223 (by kernel_rfl) rfl)
  (rg zs n₀ Bs a c _ (by omega) W1 (by omega) hBs1 hR1 hl) (fun h k=>h.trans k) (nN (by omega) (by omega)) (Below.refl _ _) (fun _=>rfl)
  (fun pre W=>ApI w.heap.size pre W/\Below w.heap.size w W)
  (fun _ _ _=>False)
  (OwnFrom.and ((ApI.own _).from _) (ownFrom_below (Nat.le_refl _) (by omega)))
  (fun _ _ _ _ _ hs _ _=>hs)
  ⟨⟨⟨_,hX,World.ownsRow_nil _ _ _ _,trivial⟩,by omega⟩,hB1⟩
  (fun x=>{ tmps:=#[.slice none 0 0,.func (.func 223) #[] #[.pointer (some ⟨Bs,0,none⟩)],.pointer (some ⟨w.heap.size,0,none⟩),undef,.slice none 0 0,.int .i64 x,.func (.func 223) #[] #[.pointer (some ⟨Bs,0,none⟩)],.int .i64 x,undef,undef,undef,undef,undef],defers:=[] }) ?assign ?body ?done ?stop
 case assign =>
  intro l x W K hK
  gi_wp2
  exact hK
 case body =>
  rintro l pre x W ⟨⟨⟨v,hv,hrow,_⟩,hzz⟩,hB⟩ hlt
  obtain⟨a',cap,hva⟩:∃a cap,v=.slice a pre.length cap:=by
   rcases hrow.2 with⟨rfl,h0⟩ | ⟨g,cap,_,rfl,_⟩
   ·exact⟨none,0,by rw[h0]⟩
   ·exact⟨_,_,rfl⟩
  subst hva
  have hvc:=hv.cell
  gi_wp2_with (gi_at_builtin;refine wpListIn_append_own _ rfl _ _ 54 rfl (w.heap.size+1) 3 i0 (.int .i64 0) 1 8 Tryz.underlying54 hi hz0 hz1 hz2 rfl (by decide) _ _ _ rfl (hrow.alloc _) ⟨W.heap.size,0,none⟩ 1 1 [.int .i64 x] rfl rfl (nG _ _ _) (by simp [Value.oneCell']) (by unfold maxLen;omega) (by omega) (by first | (simp;done) | (simp;omega)) ?_;intro v' w3 hown' hgrow _;obtain⟨g',cap',rfl⟩:=ownsRow_succ hown';obtain⟨hb3,hk3⟩:=rh hrow hzz hgrow;have hv3:Boxed w3 w.heap.size 54 (.slice a' pre.length cap):=(hb3.block _ (by omega)).trans hv;have hc1:=hv3.cell;have hf1:=hv3.frozen;clear hvc hgrow)
  have hrow3:w3.ownsRow (w.heap.size+1) 3 1 (.slice (some ⟨g',0,none⟩) (pre.length+1) cap') (pre ++ [x]).length ((pre ++ [x]).map (Value.int .i64)):=by
   rw[List.length_append,List.map_append];exact hown'
  refine⟨hk3.trans (KeepsOthers.setCell _ _ _),(bu.of_below hb3 (by omega) (by omega)).setCell hs (by omega) _ _,⟨⟨_,hv3.set _,nR hrow3 (by omega) _,trivial⟩,by have:=hb3.size;simp;omega⟩,hB.trans ((hb3.mono (by omega)).setCell (p:=⟨w.heap.size,0,none⟩) (by simp) _)⟩
 case done =>
  rintro D ys W hD rfl ⟨⟨⟨v,hv,hrow,_⟩,hzz⟩,hB⟩ hK
  obtain⟨a',cap,rfl⟩:∃a cap,v=.slice a ys.length cap:=by
   rcases hrow.2 with⟨rfl,h0⟩ | ⟨g,cap,_,rfl,_⟩
   ·exact⟨none,0,by rw[h0]⟩
   ·exact⟨_,_,rfl⟩
  have hvc:=hv.cell
  gi_wp2
  refine⟨by simp,.inl ⟨_,_,rfl,run_takeDeferred hK,?_⟩⟩
  exact⟨_,results_tmp rfl _ _ _,_,rfl,mw (ownsRow_putObj hrow _ hK rfl) (by omega),hB.trans (belowK_b (w:=w) (Nat.le_refl _) W D _ _ (by omega) hK rfl rfl)⟩
 case stop =>
  rintro D c pre W _ _ h _
  exact h.elim
theorem pu(zs:List Int)(n₀ Bs:Nat)(a:Option Addr)(c:Nat)(w:World)(hs:n₀<=w.heap.size)(hBs:w.heap[Bs]?=some (.cells #[.slice a zs.length c] 54))(hr:Row n₀ w (.slice a zs.length c) zs)(hl:zs.length<=4096) :
 Calls Tryz.prog 222 #[.func (.func 223) #[] #[.pointer (some ⟨Bs,0,none⟩)]] w fun e w'=>∃v,e=.returned v/\w'.ownsRow w.heap.size 3 1 v zs.length (ao zs)/\Below w.heap.size w w':=by
 have HA:=zH (ri zs n₀ Bs a c w hs hBs hr hl)
 clear hBs hr
 go_enter Tryz.func222,Tryz.ntmps222
 go_wp2_with (go_at_call 231;refine HA.out.mono ?_;rintro e w1 ⟨v,rfl,ho,hb⟩;obtain⟨va,vc,rfl⟩:=GG.ap ho)
 go_ret
 exact⟨_,rfl,ho,hb⟩
def de(zs:List Int):List Int:=zs.mergeSort fun x y=>decide (x<=y)
theorem dt(zs:List Int):(de zs).length=zs.length:=by unfold de;exact List.length_mergeSort zs
set_option maxHeartbeats 1600000 in
theorem rj(zs:List Int)(n₀ Bs:Nat)(a:Option Addr)(c:Nat)(w:World)(hs:n₀<=w.heap.size)(hBs:w.heap[Bs]?=some (.cells #[.slice a zs.length c] 54))(hr:Row n₀ w (.slice a zs.length c) zs)(hl:zs.length<=4096) :
 Calls Tryz.prog 190 #[.func (.func 223) #[] #[.pointer (some ⟨Bs,0,none⟩)]] w fun e w'=>∃v,e=.returned v/\w'.ownsRow w.heap.size 3 1 v (de zs).length (ao (de zs))/\Below w.heap.size w w':=by
 have HA:=zH (pu zs n₀ Bs a c w hs hBs hr hl)
 clear hBs hr
 go_enter Tryz.func190,Tryz.ntmps190
 go_upto_region 2 with(go_at_call 222;refine HA.out.mono ?_;rintro e w1 ⟨v,rfl,ho,hb⟩;obtain⟨va,vc,rfl⟩:=GG.ap ho)
 rcases ho.2 with⟨h0,hz⟩ | ⟨g,cap,cur,h0,hbase,hgb,r1,r2,r3,r4⟩
 ·have e0:zs=[]:=List.eq_nil_of_length_eq_zero hz
  subst e0
  have hN:Calls Tryz.prog 33 #[.slice va ([]:List Int).length vc] w1 fun e w'=>e=.returned (.tuple #[])/\w'=w1:=Tryz.slices_Sort_int_none va vc w1
  simp only[List.length_nil] at hN
  go_wp2_with (go_at_call 33;refine hN.mono ?_;rintro e w2 ⟨rfl,rfl⟩)
  go_ret
  exact⟨_,rfl,by rw[show de []=[] from List.eq_nil_of_length_eq_zero (dt [])];exact ho,hb⟩
 ·cases h0
  have cS:=Tryz.slices_Sort_int g 0 vc zs w1 (holds_of_blockI hgb (by simpa [ao] using r4)) (Array.getElem?_eq_some_iff.1 hgb).1 (by omega)
  have HS:=zH cS
  clear cS
  go_wp2_with (go_at_call 33;refine HS.out.mono ?_;rintro e w2 ⟨rfl,nn,os,rfl⟩)
  go_ret
  exact⟨_,rfl,by rw[dt];exact ownsRow_sortedI (by simp) hbase hgb r1 r2 r3,hb.grown (grownBy_sortedI _) hb.size (fun j hj=>by cases hj;exact hbase)⟩
theorem rk(a b:Value)(xs ys:List Int)(n:Nat)(w:World)(ha:Row n w a xs)(hb:Row n w b ys)(hx:xs.length<=17592186044416)(hy:ys.length<=17592186044416) :
 Calls Tryz.prog 149 #[a,b] w fun e w'=>e=.returned (.bool (decide (xs=ys)))/\∃d,w'=w.drewN d:=by
 obtain⟨aa,ca,rfl⟩:=ha.form
 obtain⟨ab,cb,rfl⟩:=hb.form
 by_cases hl:xs.length=ys.length
 ·by_cases h0:xs.length=0
  ·have e1:xs=[]:=List.eq_nil_of_length_eq_zero h0
   have e2:ys=[]:=List.eq_nil_of_length_eq_zero (by omega)
   subst e1 e2
   exact(Tryz.slices_Equal_int_empty aa ab ca 0 cb w (by omega)).mono fun e w' h=>⟨by rw[h.1];rfl,0,h.2⟩
  ·obtain⟨b1,o1,c1,e1,_,hc1⟩:=ha.at (by omega)
   obtain⟨b2,o2,c2,e2,_,hc2⟩:=hb.at (by omega)
   cases e1
   cases e2
   exact(Tryz.slices_Equal_int b1 o1 xs.length ca b2 o2 ys.length cb xs ys w (by omega) (by omega) (by omega) (by omega) (fun j hj=>by rw[hc1 j hj,List.getD_eq_getElem?_getD]) (fun j hj=>by rw[hc2 j hj,List.getD_eq_getElem?_getD])).mono fun e w' h=>⟨by rw[h.1,List.take_of_length_le (by omega),List.take_of_length_le (by omega)];congr 2;exact(Bool.eq_iff_iff.2 (by simp)),h.2⟩
 ·have hne:((xs.length:Int) != (ys.length:Int))=true:=by rw[bne_iff_ne];omega
  have HE:=zH (show decide (xs=ys)=false from decide_eq_false (fun e=>hl (by rw[e])))
  rw[HE.out]
  clear ha hb hl
  go_enter Tryz.func149,Tryz.ntmps149
  go_wp2_with fail
  go_ret
  exact⟨rfl,0,rfl⟩
theorem just_any(a b:Value)(xs ys:List Int)(n₀:Nat)(w:World)(hn:n₀<=w.heap.size)(ha:Row n₀ w a xs)(hb:Row n₀ w b ys)(hx:xs.length<=4096)(hy:ys.length<=4096) :
 Calls Tryz.prog 150 #[a,b] w fun e w'=>e=.returned (.bool (decide (de xs=ys)))/\Below w.heap.size w w':=by
 obtain⟨aa,ca,rfl⟩:=ha.form
 obtain⟨ab,cb,rfl⟩:=hb.form
 have HB1:=zH ((Below.refl w.heap.size w).alloc (Nat.le_refl _) (.cells #[.slice aa xs.length ca] 54))
 have HS:=zH (rj xs n₀ w.heap.size aa ca (w.alloc (.cells #[.slice aa xs.length ca] 54)) (by simp;omega) (heap_alloc_new w _) (ha.below (HB1.out.mono hn)) hx)
 have HRB:=zH hb
 have HNN:=zH hn
 clear ha hb
 go_enter Tryz.func150,Tryz.ntmps150
 go_wp2_with (first
  | (go_at_call 191;refine(vals_any _ _ _ _).mono ?_;rintro e w1 ⟨rfl,rfl⟩)
  | (go_at_call 190;refine HS.out.mono ?_;rintro e w2 ⟨v,rfl,ho,hb2⟩
     have HO:=zH ho
     have HB2:=zH (bstep HB1.out hb2)
     obtain⟨va,vc,rfl⟩:=GG.ap ho
     clear ho hb2)
  | (go_at_call 149;refine(rk _ _ (de xs) ys _ _ (aM HO.out) ((HRB.out.below (HB2.out.mono HNN.out)).mono (Nat.le_trans HNN.out HB2.out.size)) (by rw[dt];omega) (by omega)).mono ?_;rintro e w3 ⟨rfl,d,rfl⟩))
 go_ret
 exact⟨rfl,HB2.out.trans ⟨rfl,rfl,rfl,Nat.le_refl _,fun _ _=>rfl⟩⟩
end
end Go.Proofs.YtjngffgkllakaaaGreatDoor
