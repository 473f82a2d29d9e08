/- A part of a proof: laws that the last text uses. -/
import Derived.Test.YtjngffgkllakaaaGreatDoorZ04
import Derived.Test.YtjngffgkllakaaaGreatDoorZ05
import Derived.Test.YtjngffgkllakaaaGreatDoorZ06
import Derived.Test.YtjngffgkllakaaaGreatDoorZ07
import Derived.Test.YtjngffgkllakaaaGreatDoorZ09
import Derived.Deep.Cut
import Derived.StillTailTactics
import Derived.Deep.DeepCutAuto
import Derived.Deep.RegionWith
set_option linter.unusedSimpArgs false
set_option linter.unusedVariables false
namespace Go.Proofs.YtjngffgkllakaaaGreatDoor
open List renaming getElem_toArray → zA, getElem_cons_succ → zB, getElem_cons_zero → zC, setIfInBounds_toArray → zD, set_cons_zero → zE, set_cons_succ → zF
open Lib renaming hid → zH
section
open Go.RowKit
structure CSt (w W:World) (x0 x1 x2 x3:Value) (d:Int):Prop where
 below:Below w.heap.size w W
 obj:W.heap[w.heap.size]?=some (.cells #[x0,x1,x2,x3,.int .i64 d] 26)
 res:W.heap[w.heap.size+1]?=some (.cells #[.slice none 0 0,.slice none 0 0,.slice none 0 0,.slice none 0 0,.int .i64 0] 26)
theorem CSt.lt{w W:World}{x0 x1 x2 x3:Value}{d:Int}(h:CSt w W x0 x1 x2 x3 d):w.heap.size+1<W.heap.size:=(Array.getElem?_eq_some_iff.1 h.res).1
theorem CSt.start(w:World)(x0 x1 x2 x3:Value)(d:Int):CSt w ((w.alloc (.cells #[x0,x1,x2,x3,.int .i64 d] 26)).alloc (.cells #[.slice none 0 0,.slice none 0 0,.slice none 0 0,.slice none 0 0,.int .i64 0] 26)) x0 x1 x2 x3 d where
 below:=((Below.refl _ _).alloc (Nat.le_refl _) _).alloc (by simp) _
 obj:=by show ((w.heap.push _).push _)[w.heap.size]?=_;simp [Array.getElem?_push]
 res:=new_block (w:=w.alloc (.cells #[x0,x1,x2,x3,.int .i64 d] 26)) rfl (by simp)
theorem CSt.cells{w W:World}{x0 x1 x2 x3:Value}{d:Int}(h:CSt w W x0 x1 x2 x3 d):W.cell? ⟨w.heap.size,0,none⟩=some x0/\W.cell? ⟨w.heap.size,1,none⟩=some x1/\W.cell? ⟨w.heap.size,2,none⟩=some x2/\W.cell? ⟨w.heap.size,3,none⟩=some x3/\W.cell? ⟨w.heap.size,4,none⟩=some (.int .i64 d):=dj h.obj
theorem jj{w W w1:World}{x0 x1 x2 x3 v':Value}{d:Int}{e:TypeId}{c size n:Nat}{xs:List Value}(h:CSt w W x0 x1 x2 x3 d)(hg:(W.alloc (.cells #[] e)).grownBy w1 (some W.heap.size))(ho:w1.ownsRow (w.heap.size+2) e size v' (0+n) ([] ++ xs)) :
 Below w.heap.size w (w1.setCell ⟨w.heap.size,c,none⟩ v')/\(w1.setCell ⟨w.heap.size,c,none⟩ v').heap[w.heap.size]?=some (.cells ((#[x0,x1,x2,x3,.int .i64 d]:Array Value).setIfInBounds c v') 26) /\
 (∀k,k<W.heap.size->k≠w.heap.size->(w1.setCell ⟨w.heap.size,c,none⟩ v').heap[k]?=W.heap[k]?)/\(w1.setCell ⟨w.heap.size,c,none⟩ v').ownsRow (w.heap.size+2) e size v' n xs:=by
 have hl:=h.lt
 have hk:∀k,k<W.heap.size->w1.heap[k]?=W.heap[k]?:=fun k hk=>(hg.block k (by simp;omega) (by intro e;have:=Option.some.inj e;omega)).trans (Below.heap_alloc W _ k hk)
 rw[Nat.zero_add,List.nil_append] at ho
 refine⟨?_,set_obj (c:=c) v' ((hk _ (by omega)).trans h.obj),fun k hk' hne=>(Below.heap_setCell _ _ _ _ hne).trans (hk k hk'),?_⟩
 ·exact((h.below.alloc h.below.size _).grown hg (by simp;omega) (fun k hk=>by cases hk;omega)).setCell (p:=⟨w.heap.size,c,none⟩) (Nat.le_refl _) _
 ·refine own_of_block ho fun k hk'=>Below.heap_setCell _ _ _ _ (fun e=>?_)
  have:=(own_block ho hk').1
  have e2:_=w.heap.size:=e
  omega
theorem kN{W W':World}{B e n size:Nat}{v:Value}{xs:List Value}(h:W.ownsRow (B+2) e size v n xs)(hk:∀k,k<W.heap.size->k≠B->W'.heap[k]?=W.heap[k]?):W'.ownsRow (B+2) e size v n xs :=
 own_of_block h fun k hk'=>hk k (own_block h hk').2.1 (by have:=(own_block h hk').1;omega)
theorem nums_src{k:IntKind}{n₀:Nat}{W:World}{v:Value}{xs:List Int}(h:Nums k n₀ W v xs)(hn:∀c,v=.slice none 0 c->c=0) :
 v=.slice none 0 0/\xs.length=0∨∃ad c,v=.slice (some ad) xs.length c/\∀j u,(xs.map (Value.int k))[j]?=some u->W.cell? (ad.add j)=some u:=by
 rcases h with⟨⟨a,cap,rfl⟩,rfl⟩ | ⟨b,off,cap,rfl,_,_,hc⟩
 ·cases a with
  | none=>rw[hn cap rfl];exact .inl ⟨rfl,rfl⟩
  | some x=>exact .inr ⟨x,cap,rfl,fun j u hj=>by simp at hj⟩
 ·refine .inr ⟨_,cap,rfl,fun j u hj=>?_⟩
  rw[List.getElem?_map] at hj
  cases hj':xs[j]? with
  | none=>rw[hj'] at hj;cases hj
  | some q =>
    rw[hj'] at hj
    obtain⟨hl,_⟩:=List.getElem?_eq_some_iff.1 hj'
    have:=hc j hl
    rw[hj'] at this
    rw[Addr.add_lit]
    exact this.trans (by simpa using hj)
structure PolIn (w:World) (v0 v1 v2 v3:Value) (st:PSt) (S:List Int):Prop where
 s0:Strs w.heap.size w v0 st.L
 s1:Nums .u64 w.heap.size w v1 S
 s2:cT w.heap.size w v2 st.I
 s3:cT w.heap.size w v3 st.O
 n1:∀c,v1=.slice none 0 c->c=0
 l0:st.L.length*16<=140737488351232
 l1:S.length*8<=140737488351232
 l2:st.I.length*24<=140737488351232
 l3:st.O.length*24<=140737488351232
theorem PolIn.below{w W:World}{v0 v1 v2 v3:Value}{st:PSt}{S:List Int}(h:PolIn w v0 v1 v2 v3 st S)(hb:Below w.heap.size w W):PolIn W v0 v1 v2 v3 st S :=
 { h with s0:=fE h.s0 hb,s1:=ji h.s1 hb,s2:=cV h.s2 hb,s3:=cV h.s3 hb }
theorem own0{W:World}{B e size n:Nat}{v:Value}{xs:List Value}(h:W.ownsRow B e size v (0+n) ([] ++ xs)):W.ownsRow B e size v n xs:=by
 rw[Nat.zero_add,List.nil_append] at h;exact h
def N1(v:Value):Prop:=∀x0 x1 x2 x3 d,v=.agg #[x0,x1,x2,x3,d]->∀c,x1=.slice none 0 c->c=0
theorem n1_row{W:World}{B e size n:Nat}{u0 u1 u2 u3 d:Value}{xs:List Value}(h:W.ownsRow B e size u1 n xs):N1 (.agg #[u0,u1,u2,u3,d]):=by
 intro x0 x1 x2 x3 d' e c ec
 cases e
 rcases h.2 with⟨rfl,_⟩ | ⟨g,cap,cur,rfl,_⟩
 ·cases ec;rfl
 ·cases ec
set_option maxRecDepth 100000 in
set_option maxHeartbeats 6400000 in
theorem tA(v0 v1 v2 v3:Value)(st:PSt)(S:List Int)(w:World)(h:PolIn w v0 v1 v2 v3 st S) :
 Calls Tryz.prog 7 #[.agg #[v0,v1,v2,v3,.int .i64 st.D]] w fun e w'=>(∃v,e=.returned v/\PolV w' v st S/\N1 v)/\Below w.heap.size w w':=by
 obtain⟨i0,hi,hz0,hz1,hz2⟩:=info_parts Tryz.infoStr6
 obtain⟨j0,hj,hy0,hy1,hy2⟩:=info_parts Tryz.infoU646
 obtain⟨k0,hk,hx0,hx1,hx2⟩:=info_parts Tryz.infoChan6
 have H:=zH h
 have HC0:=zH (CSt.start w v0 v1 v2 v3 st.D)
 have l0:=h.l0
 have l1:=h.l1
 have l2:=h.l2
 have l3:=h.l3
 clear h
 go_enter Tryz.func7,Tryz.ntmps7
 go_upto_region 1 with(fail)
 generalize (w.alloc (.cells #[v0,v1,v2,v3,.int .i64 st.D] 26)).alloc (.cells #[.slice none 0 0,.slice none 0 0,.slice none 0 0,.slice none 0 0,.int .i64 0] 26)=W0 at HC0
 have hz:=HC0.out.lt
 obtain⟨g0,g1,g2,g3,g4⟩:=HC0.out.cells
 have ga:=(World.cell?_of_block (a:=⟨w.heap.size,0,none⟩) (Below.heap_alloc W0 (.cells #[] 9) w.heap.size (by omega))).trans g0
 go_upto_region 2 with(first
  | (at_builtin
     go_loud (
     refine wpList_append_any rfl _ _ 22 rfl (w.heap.size+2) 9 i0 (.string ⟨#[]⟩) 1 16 Tryz.underlying22 hi hz0 hz1 hz2 rfl (by decide) (.slice (some ⟨W0.heap.size,0,none⟩) 0 0) 0 [] rfl (kf W0 (by omega) (by decide) rfl) v0 st.L.length (st.L.map Value.string) rfl (by rw[List.length_map,Nat.mul_one]) ((fE H.out.s0 (HC0.out.below.alloc HC0.out.below.size _)).src) (by intro u hu;obtain⟨q,_,rfl⟩:=List.mem_map.1 hu;rfl) (by unfold maxLen;omega) (by omega) (by simp;omega) ?_
     intro v' w1 ho hg
     obtain⟨b0,c0,rfl⟩:=(iI (own0 ho)).form
     have HN:=zH (jj (c:=0) HC0.out hg ho)
     have hq:=(hg.block w.heap.size (by simp;omega) (by intro e;have:=Option.some.inj e;simp [Value.ownBlock] at this;omega)).trans ((Below.heap_alloc W0 (.cells #[] 9) w.heap.size (by omega)).trans HC0.out.obj)
     obtain⟨q0,q1,q2,q3,q4⟩:=dj hq
     have f:=bq (k:=0) hq
     clear hg ho hq)))
 clear g0 g1 g2 g3 g4 ga q0 q1 q2 q3 q4 f
 generalize w1.setCell ⟨w.heap.size,0,none⟩ (.slice b0 st.L.length c0)=W1 at HN ⊢
 have HC1:=zH (show CSt w W1 (.slice b0 st.L.length c0) v1 v2 v3 st.D from { below:=HN.out.1,obj:=HN.out.2.1,res:=(HN.out.2.2.1 _ hz (by omega)).trans HC0.out.res })
 have HO0:=zH HN.out.2.2.2
 clear HN HC0 hz
 have hz:=HC1.out.lt
 obtain⟨g0,g1,g2,g3,g4⟩:=HC1.out.cells
 have ga:=(World.cell?_of_block (a:=⟨w.heap.size,1,none⟩) (Below.heap_alloc W1 (.cells #[] 178) w.heap.size (by omega))).trans g1
 go_upto_region 3 with(first
  | (at_builtin
     go_loud (
     refine wpList_append_any rfl _ _ 23 rfl (w.heap.size+2) 178 j0 (.int .u64 0) 1 8 Tryz.underlying23 hj hy0 hy1 hy2 rfl (by decide) (.slice (some ⟨W1.heap.size,0,none⟩) 0 0) 0 [] rfl (kf W1 (by omega) (by decide) rfl) v1 S.length (S.map (Value.int .u64)) rfl (by rw[List.length_map,Nat.mul_one]) (nums_src (ji H.out.s1 (HC1.out.below.alloc HC1.out.below.size _)) H.out.n1) (by intro u hu;obtain⟨q,_,rfl⟩:=List.mem_map.1 hu;rfl) (by unfold maxLen;omega) (by omega) (by simp;omega) ?_
     intro v' w1 ho hg
     obtain⟨b1,c1,rfl⟩:=(lh (own0 ho)).form
     have HN:=zH (jj (c:=1) HC1.out hg ho)
     have hq:=(hg.block w.heap.size (by simp;omega) (by intro e;have:=Option.some.inj e;simp [Value.ownBlock] at this;omega)).trans ((Below.heap_alloc W1 (.cells #[] 178) w.heap.size (by omega)).trans HC1.out.obj)
     obtain⟨q0,q1,q2,q3,q4⟩:=dj hq
     have f:=bq (k:=1) hq
     clear hg ho hq)))
 clear g0 g1 g2 g3 g4 ga q0 q1 q2 q3 q4 f
 generalize w1.setCell ⟨w.heap.size,1,none⟩ (.slice b1 S.length c1)=W2 at HN ⊢
 have HC2:=zH (show CSt w W2 (.slice b0 st.L.length c0) (.slice b1 S.length c1) v2 v3 st.D from { below:=HN.out.1,obj:=HN.out.2.1,res:=(HN.out.2.2.1 _ hz (by omega)).trans HC1.out.res })
 have HO0_:=zH (kN HO0.out HN.out.2.2.1)
 clear HO0
 have HO0:=HO0_
 clear HO0_
 have HO1:=zH HN.out.2.2.2
 clear HN HC1 hz
 have hz:=HC2.out.lt
 obtain⟨g0,g1,g2,g3,g4⟩:=HC2.out.cells
 have ga:=(World.cell?_of_block (a:=⟨w.heap.size,2,none⟩) (Below.heap_alloc W2 (.cells #[] 196) w.heap.size (by omega))).trans g2
 go_upto_region 4 with(first
  | (at_builtin
     go_loud (
     refine wpList_append_any rfl _ _ 24 rfl (w.heap.size+2) 196 k0 (.agg #[.string ⟨#[]⟩,.int .i64 0]) 2 24 Tryz.underlying24 hk hx0 hx1 hx2 rfl (by decide) (.slice (some ⟨W2.heap.size,0,none⟩) 0 0) 0 [] rfl (kf W2 (by omega) (by decide) rfl) v2 st.I.length (di st.I) rfl (jx _) ((cV H.out.s2 (HC2.out.below.alloc HC2.out.below.size _)).src) (mB _) (by unfold maxLen;omega) (by omega) (by simp;omega) ?_
     intro v' w1 ho hg
     obtain⟨b2,c2,rfl⟩:=(fC (own0 ho)).form
     have HN:=zH (jj (c:=2) HC2.out hg ho)
     have hq:=(hg.block w.heap.size (by simp;omega) (by intro e;have:=Option.some.inj e;simp [Value.ownBlock] at this;omega)).trans ((Below.heap_alloc W2 (.cells #[] 196) w.heap.size (by omega)).trans HC2.out.obj)
     obtain⟨q0,q1,q2,q3,q4⟩:=dj hq
     have f:=bq (k:=2) hq
     clear hg ho hq)))
 clear g0 g1 g2 g3 g4 ga q0 q1 q2 q3 q4 f
 generalize w1.setCell ⟨w.heap.size,2,none⟩ (.slice b2 st.I.length c2)=W3 at HN ⊢
 have HC3:=zH (show CSt w W3 (.slice b0 st.L.length c0) (.slice b1 S.length c1) (.slice b2 st.I.length c2) v3 st.D from { below:=HN.out.1,obj:=HN.out.2.1,res:=(HN.out.2.2.1 _ hz (by omega)).trans HC2.out.res })
 have HO0_:=zH (kN HO0.out HN.out.2.2.1)
 clear HO0
 have HO0:=HO0_
 clear HO0_
 have HO1_:=zH (kN HO1.out HN.out.2.2.1)
 clear HO1
 have HO1:=HO1_
 clear HO1_
 have HO2:=zH HN.out.2.2.2
 clear HN HC2 hz
 have hz:=HC3.out.lt
 obtain⟨g0,g1,g2,g3,g4⟩:=HC3.out.cells
 have ga:=(World.cell?_of_block (a:=⟨w.heap.size,3,none⟩) (Below.heap_alloc W3 (.cells #[] 196) w.heap.size (by omega))).trans g3
 go_upto_region 5 with(first
  | (at_builtin
     go_loud (
     refine wpList_append_any rfl _ _ 24 rfl (w.heap.size+2) 196 k0 (.agg #[.string ⟨#[]⟩,.int .i64 0]) 2 24 Tryz.underlying24 hk hx0 hx1 hx2 rfl (by decide) (.slice (some ⟨W3.heap.size,0,none⟩) 0 0) 0 [] rfl (kf W3 (by omega) (by decide) rfl) v3 st.O.length (di st.O) rfl (jx _) ((cV H.out.s3 (HC3.out.below.alloc HC3.out.below.size _)).src) (mB _) (by unfold maxLen;omega) (by omega) (by simp;omega) ?_
     intro v' w1 ho hg
     obtain⟨b3,c3,rfl⟩:=(fC (own0 ho)).form
     have HN:=zH (jj (c:=3) HC3.out hg ho)
     have hq:=(hg.block w.heap.size (by simp;omega) (by intro e;have:=Option.some.inj e;simp [Value.ownBlock] at this;omega)).trans ((Below.heap_alloc W3 (.cells #[] 196) w.heap.size (by omega)).trans HC3.out.obj)
     obtain⟨q0,q1,q2,q3,q4⟩:=dj hq
     have f:=bq (k:=3) hq
     clear hg ho hq)))
 clear g0 g1 g2 g3 g4 ga q0 q1 q2 q3 q4 f
 generalize w1.setCell ⟨w.heap.size,3,none⟩ (.slice b3 st.O.length c3)=W4 at HN ⊢
 have HC4:=zH (show CSt w W4 (.slice b0 st.L.length c0) (.slice b1 S.length c1) (.slice b2 st.I.length c2) (.slice b3 st.O.length c3) st.D from { below:=HN.out.1,obj:=HN.out.2.1,res:=(HN.out.2.2.1 _ hz (by omega)).trans HC3.out.res })
 have HO0_:=zH (kN HO0.out HN.out.2.2.1)
 clear HO0
 have HO0:=HO0_
 clear HO0_
 have HO1_:=zH (kN HO1.out HN.out.2.2.1)
 clear HO1
 have HO1:=HO1_
 clear HO1_
 have HO2_:=zH (kN HO2.out HN.out.2.2.1)
 clear HO2
 have HO2:=HO2_
 clear HO2_
 have HO3:=zH HN.out.2.2.2
 clear HN HC3 hz
 have HR:=zH (polv_set5 HC4.out.res HO0.out (lh HO1.out) HO2.out HO3.out)
 have HD:=zH (tx HC4.out.res (.slice b0 st.L.length c0) (.slice b1 S.length c1) (.slice b2 st.I.length c2) (.slice b3 st.O.length c3) (.int .i64 st.D))
 obtain⟨g0,g1,g2,g3,g4⟩:=HC4.out.cells
 obtain⟨r0,r1,r2,r3,r4⟩:=dj HC4.out.res
 have f0:=bq (k:=0) HC4.out.res
 have f1:=bq (k:=1) HC4.out.res
 have f2:=bq (k:=2) HC4.out.res
 have f3:=bq (k:=3) HC4.out.res
 have f4:=bq (k:=4) HC4.out.res
 go_wp2_with fail
 obtain⟨d0,d1,d2,d3,d4⟩:=HD.out
 unfold set5 at d0 d1 d2 d3 d4
 refine bodyPost_ret (v:=.agg #[.slice b0 st.L.length c0,.slice b1 S.length c1,.slice b2 st.I.length c2,.slice b3 st.O.length c3,.int .i64 st.D]) (by simp [results,Tryz.results7,go_sem,d0,d1,d2,d3,d4]) rfl ?_
 exact⟨⟨_,rfl,HR.out,n1_row HO1.out⟩,tw HC4.out.below (Nat.le_succ _) _ _ _ _ _⟩
theorem kq(v0 v1 v2 v3:Value)(st:PSt)(S:List Int)(w:World)(h:PolIn w v0 v1 v2 v3 st S) :
 Calls Tryz.prog 7 #[.agg #[v0,v1,v2,v3,.int .i64 st.D]] w fun e w'=>(∃u0 u1 u2 u3,e=.returned (.agg #[u0,u1,u2,u3,.int .i64 st.D])/\PolIn w' u0 u1 u2 u3 st S)/\Below w.heap.size w w' :=
 (tA v0 v1 v2 v3 st S w h).mono fun e w' ⟨⟨v,h1,⟨u0,u1,u2,u3,e2,p0,p1,p2,p3⟩,hn⟩,h3⟩=>⟨⟨u0,u1,u2,u3,by rw[h1,e2],⟨p0,p1,p2,p3,hn _ _ _ _ _ e2,h.l0,h.l1,h.l2,h.l3⟩⟩,h3⟩
end
section
open Go.RowKit
open CD (OpP BodyP CodeP aj blAt fnAt)
def gS(D x:Int):Bool:=decide (x<0∨D<=x)
def fw(c:CodeP)(D:Int):List Bool:=(entL (toC c) c.mn0).map (gS D)
def cF(D:Int)(xs:List Int)(i:Nat):List Bool:=(xs.take i).map (gS D)
theorem rm(D:Int){xs:List Int}{i:Nat}(h:i<xs.length):bt (cF D xs (i+1))=bt (cF D xs i) ++ [.bool (gS D (xs[i]?.getD 0))]:=by
 unfold cF bt
 rw[List.take_add_one,List.getElem?_eq_getElem h,List.map_append,List.map_append]
 rfl
theorem mP(D:Int)(xs:List Int):cF D xs xs.length=xs.map (gS D):=by unfold cF;rw[List.take_length]
theorem kO{c:CodeP}(h:c.fs.length<=100):cQ (toC c):=by
 refine⟨by rw[lC];omega,fun row hr=>?_⟩
 unfold toC at hr
 obtain⟨i,_,rfl⟩:=List.mem_map.1 hr
 unfold rowC
 rw[List.length_map]
 have:=List.length_filter_le (fun(f:Nat)=>decide ((f:Int)∈dN (fnAt c i))) (List.range c.fs.length)
 rw[List.length_range] at this
 omega
theorem pO(tt:List (List Int))(m:Int):(entL tt m).length<=tt.length:=by
 unfold entL
 split
 ·rw[List.length_map,List.length_range];exact Nat.le_refl _
 ·exact Nat.zero_le _
theorem rp{V Z:World}{B:Nat}{v v1:Value}{xs:List Int}{D:Int}{i:Nat}(h:i<xs.length)(hO:V.ownsRow B 4 1 v i (bt (cF D xs i))){A:World}(hB:Below B A V)(hs:B<=V.heap.size){o:Obj}(ho:Z.ownsRow B 4 1 v1 (i+1) (bt (cF D xs i) ++ [.bool (gS D (xs[i]?.getD 0))]))(hg:(V.alloc o).grownBy Z v.ownBlock) :
 Z.ownsRow B 4 1 v1 (i+1) (bt (cF D xs (i+1)))/\Below B A Z :=
 ⟨by rw[rm D h];exact ho,(hB.alloc hs _).grown hg (by simp;omega) (fun k e=>(hO.lt k e).1)⟩
set_option maxRecDepth 100000 in
set_option maxHeartbeats 6400000 in
theorem rq(v0 v1 v2 v3 av fv:Value)(st:PSt)(S:List Int)(c:CodeP)(w:World)(hp:PolIn w v0 v1 v2 v3 st S)(ha:bA w.heap.size w av c.ar)(hf:bh w.heap.size w fv c.fs)(hfew:CD.Few c) :
 Calls Tryz.prog 12 #[.agg #[v0,v1,v2,v3,.int .i64 st.D],.agg #[av,fv,.int .i64 c.mn0]] w fun e w'=>∃v,e=.returned v/\BRow w'.heap.size w' v (fw c st.D)/\Below w.heap.size w w':=by
 obtain⟨aa,ac,rfl⟩:=ha.form
 obtain⟨fa,fc,rfl⟩:=hf.form
 obtain⟨a0,k0,rfl⟩:=hp.s0.form
 obtain⟨a1,k1,rfl⟩:=hp.s1.form
 obtain⟨a2,k2,rfl⟩:=hp.s2.form
 obtain⟨a3,k3,rfl⟩:=hp.s3.form
 obtain⟨b0,hb0,hy0,hy1,hy2⟩:=info_parts Tryz.infoGBool
 have HBX:=zH (boxes2 w (.cells #[.slice a0 st.L.length k0,.slice a1 S.length k1,.slice a2 st.I.length k2,.slice a3 st.O.length k3,.int .i64 st.D] 26) (.cells #[.slice aa c.ar.length ac,.slice fa c.fs.length fc,.int .i64 c.mn0] 30))
 obtain⟨w2,ew2⟩:∃w2,w2=(w.alloc (.cells #[.slice a0 st.L.length k0,.slice a1 S.length k1,.slice a2 st.I.length k2,.slice a3 st.O.length k3,.int .i64 st.D] 26)).alloc (.cells #[.slice aa c.ar.length ac,.slice fa c.fs.length fc,.int .i64 c.mn0] 30):=⟨_,rfl⟩
 rw[<-ew2] at HBX
 have EW:=zH ew2
 have HTO:=zH (fun(V:World) (hV:Below w2.heap.size w2 V)=>nV _ _ c V ((ha.below (HBX.out.2.trans (hV.mono HBX.out.2.size))).mono (HBX.out.2.trans (hV.mono HBX.out.2.size)).size) ((hf.below (HBX.out.2.trans (hV.mono HBX.out.2.size))).mono (HBX.out.2.trans (hV.mono HBX.out.2.size)).size) hfew)
 have HSM:=zH (kO hfew.f)
 have hn:(entL (toC c) c.mn0).length<=100:=by have:=pO (toC c) c.mn0;rw[lC] at this;have:=hfew.f;omega
 obtain⟨xs,exs⟩:∃xs,xs=entL (toC c) c.mn0:=⟨_,rfl⟩
 have HXS:=zH exs
 rw[<-exs] at hn
 have HDL:=zH (show fw c st.D=xs.map (gS st.D) by unfold fw;rw[<-exs])
 rw[HDL.out]
 obtain⟨q0,q1,q2⟩:=box3 HBX.out.1.2
 clear hp ha hf hfew ew2 exs
 go_enter Tryz.func12,Tryz.ntmps12
 go_upto_region 1 with fail
 rw[<-EW.out]
 go_cut [5] (fun s5 w9=>Row w9.heap.size w9 s5 xs/\Below w2.heap.size w2 w9)
 case first =>
  go_region_with (first
   | (go_at_call 14;refine(HTO.out _ (by first | exact Below.refl _ _ | exact⟨rfl,rfl,rfl,Nat.le_refl _,fun _ _=>rfl⟩)).mono ?_;rintro e wT ⟨tv,rfl,hgT,hbT⟩;obtain⟨ta,tc,etv⟩:=hgT.form;subst etv;have hTT:=bstep (a:=w2) (by first | exact Below.refl _ _ | exact⟨rfl,rfl,rfl,Nat.le_refl _,fun _ _=>rfl⟩) hbT;obtain⟨u0,u1,u2⟩:=box3 (az hTT HBX.out.1.2))
   | (go_at_call 22;refine(pK c.mn0 _ (by first | exact hgT | exact hgT.on ⟨rfl,rfl,rfl,Nat.le_refl _,fun _ _=>rfl⟩ (Nat.le_refl _)) HSM.out).mono ?_;rintro e wE ⟨ev,rfl,hrE,hbE⟩;have hEE:=bstep (a:=w2) hTT hbE))
  all_goals (
   simp only[zA,zB,zC,Act.put,zD,zE,zF]
   go_wp2_with fail
   go_meet
   case rel=>exact⟨by rw[HXS.out];exact hrE,hEE⟩)
 case rest =>
  obtain⟨hr,hb⟩:=hcut
  obtain⟨xa,xc,ex⟩:=hr.form
  subst ex
  have HR:=zH hr
  have HB:=zH hb
  clear hr hb q0 q1 q2
  have HP:=zH (az HB.out HBX.out.1.1)
  have hz9:w.heap.size<wc.heap.size:=(Array.getElem?_eq_some_iff.1 HP.out).1
  go_wp2_with fail
  go_loopw [6,7] (fun s6 s7 wr=>∃i:Nat,i<=xs.length/\s7=.int .i64 (i:Int)/\RowKit.Hid (wr.ownsRow wc.heap.size 4 1 s6 i (bt (cF st.D xs i))/\Below wc.heap.size wc wr)) (fun _ s7 _=>xs.length-(intOf s7).toNat)
  case atStart=>exact⟨0,Nat.zero_le _,rfl,zH ⟨World.ownsRow_nil _ _ _ _,Below.refl _ _⟩⟩
  case round =>
   obtain⟨w5,rfl⟩:∃w5,w5=wr:=⟨_,rfl⟩
   obtain⟨i,hi,rfl,HI⟩:=hrel
   obtain⟨oa,oc,rfl⟩:=GG.aI HI.out.1
   by_cases hlt:i<xs.length
   ·obtain⟨rb,ro,e1,hc⟩:=(HR.out.below HI.out.2).cellAt hlt
    cases e1
    have p4:w5.cell? ⟨w.heap.size,4,none⟩=some (.int .i64 st.D):=cell_of_row _ _ 4 _ _ _ (az HI.out.2 HP.out)
    have HLT:=zH hlt
    have HCX:=zH (fun(V:World) (hV:Below wc.heap.size wc V)=>(show V.cell? ⟨rb,ro+i,none⟩=some (.int .i64 (xs[i]?.getD 0)) by
     obtain⟨b9,o9,e9,h9⟩:=(HR.out.below hV).cellAt hlt
     cases e9
     exact h9))
    have HCD:=zH (fun(V:World) (hV:Below wc.heap.size wc V)=>(cell_of_row _ _ 4 _ _ _ (az hV HP.out):V.cell? ⟨w.heap.size,4,none⟩=some (.int .i64 st.D)))
    have HOB:=zH (fun(V Z:World) (v1:Value) (o:Obj) (hO:V.ownsRow wc.heap.size 4 1 (.slice oa i oc) i (bt (cF st.D xs i))) (hV:Below wc.heap.size wc V) (ho:Z.ownsRow wc.heap.size 4 1 v1 (i+1) (bt (cF st.D xs i) ++ [.bool (gS st.D (xs[i]?.getD 0))])) (hg:(V.alloc o).grownBy Z (Value.slice oa i oc).ownBlock)=>rp hlt hO hV hV.size ho hg)
    have HO6:=zH (show w5.drew.ownsRow wc.heap.size 4 1 (.slice oa i oc) i (bt (cF st.D xs i)) from CC.own_of_block HI.out.1 (fun _ _=>rfl))
    have HB6:=zH (show Below wc.heap.size wc w5.drew from HI.out.2.trans ⟨rfl,rfl,rfl,Nat.le_refl _,fun _ _=>rfl⟩)
    obtain⟨x,ex⟩:∃x,x=xs[i]?.getD 0:=⟨_,rfl⟩
    rw[<-ex] at HCX HOB
    have i1:(0:Int)<=i/\(i:Int)<xs.length:=by omega
    have hs5:=HI.out.2.size
    obtain⟨z,ez⟩:∃z,z=gS st.D x:=⟨_,rfl⟩
    rw[<-ez] at HOB
    clear ex hlt hc p4
    by_cases h1:x<0
    ·have t1:decide (x<0)=true:=decide_eq_true h1
     have e1:z=true:=by rw[ez];exact decide_eq_true (.inl h1)
     subst e1
     clear ez h1
     go_upto_region 6 with fail
     refine wp_region_held_drew (S:=(fun V=>Below wc.heap.size wc V)) (by kernel_rfl) HB6.out (fun hHeld=>?_)
     generalize w5.drew=w6 at HO6 hHeld ⊢
     refine tkV 0 (.slice oa i oc) rfl (fun W hSW=>?_) hHeld ?_
     ·(clear hSW;go_simp <;> with_reducible rfl)
     try simp only[zA,zB,zC,Act.put,zD,zE,zF]
     refine tkV 1 (.slice (some ⟨rb,ro,none⟩) xs.length xc) rfl (fun W hSW=>?_) hHeld ?_
     ·(clear hSW;go_simp <;> with_reducible rfl)
     try simp only[zA,zB,zC,Act.put,zD,zE,zF]
     refine tkV 2 (.int .i64 (i:Int)) rfl (fun W hSW=>?_) hHeld ?_
     ·(clear hSW;go_simp <;> with_reducible rfl)
     try simp only[zA,zB,zC,Act.put,zD,zE,zF]
     refine tkV 3 (.pointer (some ⟨rb,ro+i,none⟩)) rfl (fun W hSW=>?_) hHeld ?_
     ·(clear hSW;go_simp <;> with_reducible rfl)
     try simp only[zA,zB,zC,Act.put,zD,zE,zF]
     refine tkV 4 (.int .i64 x) rfl (fun W hSW=>?_) hHeld ?_
     ·have hx:W.cell? ⟨rb,ro+i,none⟩=some (.int .i64 x):=HCX.out W hSW
      clear hSW
      go_simp <;> with_reducible rfl
     try simp only[zA,zB,zC,Act.put,zD,zE,zF]
     refine tkV 5 (.bool true) rfl (fun W hSW=>?_) hHeld ?_
     ·(clear hSW;go_simp <;> with_reducible rfl)
     try simp only[zA,zB,zC,Act.put,zD,zE,zF]
     refine tkV 6 (.bool true) rfl (fun W hSW=>?_) hHeld ?_
     ·(clear hSW;go_simp <;> with_reducible rfl)
     try simp only[zA,zB,zC,Act.put,zD,zE,zF]
     refine tkU 7 rfl hHeld ?_
     try simp only[zA,zB,zC,Act.put,zD,zE,zF]
     refine tkU 8 rfl hHeld ?_
     try simp only[zA,zB,zC,Act.put,zD,zE,zF]
     refine tkU 9 rfl hHeld ?_
     try simp only[zA,zB,zC,Act.put,zD,zE,zF]
     refine tkU 10 rfl hHeld ?_
     try simp only[zA,zB,zC,Act.put,zD,zE,zF]
     refine tkU 11 rfl hHeld ?_
     try simp only[zA,zB,zC,Act.put,zD,zE,zF]
     refine tkU 12 rfl hHeld ?_
     try simp only[zA,zB,zC,Act.put,zD,zE,zF]
     refine tkU 13 rfl hHeld ?_
     try simp only[zA,zB,zC,Act.put,zD,zE,zF]
     refine tkV 14 (.bool true) rfl (fun W hSW=>?_) hHeld ?_
     ·(clear hSW;go_simp <;> with_reducible rfl)
     try simp only[zA,zB,zC,Act.put,zD,zE,zF]
     refine wpAnyH_ready (rs:=[15]) (by kernel_rfl) (by simp) ?_
     refine AllReadyH.cons rfl (fun K hK=>?_) AllReadyH.nil
     try simp only[zA,zB,zC]
     go_simp
     try go_wp2_with fail
     have hs6:=hHeld.size
     have HNX:=zH (fun(Z:World) (v1:Value) (ho:Z.ownsRow wc.heap.size 4 1 v1 (i+1) (bt (cF st.D xs i) ++ [.bool true])) (hg:(w6.alloc (.cells #[.bool true] 4)).grownBy Z (Value.slice oa i oc).ownBlock)=>HOB.out w6 Z v1 _ HO6.out hHeld ho hg)
     refine hK.out _ _ ?_ (fun hHeld=>?_)
     ·exact hHeld.alloc hs6 _
     clear hK K
     try simp only[zA,zB,zC,Act.put,zD,zE,zF]
     refine wpAnyH_ready (rs:=[16]) (by kernel_rfl) (by simp) ?_
     refine AllReadyH.cons rfl (fun K hK=>?_) AllReadyH.nil
     refine step_append_lies _ rfl (.tmp 19) (.tmp 34) 38 rfl wc.heap.size 4 b0 (.bool false) 1 1 Tryz.underlying38 hb0 hy0 hy1 hy2 rfl (by decide) (.slice oa i oc) i (bt (cF st.D xs i)) (by rfl) (HO6.out.alloc _) ⟨w6.heap.size,0,none⟩ 1 1 [.bool true] (by rfl) rfl (GG.aW _ _ _) (by intro u hu;rw[List.mem_singleton.1 hu];rfl) (by decide) (by unfold maxLen;omega) (by omega) (by simp;omega) _ rfl ?_
     intro g2 cap2 w7 ho hg hat hlt2
     have HN:=zH (HNX.out w7 _ ho hg)
     clear ho hg hat hlt2 HNX HO6
     refine hK.out _ _ ?_ (fun hHeld=>?_)
     ·exact HN.out.2
     clear hK K
     try simp only[zA,zB,zC,Act.put,zD,zE,zF]
     refine tkV 17 (.slice (some ⟨g2,0,none⟩) (i+1) cap2) rfl (fun W hSW=>?_) hHeld ?_
     ·(clear hSW;go_simp <;> with_reducible rfl)
     try simp only[zA,zB,zC,Act.put,zD,zE,zF]
     refine wpAnyH_done (by kernel_rfl) ?_ _
     clear hHeld
     go_wp2_with fail
     go_roundw
     case rel=>exact⟨i+1,HLT.out,by go_num,HN⟩
     case measure=>have:=HLT.out;simp [intOf];omega
    ·have t1:decide (x<0)=false:=decide_eq_false h1
     by_cases h2:st.D<=x
     ·have t2:decide (st.D<=x)=true:=decide_eq_true h2
      have e1:z=true:=by rw[ez];exact decide_eq_true (.inr h2)
      subst e1
      clear ez h1 h2
      go_upto_region 6 with fail
      refine wp_region_held_drew (S:=(fun V=>Below wc.heap.size wc V)) (by kernel_rfl) HB6.out (fun hHeld=>?_)
      generalize w5.drew=w6 at HO6 hHeld ⊢
      refine tkV 0 (.slice oa i oc) rfl (fun W hSW=>?_) hHeld ?_
      ·(clear hSW;go_simp <;> with_reducible rfl)
      try simp only[zA,zB,zC,Act.put,zD,zE,zF]
      refine tkV 1 (.slice (some ⟨rb,ro,none⟩) xs.length xc) rfl (fun W hSW=>?_) hHeld ?_
      ·(clear hSW;go_simp <;> with_reducible rfl)
      try simp only[zA,zB,zC,Act.put,zD,zE,zF]
      refine tkV 2 (.int .i64 (i:Int)) rfl (fun W hSW=>?_) hHeld ?_
      ·(clear hSW;go_simp <;> with_reducible rfl)
      try simp only[zA,zB,zC,Act.put,zD,zE,zF]
      refine tkV 3 (.pointer (some ⟨rb,ro+i,none⟩)) rfl (fun W hSW=>?_) hHeld ?_
      ·(clear hSW;go_simp <;> with_reducible rfl)
      try simp only[zA,zB,zC,Act.put,zD,zE,zF]
      refine tkV 4 (.int .i64 x) rfl (fun W hSW=>?_) hHeld ?_
      ·have hx:W.cell? ⟨rb,ro+i,none⟩=some (.int .i64 x):=HCX.out W hSW
       clear hSW
       go_simp <;> with_reducible rfl
      try simp only[zA,zB,zC,Act.put,zD,zE,zF]
      refine tkV 5 (.bool false) rfl (fun W hSW=>?_) hHeld ?_
      ·(clear hSW;go_simp <;> with_reducible rfl)
      try simp only[zA,zB,zC,Act.put,zD,zE,zF]
      refine tkV 6 (.bool false) rfl (fun W hSW=>?_) hHeld ?_
      ·(clear hSW;go_simp <;> with_reducible rfl)
      try simp only[zA,zB,zC,Act.put,zD,zE,zF]
      refine tkV 7 (.slice (some ⟨rb,ro,none⟩) xs.length xc) rfl (fun W hSW=>?_) hHeld ?_
      ·(clear hSW;go_simp <;> with_reducible rfl)
      try simp only[zA,zB,zC,Act.put,zD,zE,zF]
      refine tkV 8 (.int .i64 (i:Int)) rfl (fun W hSW=>?_) hHeld ?_
      ·(clear hSW;go_simp <;> with_reducible rfl)
      try simp only[zA,zB,zC,Act.put,zD,zE,zF]
      refine tkV 9 (.pointer (some ⟨rb,ro+i,none⟩)) rfl (fun W hSW=>?_) hHeld ?_
      ·(clear hSW;go_simp <;> with_reducible rfl)
      try simp only[zA,zB,zC,Act.put,zD,zE,zF]
      refine tkV 10 (.int .i64 x) rfl (fun W hSW=>?_) hHeld ?_
      ·have hx:W.cell? ⟨rb,ro+i,none⟩=some (.int .i64 x):=HCX.out W hSW
       clear hSW
       go_simp <;> with_reducible rfl
      try simp only[zA,zB,zC,Act.put,zD,zE,zF]
      refine tkV 11 (.pointer (some ⟨w.heap.size,4,none⟩)) rfl (fun W hSW=>?_) hHeld ?_
      ·(clear hSW;go_simp <;> with_reducible rfl)
      try simp only[zA,zB,zC,Act.put,zD,zE,zF]
      refine tkV 12 (.int .i64 st.D) rfl (fun W hSW=>?_) hHeld ?_
      ·have hx:W.cell? ⟨w.heap.size,4,none⟩=some (.int .i64 st.D):=HCD.out W hSW
       clear hSW
       go_simp <;> with_reducible rfl
      try simp only[zA,zB,zC,Act.put,zD,zE,zF]
      refine tkV 13 (.bool true) rfl (fun W hSW=>?_) hHeld ?_
      ·(clear hSW;go_simp <;> with_reducible rfl)
      try simp only[zA,zB,zC,Act.put,zD,zE,zF]
      refine tkV 14 (.bool true) rfl (fun W hSW=>?_) hHeld ?_
      ·(clear hSW;go_simp <;> with_reducible rfl)
      try simp only[zA,zB,zC,Act.put,zD,zE,zF]
      refine wpAnyH_ready (rs:=[15]) (by kernel_rfl) (by simp) ?_
      refine AllReadyH.cons rfl (fun K hK=>?_) AllReadyH.nil
      try simp only[zA,zB,zC]
      go_simp
      try go_wp2_with fail
      have hs6:=hHeld.size
      have HNX:=zH (fun(Z:World) (v1:Value) (ho:Z.ownsRow wc.heap.size 4 1 v1 (i+1) (bt (cF st.D xs i) ++ [.bool true])) (hg:(w6.alloc (.cells #[.bool true] 4)).grownBy Z (Value.slice oa i oc).ownBlock)=>HOB.out w6 Z v1 _ HO6.out hHeld ho hg)
      refine hK.out _ _ ?_ (fun hHeld=>?_)
      ·exact hHeld.alloc hs6 _
      clear hK K
      try simp only[zA,zB,zC,Act.put,zD,zE,zF]
      refine wpAnyH_ready (rs:=[16]) (by kernel_rfl) (by simp) ?_
      refine AllReadyH.cons rfl (fun K hK=>?_) AllReadyH.nil
      refine step_append_lies _ rfl (.tmp 19) (.tmp 34) 38 rfl wc.heap.size 4 b0 (.bool false) 1 1 Tryz.underlying38 hb0 hy0 hy1 hy2 rfl (by decide) (.slice oa i oc) i (bt (cF st.D xs i)) (by rfl) (HO6.out.alloc _) ⟨w6.heap.size,0,none⟩ 1 1 [.bool true] (by rfl) rfl (GG.aW _ _ _) (by intro u hu;rw[List.mem_singleton.1 hu];rfl) (by decide) (by unfold maxLen;omega) (by omega) (by simp;omega) _ rfl ?_
      intro g2 cap2 w7 ho hg hat hlt2
      have HN:=zH (HNX.out w7 _ ho hg)
      clear ho hg hat hlt2 HNX HO6
      refine hK.out _ _ ?_ (fun hHeld=>?_)
      ·exact HN.out.2
      clear hK K
      try simp only[zA,zB,zC,Act.put,zD,zE,zF]
      refine tkV 17 (.slice (some ⟨g2,0,none⟩) (i+1) cap2) rfl (fun W hSW=>?_) hHeld ?_
      ·(clear hSW;go_simp <;> with_reducible rfl)
      try simp only[zA,zB,zC,Act.put,zD,zE,zF]
      refine wpAnyH_done (by kernel_rfl) ?_ _
      clear hHeld
      go_wp2_with fail
      go_roundw
      case rel=>exact⟨i+1,HLT.out,by go_num,HN⟩
      case measure=>have:=HLT.out;simp [intOf];omega
     ·have t2:decide (st.D<=x)=false:=decide_eq_false h2
      have e1:z=false:=by rw[ez];exact decide_eq_false (by omega)
      subst e1
      clear ez h1 h2
      go_upto_region 6 with fail
      refine wp_region_held_drew (S:=(fun V=>Below wc.heap.size wc V)) (by kernel_rfl) HB6.out (fun hHeld=>?_)
      generalize w5.drew=w6 at HO6 hHeld ⊢
      refine tkV 0 (.slice oa i oc) rfl (fun W hSW=>?_) hHeld ?_
      ·(clear hSW;go_simp <;> with_reducible rfl)
      try simp only[zA,zB,zC,Act.put,zD,zE,zF]
      refine tkV 1 (.slice (some ⟨rb,ro,none⟩) xs.length xc) rfl (fun W hSW=>?_) hHeld ?_
      ·(clear hSW;go_simp <;> with_reducible rfl)
      try simp only[zA,zB,zC,Act.put,zD,zE,zF]
      refine tkV 2 (.int .i64 (i:Int)) rfl (fun W hSW=>?_) hHeld ?_
      ·(clear hSW;go_simp <;> with_reducible rfl)
      try simp only[zA,zB,zC,Act.put,zD,zE,zF]
      refine tkV 3 (.pointer (some ⟨rb,ro+i,none⟩)) rfl (fun W hSW=>?_) hHeld ?_
      ·(clear hSW;go_simp <;> with_reducible rfl)
      try simp only[zA,zB,zC,Act.put,zD,zE,zF]
      refine tkV 4 (.int .i64 x) rfl (fun W hSW=>?_) hHeld ?_
      ·have hx:W.cell? ⟨rb,ro+i,none⟩=some (.int .i64 x):=HCX.out W hSW
       clear hSW
       go_simp <;> with_reducible rfl
      try simp only[zA,zB,zC,Act.put,zD,zE,zF]
      refine tkV 5 (.bool false) rfl (fun W hSW=>?_) hHeld ?_
      ·(clear hSW;go_simp <;> with_reducible rfl)
      try simp only[zA,zB,zC,Act.put,zD,zE,zF]
      refine tkV 6 (.bool false) rfl (fun W hSW=>?_) hHeld ?_
      ·(clear hSW;go_simp <;> with_reducible rfl)
      try simp only[zA,zB,zC,Act.put,zD,zE,zF]
      refine tkV 7 (.slice (some ⟨rb,ro,none⟩) xs.length xc) rfl (fun W hSW=>?_) hHeld ?_
      ·(clear hSW;go_simp <;> with_reducible rfl)
      try simp only[zA,zB,zC,Act.put,zD,zE,zF]
      refine tkV 8 (.int .i64 (i:Int)) rfl (fun W hSW=>?_) hHeld ?_
      ·(clear hSW;go_simp <;> with_reducible rfl)
      try simp only[zA,zB,zC,Act.put,zD,zE,zF]
      refine tkV 9 (.pointer (some ⟨rb,ro+i,none⟩)) rfl (fun W hSW=>?_) hHeld ?_
      ·(clear hSW;go_simp <;> with_reducible rfl)
      try simp only[zA,zB,zC,Act.put,zD,zE,zF]
      refine tkV 10 (.int .i64 x) rfl (fun W hSW=>?_) hHeld ?_
      ·have hx:W.cell? ⟨rb,ro+i,none⟩=some (.int .i64 x):=HCX.out W hSW
       clear hSW
       go_simp <;> with_reducible rfl
      try simp only[zA,zB,zC,Act.put,zD,zE,zF]
      refine tkV 11 (.pointer (some ⟨w.heap.size,4,none⟩)) rfl (fun W hSW=>?_) hHeld ?_
      ·(clear hSW;go_simp <;> with_reducible rfl)
      try simp only[zA,zB,zC,Act.put,zD,zE,zF]
      refine tkV 12 (.int .i64 st.D) rfl (fun W hSW=>?_) hHeld ?_
      ·have hx:W.cell? ⟨w.heap.size,4,none⟩=some (.int .i64 st.D):=HCD.out W hSW
       clear hSW
       go_simp <;> with_reducible rfl
      try simp only[zA,zB,zC,Act.put,zD,zE,zF]
      refine tkV 13 (.bool false) rfl (fun W hSW=>?_) hHeld ?_
      ·(clear hSW;go_simp <;> with_reducible rfl)
      try simp only[zA,zB,zC,Act.put,zD,zE,zF]
      refine tkV 14 (.bool false) rfl (fun W hSW=>?_) hHeld ?_
      ·(clear hSW;go_simp <;> with_reducible rfl)
      try simp only[zA,zB,zC,Act.put,zD,zE,zF]
      refine wpAnyH_ready (rs:=[15]) (by kernel_rfl) (by simp) ?_
      refine AllReadyH.cons rfl (fun K hK=>?_) AllReadyH.nil
      try simp only[zA,zB,zC]
      go_simp
      try go_wp2_with fail
      have hs6:=hHeld.size
      have HNX:=zH (fun(Z:World) (v1:Value) (ho:Z.ownsRow wc.heap.size 4 1 v1 (i+1) (bt (cF st.D xs i) ++ [.bool false])) (hg:(w6.alloc (.cells #[.bool false] 4)).grownBy Z (Value.slice oa i oc).ownBlock)=>HOB.out w6 Z v1 _ HO6.out hHeld ho hg)
      refine hK.out _ _ ?_ (fun hHeld=>?_)
      ·exact hHeld.alloc hs6 _
      clear hK K
      try simp only[zA,zB,zC,Act.put,zD,zE,zF]
      refine wpAnyH_ready (rs:=[16]) (by kernel_rfl) (by simp) ?_
      refine AllReadyH.cons rfl (fun K hK=>?_) AllReadyH.nil
      refine step_append_lies _ rfl (.tmp 19) (.tmp 34) 38 rfl wc.heap.size 4 b0 (.bool false) 1 1 Tryz.underlying38 hb0 hy0 hy1 hy2 rfl (by decide) (.slice oa i oc) i (bt (cF st.D xs i)) (by rfl) (HO6.out.alloc _) ⟨w6.heap.size,0,none⟩ 1 1 [.bool false] (by rfl) rfl (GG.aW _ _ _) (by intro u hu;rw[List.mem_singleton.1 hu];rfl) (by decide) (by unfold maxLen;omega) (by omega) (by simp;omega) _ rfl ?_
      intro g2 cap2 w7 ho hg hat hlt2
      have HN:=zH (HNX.out w7 _ ho hg)
      clear ho hg hat hlt2 HNX HO6
      refine hK.out _ _ ?_ (fun hHeld=>?_)
      ·exact HN.out.2
      clear hK K
      try simp only[zA,zB,zC,Act.put,zD,zE,zF]
      refine tkV 17 (.slice (some ⟨g2,0,none⟩) (i+1) cap2) rfl (fun W hSW=>?_) hHeld ?_
      ·(clear hSW;go_simp <;> with_reducible rfl)
      try simp only[zA,zB,zC,Act.put,zD,zE,zF]
      refine wpAnyH_done (by kernel_rfl) ?_ _
      clear hHeld
      go_wp2_with fail
      go_roundw
      case rel=>exact⟨i+1,HLT.out,by go_num,HN⟩
      case measure=>have:=HLT.out;simp [intOf];omega
   ·have ei:i=xs.length:=by omega
    subst ei
    have HF:=zH (show BRow w5.heap.size w5 (.slice oa xs.length oc) (xs.map (gS st.D)) by have h:=aS HI.out.1;rw[mP] at h;exact h)
    clear hlt
    go_wp2_with fail
    go_ret
    exact⟨_,rfl,HF.out,HBX.out.2.trans ((HB.out.trans (HI.out.2.mono HB.out.size)).mono HBX.out.2.size)⟩
end
section
open Go.RowKit Go.Shelf
open CD (OpP BodyP CodeP aj blAt fnAt)
attribute [local go_sem] Oper.semAt_some
section
variable {F:Fence} {n:Nat} {P:Program} {C:World->Prop}
theorem gy{id:Nat}{Q:Exit->Act->World->Prop}{a:Act}{w:World}{l:List Oper}(hC:C w.drew)(hnd:l.all gp=true)(hm:P.follows .mixedOrders=true)(hB:Region.lexB .any l.toArray=true)
 (h:wpQuietIn F n P l.toArray C (fun a'=>∀w',C w'->Q .normal a' w') l a):(Code.region id l.toArray true).wpIn F n P Q a w:=by
 simp only[Region.lexB,Bool.and_eq_true] at hB
 refine wpIn_region_any hm (kE (C:=C) (fun i o ho=>?_) (Q:=fun a'=>∀w',C w'->Q .normal a' w') (fun _ w' hw' h=>h w' hw') _ _ _ _ hC ?_)
 ·rw[List.all_eq_true] at hnd
  exact hnd o (List.mem_of_getElem? (by simpa using ho))
 ·have:=wpAnyQIn_lex (F:=F) (n:=n) (C:=C) (md:=.any) hB.1 l 0 (Array.replicate l.length false) a (by simp) (by simpa using hB.2) h
  simpa using this
theorem grow_take{ops:Array Oper}{Q:Act->Prop}{o:Oper}{rest:List Oper}{a:Act}(v:Value)(ha:o.askedIn F P a C)(hw:Region.wanted o (yielded ops a.tmps)=true)(hv:∀w,C w->o.quietAtIn F n P a C w v)(h:wpQuietIn F n P ops C Q rest (a.put o.dst v)):wpQuietIn F n P ops C Q (o :: rest) a :=
 Go.BigFrame.wpQuietIn_want ha hw fun K hK=>⟨v,hv,hK _ h⟩
theorem gkT{ops:Array Oper}{Q:Act->Prop}{o:Oper}{rest:List Oper}{a:Act}(v:Value)(hv:∀w,C w->o.quietAtIn F n P a C w v)(h:wpQuietIn F n P ops C Q rest (a.put o.dst v))(ha:o.askedIn F P a C:=by exact Go.BigFrame.askedIn_plain (fun _ h=>nomatch h))(hw:Region.wanted o (yielded ops a.tmps)=true:=by rfl):wpQuietIn F n P ops C Q (o :: rest) a :=
 grow_take v ha hw hv h
end
theorem cell_ltS{W:World}{a:Addr}{v:Value}(h:W.cell? a=some v):a.block<W.heap.size:=by
 rcases Nat.lt_or_ge a.block W.heap.size with h1 | h1
 ·exact h1
 ·simp [World.cell?,Array.getElem?_eq_none h1] at h
theorem bS{A B:World}(h:Below A.heap.size A B)(N:Nat):KeepsFrom N A B:=⟨h.size,fun k o _ hk _=>(h.block k (Array.getElem?_eq_some_iff.1 hk).1).trans hk⟩
def ou(b:BodyP)(f:Nat->Int)(back over:List (List Int))(y:Nat × Nat):Prop :=
 ((aj (blAt b y.1) y.2).k=3->dX (aj (blAt b y.1) y.2).ys=back[y.1]?.getD []) /\
   ∀j,j<(aj (blAt b y.1) y.2).xs.length->du b f over ((aj (blAt b y.1) y.2).xs[j]?.getD 0).toNat (aV b (aj (blAt b y.1) y.2) j y.1 y.2).1.toNat (aV b (aj (blAt b y.1) y.2) j y.1 y.2).2=true
structure MisI (ls:List (List OpV)) (m Fb:Nat) (R:Nat × Nat->Prop) (pre:List (It ls)) (W:World):Prop where
 z:m+4<=W.heap.size
 f:Boxed W m 162 (.pointer (some ⟨Fb,0,none⟩))
 a:Boxed W (m+1) 3 (.int .i64 0)
 e:Boxed W (m+1+1) 33 (.int .i64 0)
 h:∀y∈pre.map (·.1),R y
theorem MisI.kept{ls:List (List OpV)}{m Fb:Nat}{R:Nat × Nat->Prop}{pre:List (It ls)}{X Y:World}{row:Option Nat}(h:MisI ls m Fb R pre X)(hg:X.grownBy Y row)(hr:∀r,row=some r->∃o,X.heap[r]?=some o/\o.isCells=false):MisI ls m Fb R pre Y :=
 ⟨Nat.le_trans h.z hg.size,eH h.f hg hr,eH h.a hg hr,eH h.e hg hr,h.h⟩
theorem MisI.alloc{ls:List (List OpV)}{m Fb:Nat}{R:Nat × Nat->Prop}{pre:List (It ls)}{X:World}(h:MisI ls m Fb R pre X)(o:Obj):MisI ls m Fb R pre (X.alloc o) :=
 ⟨by rw[World.size_alloc];have:=h.z;omega,heap_alloc h.f o,heap_alloc h.a o,heap_alloc h.e o,h.h⟩
theorem MisI.below{ls:List (List OpV)}{m Fb N:Nat}{R:Nat × Nat->Prop}{pre:List (It ls)}{X Y:World}(h:MisI ls m Fb R pre X)(hb:Below N X Y)(hN:m+3<=N):MisI ls m Fb R pre Y :=
 ⟨Nat.le_trans h.z hb.size,(hb.block _ (by omega)).trans h.f,(hb.block _ (by omega)).trans h.a,(hb.block _ (by omega)).trans h.e,h.h⟩
theorem rr{q:CD.Cnt}{c:CodeP}{b:BodyP}{x:OpP}{nx:Int}(h:CD.OpOk q c b x nx)(h6:∀r,CD.paAt c r<=4096):x.xs.length<=4096:=by
 have h1:=h.2.2.2.2.2.1
 unfold CD.bH at h1
 split at h1
 ·omega
 ·split at h1
  ·have:=h6 x.r
   omega
  ·have:CD.argN x.k<=2:=by unfold CD.argN;split <;> (try split) <;> omega
   omega
theorem ow{q:CD.Cnt}{c:CodeP}{b:BodyP}{x:OpP}{nx k:Int}{i j:Nat}(h:CD.OpOk q c b x nx)(hj:j<x.xs.length)(hi:i<b.bs.length):0<=(aV b x j i k).1/\(aV b x j i k).1<(b.bs.length:Nat)/\(x.k=3->j<x.ys.length/\0<=x.ys[j]?.getD 0/\x.ys[j]?.getD 0<(b.bs.length:Nat)):=by
 have h1:=h.2.2.2.2.2.1
 have h2:=h.2.2.2.2.2.2.2
 unfold CD.bH at h1
 unfold aV
 by_cases h3:x.k=3
 ·rw[if_pos h3] at h1
  have h4:=h2 j (by omega)
  rw[if_pos h3]
  exact⟨h4.1,h4.2,fun _=>⟨by omega,h4⟩⟩
 ·rw[if_neg h3]
  exact⟨by simp,by simp;omega,fun h=>absurd h h3⟩
theorem phi_len{q:CD.Cnt}{c:CodeP}{b:BodyP}{x:OpP}{nx:Int}(h:CD.OpOk q c b x nx)(h3:x.k=3):x.ys.length<=4096:=by
 have h1:=h.2.2.2.2.2.1
 unfold CD.bH at h1
 rw[if_pos h3] at h1
 omega
set_option maxRecDepth 100000 in
set_option maxHeartbeats 8000000 in
theorem ru{q:CD.Cnt}{c:CodeP}{b:BodyP}(hb:CD.aK q c b)(hk:∀k,k<b.bs.length->(blAt b k).length<=300)(hv:b.va<=400)(hpa:∀r,CD.paAt c r<=4096){n₀ Fb:Nat}{f:Nat->Int}{back over:List (List Int)}{ba:Option Addr}{bc g:Nat}{kv ov:Value}(w:World)(h:FnM n₀ Fb b f back over ba bc g kv ov w)(hn:n₀<=w.heap.size)(hbl:back.length=b.bs.length)(hol:over.length=b.bs.length)(hbr:∀i:Nat,(back[i]?.getD []).length<=4000)(hor:∀i:Nat,(over[i]?.getD []).length<=4000) :
 Calls Tryz.prog 93 #[.pointer (some ⟨Fb,0,none⟩)] w fun e w'=>(∃(at':Int) (k:Nat),e=.returned (.tuple #[.int .i64 at',.int .i64 k])/\(k=0↔∀i j,i<b.bs.length->j<(blAt b i).length->ou b f back over (i,j)))/\Below w.heap.size w w':=by
 have HFN:=zH h
 have HAR:=zH hpa
 have HBO:=zH hb
 have HK:=zH hk
 obtain⟨ls,hM1,hM2,hM3⟩:=h.bs
 have HS:=zH (same_len hM2 hM3)
 have HM1:=zH hM1
 have HO:=zH (fun(y:Nat × Nat) (hy:ItOk ls y)=>opv_ins hM2 hM3 hy)
 have HM2:=zH hM2
 have HL:=zH hb.1.2
 have HN:=zH hn
 have HBK:=zH (And.intro hbl hbr)
 have HOV:=zH (And.intro hol hor)
 have c0:w.cell? ⟨Fb,0,none⟩=some (.int .i64 b.pa):=cell_of_row _ _ 0 _ _ _ h.box
 have c1:w.cell? ⟨Fb,1,none⟩=some (.int .i64 b.va):=cell_of_row _ _ 1 _ _ _ h.box
 have c2:w.cell? ⟨Fb,2,none⟩=some (.slice ba b.bs.length bc):=cell_of_row _ _ 2 _ _ _ h.box
 have hFl:Fb<w.heap.size:=Nat.lt_of_lt_of_le h.lt hn
 clear hM1 hM3 hb hk hbl hbr hol hor h hM2
 obtain⟨R,eR⟩:∃R,R=ou b f back over:=⟨_,rfl⟩
 have ER:=zH eR
 clear eR
 refine(callsIn_wide (n:=6)).1 ?_
 refine callsIn_of_wp_marks Tryz.func93 rfl trivial ?_ rfl
 simp only[Tryz.ntmps93,List.size_toArray,List.length_cons,List.length_nil,Nat.reduceAdd,Nat.reduceSub,Array.replicate_succ,Array.replicate_zero,List.push_toArray,List.append_toArray,List.nil_append,List.cons_append]
 refine wpIn_mono (Q:=iX _) ?_ fY
 gi_upto_region 1 with fail
 have hB3:=(((Below.refl w.heap.size w).alloc (Nat.le_refl _) (.cells #[.pointer (some ⟨Fb,0,none⟩)] 162)).alloc (by simp) (.cells #[.int .i64 0] 3)).alloc (by simp;omega) (.cells #[.int .i64 0] 33)
 have hf:=heap_alloc (heap_alloc (heap_alloc_new w (.cells #[.pointer (some ⟨Fb,0,none⟩)] 162)) (.cells #[.int .i64 0] 3)) (.cells #[.int .i64 0] 33)
 have ha:=heap_alloc (heap_alloc_new (w.alloc (.cells #[.pointer (some ⟨Fb,0,none⟩)] 162)) (.cells #[.int .i64 0] 3)) (.cells #[.int .i64 0] 33)
 rw[World.size_alloc] at ha
 have he:=heap_alloc_new ((w.alloc (.cells #[.pointer (some ⟨Fb,0,none⟩)] 162)).alloc (.cells #[.int .i64 0] 3)) (.cells #[.int .i64 0] 33)
 rw[World.size_alloc,World.size_alloc] at he
 have hsz3:(((w.alloc (.cells #[.pointer (some ⟨Fb,0,none⟩)] 162)).alloc (.cells #[.int .i64 0] 3)).alloc (.cells #[.int .i64 0] 33)).heap.size=w.heap.size+3:=by simp
 generalize ((w.alloc (.cells #[.pointer (some ⟨Fb,0,none⟩)] 162)).alloc (.cells #[.int .i64 0] 3)).alloc (.cells #[.int .i64 0] 33)=W3 at hB3 hf ha he hsz3 ⊢
 replace c0:=(hB3.cell (p:=⟨Fb,0,none⟩) hFl).trans c0
 replace c1:=(hB3.cell (p:=⟨Fb,1,none⟩) hFl).trans c1
 replace c2:=(hB3.cell (p:=⟨Fb,2,none⟩) hFl).trans c2
 have cf:W3.cell? ⟨w.heap.size,0,none⟩=some (.pointer (some ⟨Fb,0,none⟩)):=cell_of_row _ _ 0 _ _ _ hf
 refine wpIn_wide.2 ?_
 go_step3
 go_wp2
 go_step3
 go_upto_region 1 with fail
 refine(wpIn_wide (n:=6)).1 ?_
 gi_wp2_with (refine⟨trivial,?_⟩;gi_at_call 141;refine(callsIn_wide.2 (nD _ _ b.pa b.va ba b.bs.length bc rfl)).mono ?_;rintro e w' ⟨rfl,rfl⟩)
 refine(wpIn_wide (n:=6)).1 ?_
 gi_wp2
 have HI4:=zH (show MisI ls w.heap.size Fb R [] (W3.alloc (.cells #[.int .i64 b.pa,.int .i64 b.va,.slice ba b.bs.length bc] 52)) from⟨by rw[World.size_alloc,hsz3];omega,heap_alloc hf _,heap_alloc ha _,heap_alloc he _,fun y hy=>by cases hy⟩)
 have HB4:=zH (hB3.alloc (by omega) (.cells #[.int .i64 b.pa,.int .i64 b.va,.slice ba b.bs.length bc] 52))
 have HBs:=zH (show (W3.alloc (.cells #[.int .i64 b.pa,.int .i64 b.va,.slice ba b.bs.length bc] 52)).heap[w.heap.size+3]?=some (.cells #[.int .i64 b.pa,.int .i64 b.va,.slice ba b.bs.length bc] 52) from by rw[<-hsz3];exact heap_alloc_new W3 _)
 have hs4:(W3.alloc (.cells #[.int .i64 b.pa,.int .i64 b.va,.slice ba b.bs.length bc] 52)).heap.size=w.heap.size+4:=by rw[World.size_alloc,hsz3]
 clear hf ha he c0 c1 c2 cf hB3
 generalize W3.alloc (.cells #[.int .i64 b.pa,.int .i64 b.va,.slice ba b.bs.length bc] 52)=W4 at HI4 HB4 HBs hs4 ⊢
 rw[<-HM2.out] at HM1 HBs ⊢
 refine wpIn_rangeFunc_ownH rfl (by omega) (gf:=184) (lb:=#[.pointer (some ⟨w.heap.size+3,0,none⟩)]) rfl trivial (enters_of Tryz.func184 (by kernel_rfl) rfl)
  (lj ls n₀ (w.heap.size+3) b.pa b.va ba bc _ (by omega) W4 (by have:=HN.out;omega) HBs.out (HM1.out.below (HB4.out.mono HN.out)) (by have:=HL.out;have:=HM2.out;omega) (fun i hi=>by have:=HK.out i (by rw[<-HM2.out];exact hi);rw[(HS.out).2 i];omega)) (fun h k=>h.trans k) (px (by omega) (by have:=HN.out;omega)) (Below.refl _ _) (fun _=>rfl)
  (fun pre W=>MisI ls w.heap.size Fb R pre W/\Below w.heap.size w W)
  (fun c pre W=>(c=.exit 0/\(∃y∈pre.map (·.1),¬R y)/\w.heap.size+4<=W.heap.size/\∃(t:Int) (k:Nat),k≠0/\Boxed W (w.heap.size+1) 3 (.int .i64 t)/\Boxed W (w.heap.size+1+1) 33 (.int .i64 (k:Int)))/\Below w.heap.size w W)
  (OwnFrom.and (Own.from (fun s A B row hs hg hr=>hs.kept hg hr) _) (ownFrom_below (Nat.le_refl _) (by omega)))
  (fun c=>OwnFrom.and (Own.from (fun s A B row hs hg hr=>⟨hs.1,hs.2.1,Nat.le_trans hs.2.2.1 hg.size,by obtain⟨t,k,h1,h2,h3⟩:=hs.2.2.2;exact⟨t,k,h1,eH h2 hg hr,eH h3 hg hr⟩⟩) _) (ownFrom_below (Nat.le_refl _) (by omega)))
  ⟨HI4.out,HB4.out⟩
  (fun x a' W=>∃Bx,w.heap.size+3<Bx/\DefX (bV ls x.1) x.1.1 x.1.2 Bx W/\a' = { tmps:=#[.pointer (some ⟨Fb,0,none⟩),.pointer (some ⟨w.heap.size,0,none⟩),.pointer (some ⟨w.heap.size+1,0,none⟩),.pointer (some ⟨w.heap.size+1+1,0,none⟩),.pointer (some ⟨Bx,0,none⟩),.pointer (some ⟨Bx+1,0,none⟩),undef,undef,.pointer (some ⟨Fb,0,none⟩),.pointer (some ⟨Fb,0,none⟩),.pointer (some ⟨Fb,0,none⟩),.agg #[.int .i64 b.pa,.int .i64 b.va,.slice ba ls.length bc],.func (.func 184) #[] #[.pointer (some ⟨w.heap.size+3,0,none⟩)],.agg #[.int .i64 (x.1.1:Int),.int .i64 (x.1.2:Int)],.agg #[.int .u8 (bV ls x.1).k,.int .u8 (bV ls x.1).o,.int .i64 (bV ls x.1).d,.int .i64 (bV ls x.1).r,.int .i64 (bV ls x.1).a,.slice (bV ls x.1).xa (bV ls x.1).xl (bV ls x.1).xc,.slice (bV ls x.1).ya (bV ls x.1).yl (bV ls x.1).yc,.int .i64 (bV ls x.1).n,.int .i64 (bV ls x.1).t],undef,undef,undef,undef,undef,undef,undef,undef,undef,undef,undef,undef,undef,undef,undef,undef,undef,undef,undef,undef,undef,undef,undef,undef,undef,undef,undef,undef,undef,undef,undef,undef,undef,undef,undef,undef,undef,undef,undef,undef,undef],defers:=[] })
  (fun x a' _ X Y row hs hg hr=>by obtain⟨Bx,h1,h2,h3⟩:=hs;exact⟨Bx,h1,h2.kept hg (fun r e=>(hr r e).2),h3⟩)
  ?assign ?body ?done ?stop
 case assign =>
  rintro l pre x W K ⟨hI,hB⟩ hK
  unfold encI aF
  have hz:=hI.z
  have hz1:=HN.out
  gi_wp2
  exact hK _ _ (((KeepsOthers.alloc _ _).trans (KeepsOthers.alloc _ _)).from _) (((bW.refl _ _ _).alloc _ (by omega) (by omega)).alloc _ (by rw[World.size_alloc];omega) (by rw[World.size_alloc];omega)) ⟨(hI.alloc _).alloc _,(hB.alloc (by omega) _).alloc (by rw[World.size_alloc];omega) _⟩ ⟨W.heap.size,by omega,qF W _ _ _,rfl⟩
 case body =>
  rintro l pre x a' W hl _ ⟨hI,hB⟩ ⟨Bx,hBx,hX,rfl⟩ _
  obtain⟨⟨i,k⟩,hx⟩:=x
  obtain⟨xa,xc,ya,yc,eX,hrx,hry⟩:=(HO.out (i,k) hx).form
  have hii:i<b.bs.length:=by rw[<-HM2.out];exact hx.1
  have hkk:k<(blAt b i).length:=by rw[<-HS.out.2 i];exact hx.2
  obtain⟨hop,_⟩:=(HBO.out.2.1 i hii).2 k hkk
  simp only at hX eX ⊢
  obtain⟨p,ep⟩:∃p,p=aj (blAt b i) k:=⟨_,rfl⟩
  rw[<-ep] at hop hrx hry eX
  rw[eX] at hX ⊢
  unfold opC at hX ⊢
  simp only at hX ⊢
  have HP:=zH ep
  have HOP:=zH hop
  have HFW:=zH (HFN.out.below (hB.mono HN.out))
  have HRX:=zH (hrx.below (hB.mono HN.out))
  have HRY:=zH (hry.below (hB.mono HN.out))
  have HI:=zH hI
  have HBB:=zH hB
  have HXX:=zH hX
  have hz:=hI.z
  have c1:W.cell? ⟨w.heap.size,0,none⟩=some (.pointer (some ⟨Fb,0,none⟩)):=cell_of_row _ _ 0 _ _ _ hI.f
  have c60:W.cell? ⟨Bx,0,none⟩=some (.int .i64 i):=cell_of_row _ _ 0 _ _ _ hX.h
  have c61:W.cell? ⟨Bx,1,none⟩=some (.int .i64 k):=cell_of_row _ _ 1 _ _ _ hX.h
  have c70:W.cell? ⟨Bx+1,0,none⟩=some (.int .u8 p.k):=cell_of_row _ _ 0 _ _ _ hX.x
  have c75:W.cell? ⟨Bx+1,5,none⟩=some (.slice xa p.xs.length xc):=cell_of_row _ _ 5 _ _ _ hX.x
  have c76:W.cell? ⟨Bx+1,6,none⟩=some (.slice ya p.ys.length yc):=cell_of_row _ _ 6 _ _ _ hX.x
  have c78:W.cell? ⟨Bx+1,8,none⟩=some (.int .i64 p.t):=cell_of_row _ _ 8 _ _ _ hX.x
  have hbW:Bx+1<W.heap.size:=(Array.getElem?_eq_some_iff.1 hX.x).1
  have hFW:Fb<W.heap.size:=by omega
  clear hI hB hX hop hrx hry ep eX
  by_cases h3:p.k=3
  ·rw[h3] at c70
   have cF4:W.cell? ⟨Fb,4,none⟩=some kv:=cell_of_row _ _ 4 _ _ _ HFW.out.box
   have hbl:=HBK.out.1
   have hib:i<back.length:=by omega
   obtain⟨kb,ko,kc,ekv⟩:=HFW.out.back.addr (by omega)
   have hgb:=HFW.out.back
   rw[ekv] at hgb cF4
   obtain⟨ra,rc,crow,hrow⟩:=hgb.at hib
   have hrl:=HBK.out.2 i
   obtain⟨row,erow⟩:∃row,row=back[i]?.getD []:=⟨_,rfl⟩
   rw[<-erow] at crow hrow hrl
   have hkb:=cell_ltS crow
   simp only at hkb
   have HROW:=zH hrow
   have hyl:p.ys.length<=4096:=phi_len HOP.out h3
   obtain⟨t,et⟩:∃t,t=decide (dX p.ys=row):=⟨_,rfl⟩
   have HJ:=zH (fun(w9:World) (hw9:Below W.heap.size W w9)=>just_any (.slice ya p.ys.length yc) (.slice ra row.length rc) p.ys row n₀ w9 (Nat.le_trans (Nat.le_trans HN.out HBB.out.size) hw9.size) (HRY.out.below (hw9.mono (Nat.le_trans HN.out HBB.out.size))) (HROW.out.below (hw9.mono (Nat.le_trans HN.out HBB.out.size))) hyl (by omega))
   rw[<-et] at HJ
   have HT:=zH (And.intro et erow)
   have i1:(0:Int)<=i/\(i:Int)<back.length:=by omega
   clear hgb hrow et erow
   gi_upto_region 4 with fail
   refine gy (C:=Below W.heap.size W) (by exact⟨rfl,rfl,rfl,Nat.le_refl _,fun _ _=>rfl⟩) (by kernel_rfl) (by kernel_rfl) (by kernel_rfl) ?_
   refine gkT (.pointer (some ⟨Bx+1,0,none⟩)) (fun w9 hw9=>?_) ?_
   ·unfold Oper.quietAtIn;simp [go_sem,Oper.quietUponIn]
   simp only[zA,zB,zC,Act.put,zD,zE,zF]
   refine gkT (.int .u8 3) (fun w9 hw9=>?_) ?_
   ·have z0:=(hw9.cell (p:=⟨Bx+1,0,none⟩) (by show Bx+1<W.heap.size;omega)).trans c70;unfold Oper.quietAtIn;simp [go_sem,Oper.quietUponIn,z0]
   simp only[zA,zB,zC,Act.put,zD,zE,zF]
   refine gkT (.bool true) (fun w9 hw9=>?_) ?_
   ·unfold Oper.quietAtIn;simp [go_sem,Oper.quietUponIn]
   simp only[zA,zB,zC,Act.put,zD,zE,zF]
   refine gkT (.bool true) (fun w9 hw9=>?_) ?_
   ·unfold Oper.quietAtIn;simp [go_sem,Oper.quietUponIn]
   simp only[zA,zB,zC,Act.put,zD,zE,zF]
   refine gkT (.pointer (some ⟨Bx+1,6,none⟩)) (fun w9 hw9=>?_) ?_
   ·unfold Oper.quietAtIn;simp [go_sem,Oper.quietUponIn]
   simp only[zA,zB,zC,Act.put,zD,zE,zF]
   refine gkT (.slice ya p.ys.length yc) (fun w9 hw9=>?_) ?_
   ·have z0:=(hw9.cell (p:=⟨Bx+1,6,none⟩) (by show Bx+1<W.heap.size;omega)).trans c76;unfold Oper.quietAtIn;simp [go_sem,Oper.quietUponIn,z0]
   simp only[zA,zB,zC,Act.put,zD,zE,zF]
   refine gkT (.pointer (some ⟨Fb,0,none⟩)) (fun w9 hw9=>?_) ?_
   ·have z0:=(hw9.cell (p:=⟨w.heap.size,0,none⟩) (by show w.heap.size<W.heap.size;omega)).trans c1;unfold Oper.quietAtIn;simp [go_sem,Oper.quietUponIn,z0]
   simp only[zA,zB,zC,Act.put,zD,zE,zF]
   refine gkT (.pointer (some ⟨Fb,0,none⟩)) (fun w9 hw9=>?_) ?_
   ·unfold Oper.quietAtIn;simp [go_sem,Oper.quietUponIn]
   simp only[zA,zB,zC,Act.put,zD,zE,zF]
   refine gkT (.pointer (some ⟨Fb,4,none⟩)) (fun w9 hw9=>?_) ?_
   ·unfold Oper.quietAtIn;simp [go_sem,Oper.quietUponIn]
   simp only[zA,zB,zC,Act.put,zD,zE,zF]
   refine gkT (.slice (some ⟨kb,ko,none⟩) back.length kc) (fun w9 hw9=>?_) ?_
   ·have z0:=(hw9.cell (p:=⟨Fb,4,none⟩) (by show Fb<W.heap.size;omega)).trans cF4;unfold Oper.quietAtIn;simp [go_sem,Oper.quietUponIn,z0]
   simp only[zA,zB,zC,Act.put,zD,zE,zF]
   refine gkT (.pointer (some ⟨Bx,0,none⟩)) (fun w9 hw9=>?_) ?_
   ·unfold Oper.quietAtIn;simp [go_sem,Oper.quietUponIn]
   simp only[zA,zB,zC,Act.put,zD,zE,zF]
   refine gkT (.int .i64 i) (fun w9 hw9=>?_) ?_
   ·have z0:=(hw9.cell (p:=⟨Bx,0,none⟩) (by show Bx<W.heap.size;omega)).trans c60;unfold Oper.quietAtIn;simp [go_sem,Oper.quietUponIn,z0]
   simp only[zA,zB,zC,Act.put,zD,zE,zF]
   refine gkT (.pointer (some ⟨kb,ko+i,none⟩)) (fun w9 hw9=>?_) ?_
   ·have z0:=hib;unfold Oper.quietAtIn;simp [go_sem,Oper.quietUponIn,z0]
   simp only[zA,zB,zC,Act.put,zD,zE,zF]
   refine gkT (.slice ra row.length rc) (fun w9 hw9=>?_) ?_
   ·have z0:=(hw9.cell (p:=⟨kb,ko+i,none⟩) (by show kb<W.heap.size;omega)).trans crow;unfold Oper.quietAtIn;simp [go_sem,Oper.quietUponIn,z0]
   simp only[zA,zB,zC,Act.put,zD,zE,zF]
   refine Go.Proofs.YtjngffgkllakaaaGreatDoor.grow_take (.bool t) (by intro w9 _ f9 hf9;exact trivial) (by rfl) (fun w9 hw9=>?_) ?_
   ·unfold Oper.quietAtIn;simp [go_sem,Oper.quietUponIn];exact CallsIn.inRound l (callsIn_wide.2 ((HJ.out w9 hw9).mono fun e w2 h=>⟨h.1,hw9.trans (h.2.mono hw9.size)⟩))
   simp only[zA,zB,zC,Act.put,zD,zE,zF]
   refine gkT (.bool (!t)) (fun w9 hw9=>?_) ?_
   ·unfold Oper.quietAtIn;simp [go_sem,Oper.quietUponIn]
   simp only[zA,zB,zC,Act.put,zD,zE,zF]
   refine gkT (.bool (!t)) (fun w9 hw9=>?_) ?_
   ·unfold Oper.quietAtIn;simp [go_sem,Oper.quietUponIn]
   simp only[zA,zB,zC,Act.put,zD,zE,zF]
   refine wpQuietIn_nil ?_
   intro w9 hw9
   have HI9:=zH (HI.out.below hw9 (by omega))
   have HX9:=zH (show DefX (opC p xa xc ya yc) i k Bx w9 from⟨(hw9.block _ (by omega)).trans HXX.out.h,(hw9.block _ (by omega)).trans HXX.out.x⟩)
   have HB9:=zH (HBB.out.trans (hw9.mono HBB.out.size))
   have HKF:=zH (bS hw9 W4.heap.size)
   have HKC:=zH (bW.of_below (n₀:=n₀) (Bs:=w.heap.size+3) hw9 (by have:=HN.out;have:=HBB.out.size;omega) (by omega))
   have HSZ:=zH hw9.size
   have HW9:=zH hw9
   replace c78:w9.cell? ⟨Bx+1,8,none⟩=some (.int .i64 p.t):=(hw9.cell (p:=⟨Bx+1,8,none⟩) (by show Bx+1<W.heap.size;omega)).trans c78
   replace c75:w9.cell? ⟨Bx+1,5,none⟩=some (.slice xa p.xs.length xc):=(hw9.cell (p:=⟨Bx+1,5,none⟩) (by show Bx+1<W.heap.size;omega)).trans c75
   clear hw9 c1 c60 c61 c70 c76 cF4 crow HJ
   cases t
   ·have a1:=HI9.out.a.cell
    have a2:=HI9.out.a.frozen
    have e1:=HI9.out.e.cell
    have e2:=HI9.out.e.frozen
    have HNO:=zH (show ¬R (i,k) by
     rw[ER.out]
     rintro ⟨h1,_⟩
     simp only at h1
     rw[<-HP.out] at h1
     have h2:=HT.out.1
     rw[HT.out.2] at h2
     exact absurd (h1 h3) (of_decide_eq_false h2.symm))
    gi_wp2
    refine⟨HKF.out.trans (((KeepsOthers.setCell _ _ _).trans (KeepsOthers.setCell _ _ _)).from _),⟨rfl,⟨(i,k),by simp,HNO.out⟩,by have:=HI9.out.z;simp;omega,p.t,18,by decide,(HI9.out.a.set _).other (by omega) _,(HI9.out.e.other (by omega) _).set _⟩,(HB9.out.setCell (p:=⟨w.heap.size+1,0,none⟩) (by simp) _).setCell (p:=⟨w.heap.size+1+1,0,none⟩) (by simp;omega) _⟩
   ·have HPH:=zH (show p.k=3->dX p.ys=back[i]?.getD [] from fun _=>by
     have h2:=HT.out.1
     rw[HT.out.2] at h2
     exact of_decide_eq_true h2.symm)
    have hxl4:p.xs.length<=4096:=rr HOP.out HAR.out
    gi_wp2
    gi_loopw [37] (fun k' wr=>∃j:Nat,j<=p.xs.length/\k'=.int .i64 (j:Int)/\RowKit.Hid ((∀j',j'<j->du b f over (p.xs[j']?.getD 0).toNat (aV b p j' i k).1.toNat (aV b p j' i k).2=true)/\Below w9.heap.size w9 wr)) (fun k' _=>p.xs.length-(intOf k').toNat)
    case atStart=>exact⟨0,Nat.zero_le _,rfl,zH ⟨fun j' hj'=>absurd hj' (Nat.not_lt_zero _),Below.refl _ _⟩⟩
    case round =>
     clear c78 c75
     obtain⟨w8,rfl⟩:∃w8,w8=wr:=⟨_,rfl⟩
     obtain⟨j,hj,rfl,HJJ⟩:=hrel
     have hb8:=HJJ.out.2
     have HI8:=zH (HI9.out.below hb8 (by have:=HI9.out.z;omega))
     have hb9:=(Array.getElem?_eq_some_iff.1 HX9.out.x).1
     have HX8:=zH (show DefX (opC p xa xc ya yc) i k Bx w8 from⟨(hb8.block _ (by omega)).trans HX9.out.h,(hb8.block _ (by omega)).trans HX9.out.x⟩)
     have HB8:=zH (HB9.out.trans (hb8.mono HB9.out.size))
     have HW8:=zH (show Below W.heap.size W w8 from HW9.out.trans (hb8.mono HSZ.out))
     have h89:=hb8.size
     have c78:w8.cell? ⟨Bx+1,8,none⟩=some (.int .i64 p.t):=cell_of_row _ _ 8 _ _ _ HX8.out.x
     clear hb8
     by_cases hjt:j<p.xs.length
     ·obtain⟨zb,zo,exa,hz8⟩:=(HRX.out.below (HW8.out.mono (Nat.le_trans HN.out HBB.out.size))).cellAt hjt
      have hin:=HOP.out.2.2.2.2.2.2.1 j hjt
      have HJT:=zH hjt
      obtain⟨v,ev⟩:∃v:Nat,p.xs[j]?.getD 0=(v:Int):=⟨(p.xs[j]?.getD 0).toNat,by omega⟩
      rw[ev] at hz8 hin
      subst exa
      have HEV:=zH ev
      have c1:w8.cell? ⟨w.heap.size,0,none⟩=some (.pointer (some ⟨Fb,0,none⟩)):=cell_of_row _ _ 0 _ _ _ HI8.out.f
      have c60:w8.cell? ⟨Bx,0,none⟩=some (.int .i64 i):=cell_of_row _ _ 0 _ _ _ HX8.out.h
      have c61:w8.cell? ⟨Bx,1,none⟩=some (.int .i64 k):=cell_of_row _ _ 1 _ _ _ HX8.out.h
      have x0:w8.cell? ⟨Bx+1,0,none⟩=some (.int .u8 p.k):=cell_of_row _ _ 0 _ _ _ HX8.out.x
      have x1:w8.cell? ⟨Bx+1,1,none⟩=some (.int .u8 p.o):=cell_of_row _ _ 1 _ _ _ HX8.out.x
      have x2:w8.cell? ⟨Bx+1,2,none⟩=some (.int .i64 p.d):=cell_of_row _ _ 2 _ _ _ HX8.out.x
      have x3:w8.cell? ⟨Bx+1,3,none⟩=some (.int .i64 p.r):=cell_of_row _ _ 3 _ _ _ HX8.out.x
      have x4:w8.cell? ⟨Bx+1,4,none⟩=some (.int .i64 p.a):=cell_of_row _ _ 4 _ _ _ HX8.out.x
      have x5:w8.cell? ⟨Bx+1,5,none⟩=some (.slice (some ⟨zb,zo,none⟩) p.xs.length xc):=cell_of_row _ _ 5 _ _ _ HX8.out.x
      have x6:w8.cell? ⟨Bx+1,6,none⟩=some (.slice ya p.ys.length yc):=cell_of_row _ _ 6 _ _ _ HX8.out.x
      have x7:w8.cell? ⟨Bx+1,7,none⟩=some (.int .i64 p.n):=cell_of_row _ _ 7 _ _ _ HX8.out.x
      have x8:w8.cell? ⟨Bx+1,8,none⟩=some (.int .i64 p.t):=cell_of_row _ _ 8 _ _ _ HX8.out.x
      have HN8:=zH (show n₀<=w8.heap.size from Nat.le_trans HN.out HB8.out.size)
      have HNW:=zH (show n₀<=W.heap.size from Nat.le_trans HN.out HBB.out.size)
      have HF8:=zH (HFW.out.below (HW8.out.mono HNW.out))
      have HY8:=zH (HRY.out.below (HW8.out.mono HNW.out))
      have hnb:=ow (b:=b) (i:=i) (k:=k) HOP.out HJT.out hii
      have hbb:=HL.out.2
      have HND:=zH (fun(w9:World) (hw9:Below w8.heap.size w8 w9)=>mg p (some ⟨zb,zo,none⟩) ya xc yc j i k w9 (HF8.out.below (hw9.mono HN8.out)) (Nat.le_trans HN8.out hw9.size) (HY8.out.below (hw9.mono HN8.out)) hnb.2.2 (by omega))
      obtain⟨bi,ebi⟩:∃bi:Nat,(aV b p j i k).1=(bi:Int):=⟨(aV b p j i k).1.toNat,by omega⟩
      obtain⟨ki,eki⟩:∃ki,ki=(aV b p j i k).2:=⟨_,rfl⟩
      have hov:=HOV.out
      obtain⟨t9,et9⟩:∃t9,t9=du b f over v bi ki:=⟨_,rfl⟩
      have HTH:=zH (fun(w9:World) (hw9:Below w8.heap.size w8 w9)=>nL v bi ki w9 (HF8.out.below (hw9.mono HN8.out)) (Nat.le_trans HN8.out hw9.size) (by omega) (by omega) (by rw[hov.1];omega) (by rw[hov.1];omega) (hov.2 bi))
      rw[<-et9] at HTH
      rw[ebi,<-eki] at HND
      have HT9:=zH (show du b f over (p.xs[j]?.getD 0).toNat (aV b p j i k).1.toNat (aV b p j i k).2=t9 by rw[ev,ebi,<-eki,Int.toNat_natCast,Int.toNat_natCast];exact et9.symm)
      have HT9':=zH hnb
      have i2:(0:Int)<=j/\(j:Int)<p.xs.length:=by omega
      have hms:w.heap.size<w8.heap.size:=by have:=HI8.out.z;omega
      have hbx8:Bx+1<w8.heap.size:=by omega
      clear ev ebi eki et9 hov hnb
      gi_upto_region 9 with fail
      refine gy (C:=Below w8.heap.size w8) (by exact⟨rfl,rfl,rfl,Nat.le_refl _,fun _ _=>rfl⟩) (by kernel_rfl) (by kernel_rfl) (by kernel_rfl) ?_
      refine gkT (.pointer (some ⟨Fb,0,none⟩)) (fun w9 hw9=>?_) ?_
      ·have z0:=(hw9.cell (p:=⟨w.heap.size,0,none⟩) (by show w.heap.size<w8.heap.size;omega)).trans c1;unfold Oper.quietAtIn;simp [go_sem,Oper.quietUponIn,z0]
      simp only[zA,zB,zC,Act.put,zD,zE,zF]
      refine gkT (.int .i64 v) (fun w9 hw9=>?_) ?_
      ·unfold Oper.quietAtIn;simp [go_sem,Oper.quietUponIn]
      simp only[zA,zB,zC,Act.put,zD,zE,zF]
      refine gkT (.pointer (some ⟨Fb,0,none⟩)) (fun w9 hw9=>?_) ?_
      ·have z0:=(hw9.cell (p:=⟨w.heap.size,0,none⟩) (by show w.heap.size<w8.heap.size;omega)).trans c1;unfold Oper.quietAtIn;simp [go_sem,Oper.quietUponIn,z0]
      simp only[zA,zB,zC,Act.put,zD,zE,zF]
      refine gkT (.agg #[.int .u8 p.k,.int .u8 p.o,.int .i64 p.d,.int .i64 p.r,.int .i64 p.a,.slice (some ⟨zb,zo,none⟩) p.xs.length xc,.slice ya p.ys.length yc,.int .i64 p.n,.int .i64 p.t]) (fun w9 hw9=>?_) ?_
      ·have z0:=(hw9.cell (p:=⟨Bx+1,0,none⟩) (by show Bx+1<w8.heap.size;omega)).trans x0;have z1:=(hw9.cell (p:=⟨Bx+1,1,none⟩) (by show Bx+1<w8.heap.size;omega)).trans x1;have z2:=(hw9.cell (p:=⟨Bx+1,2,none⟩) (by show Bx+1<w8.heap.size;omega)).trans x2;have z3:=(hw9.cell (p:=⟨Bx+1,3,none⟩) (by show Bx+1<w8.heap.size;omega)).trans x3;have z4:=(hw9.cell (p:=⟨Bx+1,4,none⟩) (by show Bx+1<w8.heap.size;omega)).trans x4;have z5:=(hw9.cell (p:=⟨Bx+1,5,none⟩) (by show Bx+1<w8.heap.size;omega)).trans x5;have z6:=(hw9.cell (p:=⟨Bx+1,6,none⟩) (by show Bx+1<w8.heap.size;omega)).trans x6;have z7:=(hw9.cell (p:=⟨Bx+1,7,none⟩) (by show Bx+1<w8.heap.size;omega)).trans x7;have z8:=(hw9.cell (p:=⟨Bx+1,8,none⟩) (by show Bx+1<w8.heap.size;omega)).trans x8;unfold Oper.quietAtIn;simp [go_sem,Oper.quietUponIn,z0,z1,z2,z3,z4,z5,z6,z7,z8]
      simp only[zA,zB,zC,Act.put,zD,zE,zF]
      refine gkT (.int .i64 j) (fun w9 hw9=>?_) ?_
      ·unfold Oper.quietAtIn;simp [go_sem,Oper.quietUponIn]
      simp only[zA,zB,zC,Act.put,zD,zE,zF]
      refine gkT (.agg #[.int .i64 i,.int .i64 k]) (fun w9 hw9=>?_) ?_
      ·have z0:=(hw9.cell (p:=⟨Bx,0,none⟩) (by show Bx<w8.heap.size;omega)).trans c60;have z1:=(hw9.cell (p:=⟨Bx,1,none⟩) (by show Bx<w8.heap.size;omega)).trans c61;unfold Oper.quietAtIn;simp [go_sem,Oper.quietUponIn,z0,z1]
      simp only[zA,zB,zC,Act.put,zD,zE,zF]
      refine Go.Proofs.YtjngffgkllakaaaGreatDoor.grow_take (.agg #[.int .i64 bi,.int .i64 ki]) (by intro w9 _ f9 hf9;exact trivial) (by rfl) (fun w9 hw9=>?_) ?_
      ·unfold Oper.quietAtIn;simp [go_sem,Oper.quietUponIn];exact CallsIn.inRound l (callsIn_wide.2 ((HND.out w9 hw9).mono fun e w2 h=>⟨h.1,hw9.trans (h.2.mono hw9.size)⟩))
      simp only[zA,zB,zC,Act.put,zD,zE,zF]
      refine Go.Proofs.YtjngffgkllakaaaGreatDoor.grow_take (.bool t9) (by intro w9 _ f9 hf9;exact trivial) (by rfl) (fun w9 hw9=>?_) ?_
      ·unfold Oper.quietAtIn;simp [go_sem,Oper.quietUponIn];exact CallsIn.inRound l (callsIn_wide.2 ((HTH.out w9 hw9).mono fun e w2 h=>⟨h.1,hw9.trans (h.2.mono hw9.size)⟩))
      simp only[zA,zB,zC,Act.put,zD,zE,zF]
      refine gkT (.bool (!t9)) (fun w9 hw9=>?_) ?_
      ·unfold Oper.quietAtIn;simp [go_sem,Oper.quietUponIn]
      simp only[zA,zB,zC,Act.put,zD,zE,zF]
      refine wpQuietIn_nil ?_
      intro w7 hw7
      have HI7:=zH (HI8.out.below hw7 (by omega))
      have HB7:=zH (HB8.out.trans (hw7.mono HB8.out.size))
      have HKF7:=zH (HKF.out.trans ((bS HJJ.out.2 W4.heap.size).trans (bS hw7 W4.heap.size)))
      have HJ7:=zH (HJJ.out.2.trans (hw7.mono h89))
      have k78:w7.cell? ⟨Bx+1,8,none⟩=some (.int .i64 p.t):=(hw7.cell (p:=⟨Bx+1,8,none⟩) (by show Bx+1<w8.heap.size;omega)).trans c78
      clear hw7 c78 c1 c60 c61 x0 x1 x2 x3 x4 x5 x6 x7 x8 HND HTH
      cases t9
      ·have a1:=HI7.out.a.cell
       have a2:=HI7.out.a.frozen
       have e1:=HI7.out.e.cell
       have e2:=HI7.out.e.frozen
       have HNO:=zH (show ¬R (i,k) by
        rw[ER.out]
        rintro ⟨_,h1⟩
        simp only at h1
        rw[<-HP.out] at h1
        have h2:=h1 j HJT.out
        rw[HT9.out] at h2
        cases h2)
       gi_wp2
       exact⟨HKF7.out.trans (((KeepsOthers.setCell _ _ _).trans (KeepsOthers.setCell _ _ _)).from _),⟨rfl,⟨(i,k),by simp,HNO.out⟩,by have:=HI7.out.z;simp;omega,p.t,19,by decide,(HI7.out.a.set _).other (by omega) _,(HI7.out.e.other (by omega) _).set _⟩,(HB7.out.setCell (p:=⟨w.heap.size+1,0,none⟩) (by simp) _).setCell (p:=⟨w.heap.size+1+1,0,none⟩) (by simp;omega) _⟩
      ·have HNX:=zH (show ∀j',j'<j+1->du b f over (p.xs[j']?.getD 0).toNat (aV b p j' i k).1.toNat (aV b p j' i k).2=true from fun j' hj'=>by
        by_cases e:j'=j
        ·rw[e];exact HT9.out
        ·exact HJJ.out.1 j' (by omega))
       gi_wp2
       go_roundw
       case rel=>exact⟨j+1,HJT.out,by go_num,zH ⟨HNX.out,HJ7.out⟩⟩
       case measure=>have:=HJT.out;simp [intOf];omega
     ·have ej:j=p.xs.length:=by omega
      subst ej
      have HUSE:=zH (show R (i,k) by
       rw[ER.out]
       refine⟨fun h=>?_,fun j' hj'=>?_⟩
       ·simp only at h ⊢
        rw[<-HP.out] at h ⊢
        exact HPH.out h
       ·simp only at hj' ⊢
        rw[<-HP.out] at hj' ⊢
        exact HJJ.out.1 j' hj')
      have HJ8:=zH (bW.of_below (n₀:=n₀) (Bs:=w.heap.size+3) HJJ.out.2 (by have:=HN.out;have:=HB9.out.size;omega) (by have:=HI9.out.z;omega))
      have HKF8:=zH (HKF.out.trans (bS HJJ.out.2 W4.heap.size))
      gi_wp2
      refine⟨HKF8.out,HKC.out.trans HJ8.out,⟨HI8.out.z,HI8.out.f,HI8.out.a,HI8.out.e,fun y hy=>?_⟩,HB8.out⟩
      rw[List.map_append] at hy
      rcases List.mem_append.1 hy with h | h
      ·exact HI8.out.h y h
      ·have:y=(i,k):=by simpa using h
       rw[this]
       exact HUSE.out
  ·have HPH:=zH (show p.k=3->dX p.ys=back[i]?.getD [] from fun h=>absurd h h3)
   have hk3:(p.k == 3)=false:=beq_eq_false_iff_ne.2 h3
   gi_upto_region 4 with fail
   refine cG (by kernel_rfl) (by kernel_rfl) (by kernel_rfl) ?_
   repeat (gi_big_quiet_step (fail))
   refine Go.BigFrame.wpQuietIn_skip (by intro w9 _ f9 _;exact trivial) (by rfl) ?_
   simp only[zA,zB,zC,Act.put,zD,zE,zF]
   repeat (gi_big_quiet_step (fail))
   refine wpQuietIn_nil ?_
   intro w9 hw9
   replace hw9:Below W.heap.size W w9:=by
    obtain⟨nq,e⟩:=hw9
    rw[e]
    exact⟨rfl,rfl,rfl,Nat.le_refl _,fun _ _=>rfl⟩
   have HI9:=zH (HI.out.below hw9 (by omega))
   have HX9:=zH (show DefX (opC p xa xc ya yc) i k Bx w9 from⟨(hw9.block _ (by omega)).trans HXX.out.h,(hw9.block _ (by omega)).trans HXX.out.x⟩)
   have HB9:=zH (HBB.out.trans (hw9.mono HBB.out.size))
   have HKF:=zH (bS hw9 W4.heap.size)
   have HKC:=zH (bW.of_below (n₀:=n₀) (Bs:=w.heap.size+3) hw9 (by have:=HN.out;have:=HBB.out.size;omega) (by omega))
   have HSZ:=zH hw9.size
   have HW9:=zH hw9
   replace c78:w9.cell? ⟨Bx+1,8,none⟩=some (.int .i64 p.t):=(hw9.cell (p:=⟨Bx+1,8,none⟩) (by show Bx+1<W.heap.size;omega)).trans c78
   replace c75:w9.cell? ⟨Bx+1,5,none⟩=some (.slice xa p.xs.length xc):=(hw9.cell (p:=⟨Bx+1,5,none⟩) (by show Bx+1<W.heap.size;omega)).trans c75
   clear hw9 c1 c60 c61 c70 c76
   have hxl4:p.xs.length<=4096:=rr HOP.out HAR.out
   gi_wp2
   gi_loopw [37] (fun k' wr=>∃j:Nat,j<=p.xs.length/\k'=.int .i64 (j:Int)/\RowKit.Hid ((∀j',j'<j->du b f over (p.xs[j']?.getD 0).toNat (aV b p j' i k).1.toNat (aV b p j' i k).2=true)/\Below w9.heap.size w9 wr)) (fun k' _=>p.xs.length-(intOf k').toNat)
   case atStart=>exact⟨0,Nat.zero_le _,rfl,zH ⟨fun j' hj'=>absurd hj' (Nat.not_lt_zero _),Below.refl _ _⟩⟩
   case round =>
    clear c78 c75
    obtain⟨w8,rfl⟩:∃w8,w8=wr:=⟨_,rfl⟩
    obtain⟨j,hj,rfl,HJJ⟩:=hrel
    have hb8:=HJJ.out.2
    have HI8:=zH (HI9.out.below hb8 (by have:=HI9.out.z;omega))
    have hb9:=(Array.getElem?_eq_some_iff.1 HX9.out.x).1
    have HX8:=zH (show DefX (opC p xa xc ya yc) i k Bx w8 from⟨(hb8.block _ (by omega)).trans HX9.out.h,(hb8.block _ (by omega)).trans HX9.out.x⟩)
    have HB8:=zH (HB9.out.trans (hb8.mono HB9.out.size))
    have HW8:=zH (show Below W.heap.size W w8 from HW9.out.trans (hb8.mono HSZ.out))
    have h89:=hb8.size
    have c78:w8.cell? ⟨Bx+1,8,none⟩=some (.int .i64 p.t):=cell_of_row _ _ 8 _ _ _ HX8.out.x
    clear hb8
    by_cases hjt:j<p.xs.length
    ·obtain⟨zb,zo,exa,hz8⟩:=(HRX.out.below (HW8.out.mono (Nat.le_trans HN.out HBB.out.size))).cellAt hjt
     have hin:=HOP.out.2.2.2.2.2.2.1 j hjt
     have HJT:=zH hjt
     obtain⟨v,ev⟩:∃v:Nat,p.xs[j]?.getD 0=(v:Int):=⟨(p.xs[j]?.getD 0).toNat,by omega⟩
     rw[ev] at hz8 hin
     subst exa
     have HEV:=zH ev
     have c1:w8.cell? ⟨w.heap.size,0,none⟩=some (.pointer (some ⟨Fb,0,none⟩)):=cell_of_row _ _ 0 _ _ _ HI8.out.f
     have c60:w8.cell? ⟨Bx,0,none⟩=some (.int .i64 i):=cell_of_row _ _ 0 _ _ _ HX8.out.h
     have c61:w8.cell? ⟨Bx,1,none⟩=some (.int .i64 k):=cell_of_row _ _ 1 _ _ _ HX8.out.h
     have x0:w8.cell? ⟨Bx+1,0,none⟩=some (.int .u8 p.k):=cell_of_row _ _ 0 _ _ _ HX8.out.x
     have x1:w8.cell? ⟨Bx+1,1,none⟩=some (.int .u8 p.o):=cell_of_row _ _ 1 _ _ _ HX8.out.x
     have x2:w8.cell? ⟨Bx+1,2,none⟩=some (.int .i64 p.d):=cell_of_row _ _ 2 _ _ _ HX8.out.x
     have x3:w8.cell? ⟨Bx+1,3,none⟩=some (.int .i64 p.r):=cell_of_row _ _ 3 _ _ _ HX8.out.x
     have x4:w8.cell? ⟨Bx+1,4,none⟩=some (.int .i64 p.a):=cell_of_row _ _ 4 _ _ _ HX8.out.x
     have x5:w8.cell? ⟨Bx+1,5,none⟩=some (.slice (some ⟨zb,zo,none⟩) p.xs.length xc):=cell_of_row _ _ 5 _ _ _ HX8.out.x
     have x6:w8.cell? ⟨Bx+1,6,none⟩=some (.slice ya p.ys.length yc):=cell_of_row _ _ 6 _ _ _ HX8.out.x
     have x7:w8.cell? ⟨Bx+1,7,none⟩=some (.int .i64 p.n):=cell_of_row _ _ 7 _ _ _ HX8.out.x
     have x8:w8.cell? ⟨Bx+1,8,none⟩=some (.int .i64 p.t):=cell_of_row _ _ 8 _ _ _ HX8.out.x
     have HN8:=zH (show n₀<=w8.heap.size from Nat.le_trans HN.out HB8.out.size)
     have HNW:=zH (show n₀<=W.heap.size from Nat.le_trans HN.out HBB.out.size)
     have HF8:=zH (HFW.out.below (HW8.out.mono HNW.out))
     have HY8:=zH (HRY.out.below (HW8.out.mono HNW.out))
     have hnb:=ow (b:=b) (i:=i) (k:=k) HOP.out HJT.out hii
     have hbb:=HL.out.2
     have HND:=zH (fun(w9:World) (hw9:Below w8.heap.size w8 w9)=>mg p (some ⟨zb,zo,none⟩) ya xc yc j i k w9 (HF8.out.below (hw9.mono HN8.out)) (Nat.le_trans HN8.out hw9.size) (HY8.out.below (hw9.mono HN8.out)) hnb.2.2 (by omega))
     obtain⟨bi,ebi⟩:∃bi:Nat,(aV b p j i k).1=(bi:Int):=⟨(aV b p j i k).1.toNat,by omega⟩
     obtain⟨ki,eki⟩:∃ki,ki=(aV b p j i k).2:=⟨_,rfl⟩
     have hov:=HOV.out
     obtain⟨t9,et9⟩:∃t9,t9=du b f over v bi ki:=⟨_,rfl⟩
     have HTH:=zH (fun(w9:World) (hw9:Below w8.heap.size w8 w9)=>nL v bi ki w9 (HF8.out.below (hw9.mono HN8.out)) (Nat.le_trans HN8.out hw9.size) (by omega) (by omega) (by rw[hov.1];omega) (by rw[hov.1];omega) (hov.2 bi))
     rw[<-et9] at HTH
     rw[ebi,<-eki] at HND
     have HT9:=zH (show du b f over (p.xs[j]?.getD 0).toNat (aV b p j i k).1.toNat (aV b p j i k).2=t9 by rw[ev,ebi,<-eki,Int.toNat_natCast,Int.toNat_natCast];exact et9.symm)
     have HT9':=zH hnb
     have i2:(0:Int)<=j/\(j:Int)<p.xs.length:=by omega
     have hms:w.heap.size<w8.heap.size:=by have:=HI8.out.z;omega
     have hbx8:Bx+1<w8.heap.size:=by omega
     clear ev ebi eki et9 hov hnb
     gi_upto_region 9 with fail
     refine gy (C:=Below w8.heap.size w8) (by exact⟨rfl,rfl,rfl,Nat.le_refl _,fun _ _=>rfl⟩) (by kernel_rfl) (by kernel_rfl) (by kernel_rfl) ?_
     refine gkT (.pointer (some ⟨Fb,0,none⟩)) (fun w9 hw9=>?_) ?_
     ·have z0:=(hw9.cell (p:=⟨w.heap.size,0,none⟩) (by show w.heap.size<w8.heap.size;omega)).trans c1;unfold Oper.quietAtIn;simp [go_sem,Oper.quietUponIn,z0]
     simp only[zA,zB,zC,Act.put,zD,zE,zF]
     refine gkT (.int .i64 v) (fun w9 hw9=>?_) ?_
     ·unfold Oper.quietAtIn;simp [go_sem,Oper.quietUponIn]
     simp only[zA,zB,zC,Act.put,zD,zE,zF]
     refine gkT (.pointer (some ⟨Fb,0,none⟩)) (fun w9 hw9=>?_) ?_
     ·have z0:=(hw9.cell (p:=⟨w.heap.size,0,none⟩) (by show w.heap.size<w8.heap.size;omega)).trans c1;unfold Oper.quietAtIn;simp [go_sem,Oper.quietUponIn,z0]
     simp only[zA,zB,zC,Act.put,zD,zE,zF]
     refine gkT (.agg #[.int .u8 p.k,.int .u8 p.o,.int .i64 p.d,.int .i64 p.r,.int .i64 p.a,.slice (some ⟨zb,zo,none⟩) p.xs.length xc,.slice ya p.ys.length yc,.int .i64 p.n,.int .i64 p.t]) (fun w9 hw9=>?_) ?_
     ·have z0:=(hw9.cell (p:=⟨Bx+1,0,none⟩) (by show Bx+1<w8.heap.size;omega)).trans x0;have z1:=(hw9.cell (p:=⟨Bx+1,1,none⟩) (by show Bx+1<w8.heap.size;omega)).trans x1;have z2:=(hw9.cell (p:=⟨Bx+1,2,none⟩) (by show Bx+1<w8.heap.size;omega)).trans x2;have z3:=(hw9.cell (p:=⟨Bx+1,3,none⟩) (by show Bx+1<w8.heap.size;omega)).trans x3;have z4:=(hw9.cell (p:=⟨Bx+1,4,none⟩) (by show Bx+1<w8.heap.size;omega)).trans x4;have z5:=(hw9.cell (p:=⟨Bx+1,5,none⟩) (by show Bx+1<w8.heap.size;omega)).trans x5;have z6:=(hw9.cell (p:=⟨Bx+1,6,none⟩) (by show Bx+1<w8.heap.size;omega)).trans x6;have z7:=(hw9.cell (p:=⟨Bx+1,7,none⟩) (by show Bx+1<w8.heap.size;omega)).trans x7;have z8:=(hw9.cell (p:=⟨Bx+1,8,none⟩) (by show Bx+1<w8.heap.size;omega)).trans x8;unfold Oper.quietAtIn;simp [go_sem,Oper.quietUponIn,z0,z1,z2,z3,z4,z5,z6,z7,z8]
     simp only[zA,zB,zC,Act.put,zD,zE,zF]
     refine gkT (.int .i64 j) (fun w9 hw9=>?_) ?_
     ·unfold Oper.quietAtIn;simp [go_sem,Oper.quietUponIn]
     simp only[zA,zB,zC,Act.put,zD,zE,zF]
     refine gkT (.agg #[.int .i64 i,.int .i64 k]) (fun w9 hw9=>?_) ?_
     ·have z0:=(hw9.cell (p:=⟨Bx,0,none⟩) (by show Bx<w8.heap.size;omega)).trans c60;have z1:=(hw9.cell (p:=⟨Bx,1,none⟩) (by show Bx<w8.heap.size;omega)).trans c61;unfold Oper.quietAtIn;simp [go_sem,Oper.quietUponIn,z0,z1]
     simp only[zA,zB,zC,Act.put,zD,zE,zF]
     refine Go.Proofs.YtjngffgkllakaaaGreatDoor.grow_take (.agg #[.int .i64 bi,.int .i64 ki]) (by intro w9 _ f9 hf9;exact trivial) (by rfl) (fun w9 hw9=>?_) ?_
     ·unfold Oper.quietAtIn;simp [go_sem,Oper.quietUponIn];exact CallsIn.inRound l (callsIn_wide.2 ((HND.out w9 hw9).mono fun e w2 h=>⟨h.1,hw9.trans (h.2.mono hw9.size)⟩))
     simp only[zA,zB,zC,Act.put,zD,zE,zF]
     refine Go.Proofs.YtjngffgkllakaaaGreatDoor.grow_take (.bool t9) (by intro w9 _ f9 hf9;exact trivial) (by rfl) (fun w9 hw9=>?_) ?_
     ·unfold Oper.quietAtIn;simp [go_sem,Oper.quietUponIn];exact CallsIn.inRound l (callsIn_wide.2 ((HTH.out w9 hw9).mono fun e w2 h=>⟨h.1,hw9.trans (h.2.mono hw9.size)⟩))
     simp only[zA,zB,zC,Act.put,zD,zE,zF]
     refine gkT (.bool (!t9)) (fun w9 hw9=>?_) ?_
     ·unfold Oper.quietAtIn;simp [go_sem,Oper.quietUponIn]
     simp only[zA,zB,zC,Act.put,zD,zE,zF]
     refine wpQuietIn_nil ?_
     intro w7 hw7
     have HI7:=zH (HI8.out.below hw7 (by omega))
     have HB7:=zH (HB8.out.trans (hw7.mono HB8.out.size))
     have HKF7:=zH (HKF.out.trans ((bS HJJ.out.2 W4.heap.size).trans (bS hw7 W4.heap.size)))
     have HJ7:=zH (HJJ.out.2.trans (hw7.mono h89))
     have k78:w7.cell? ⟨Bx+1,8,none⟩=some (.int .i64 p.t):=(hw7.cell (p:=⟨Bx+1,8,none⟩) (by show Bx+1<w8.heap.size;omega)).trans c78
     clear hw7 c78 c1 c60 c61 x0 x1 x2 x3 x4 x5 x6 x7 x8 HND HTH
     cases t9
     ·have a1:=HI7.out.a.cell
      have a2:=HI7.out.a.frozen
      have e1:=HI7.out.e.cell
      have e2:=HI7.out.e.frozen
      have HNO:=zH (show ¬R (i,k) by
       rw[ER.out]
       rintro ⟨_,h1⟩
       simp only at h1
       rw[<-HP.out] at h1
       have h2:=h1 j HJT.out
       rw[HT9.out] at h2
       cases h2)
      gi_wp2
      exact⟨HKF7.out.trans (((KeepsOthers.setCell _ _ _).trans (KeepsOthers.setCell _ _ _)).from _),⟨rfl,⟨(i,k),by simp,HNO.out⟩,by have:=HI7.out.z;simp;omega,p.t,19,by decide,(HI7.out.a.set _).other (by omega) _,(HI7.out.e.other (by omega) _).set _⟩,(HB7.out.setCell (p:=⟨w.heap.size+1,0,none⟩) (by simp) _).setCell (p:=⟨w.heap.size+1+1,0,none⟩) (by simp;omega) _⟩
     ·have HNX:=zH (show ∀j',j'<j+1->du b f over (p.xs[j']?.getD 0).toNat (aV b p j' i k).1.toNat (aV b p j' i k).2=true from fun j' hj'=>by
       by_cases e:j'=j
       ·rw[e];exact HT9.out
       ·exact HJJ.out.1 j' (by omega))
      gi_wp2
      go_roundw
      case rel=>exact⟨j+1,HJT.out,by go_num,zH ⟨HNX.out,HJ7.out⟩⟩
      case measure=>have:=HJT.out;simp [intOf];omega
    ·have ej:j=p.xs.length:=by omega
     subst ej
     have HUSE:=zH (show R (i,k) by
      rw[ER.out]
      refine⟨fun h=>?_,fun j' hj'=>?_⟩
      ·simp only at h ⊢
       rw[<-HP.out] at h ⊢
       exact HPH.out h
      ·simp only at hj' ⊢
       rw[<-HP.out] at hj' ⊢
       exact HJJ.out.1 j' hj')
     have HJ8:=zH (bW.of_below (n₀:=n₀) (Bs:=w.heap.size+3) HJJ.out.2 (by have:=HN.out;have:=HB9.out.size;omega) (by have:=HI9.out.z;omega))
     have HKF8:=zH (HKF.out.trans (bS HJJ.out.2 W4.heap.size))
     gi_wp2
     refine⟨HKF8.out,HKC.out.trans HJ8.out,⟨HI8.out.z,HI8.out.f,HI8.out.a,HI8.out.e,fun y hy=>?_⟩,HB8.out⟩
     rw[List.map_append] at hy
     rcases List.mem_append.1 hy with h | h
     ·exact HI8.out.h y h
     ·have:y=(i,k):=by simpa using h
      rw[this]
      exact HUSE.out
 case done =>
  rintro D ys W hD hys ⟨hI,hB⟩ hKD
  have HI:=zH hI
  have HBB:=zH hB
  have HALL:=zH (show ∀i j,i<b.bs.length->j<(blAt b i).length->ou b f back over (i,j) from fun i j h1 h2=>by
   rw[<-ER.out]
   refine hI.h (i,j) ?_
   rw[hys]
   exact items_mem ls (by rw[HM2.out];exact h1) (by rw[HS.out.2 i];exact h2))
  have a1:=hI.a.cell
  have a2:=hI.a.frozen
  have e1:=hI.e.cell
  have e2:=hI.e.frozen
  clear hI hB hys
  gi_wp2
  go_wp2
  go_region
  have h1:(((W.setCell ⟨w.heap.size+1,0,none⟩ (.int .i64 0)).setCell ⟨w.heap.size+1+1,0,none⟩ (.int .i64 0)).drew).cell? ⟨w.heap.size+1,0,none⟩=some (.int .i64 0) :=
   (World.cell?_setCell_other _ _ _ _ (by simp)).trans (World.cell?_setCell_same' _ _ _ (by rw[a1];rfl))
  have h2:(((W.setCell ⟨w.heap.size+1,0,none⟩ (.int .i64 0)).setCell ⟨w.heap.size+1+1,0,none⟩ (.int .i64 0)).drew).cell? ⟨w.heap.size+1+1,0,none⟩=some (.int .i64 0) :=
   World.cell?_setCell_same' _ _ _ (by rw[World.cell?_setCell_other _ _ _ _ (by simp),e1];rfl)
  have h3:(((W.setCell ⟨w.heap.size+1,0,none⟩ (.int .i64 0)).setCell ⟨w.heap.size+1+1,0,none⟩ (.int .i64 0)).drew).heap[D]?=some (.deferred (some [])):=((KeepsOthers.setCell W ⟨w.heap.size+1,0,none⟩ (.int .i64 0)).trans (KeepsOthers.setCell _ ⟨w.heap.size+1+1,0,none⟩ (.int .i64 0))).same D _ hKD rfl
  have h4:Below w.heap.size w (((W.setCell ⟨w.heap.size+1,0,none⟩ (.int .i64 0)).setCell ⟨w.heap.size+1+1,0,none⟩ (.int .i64 0)).drew):=((HBB.out.setCell (p:=⟨w.heap.size+1,0,none⟩) (by simp) _).setCell (p:=⟨w.heap.size+1+1,0,none⟩) (by simp;omega) _).trans ⟨rfl,rfl,rfl,Nat.le_refl _,fun _ _=>rfl⟩
  generalize (((W.setCell ⟨w.heap.size+1,0,none⟩ (.int .i64 0)).setCell ⟨w.heap.size+1+1,0,none⟩ (.int .i64 0)).drew)=X at h1 h2 h3 h4 ⊢
  go_wp2
  simp only[Exit.noGoto]
  refine⟨by simp,.inl ⟨_,_,rfl,run_takeDeferred h3,?_⟩⟩
  have h1':=cell_kept h1 (grownBy_putObj' _ D (.deferred none)) (fun r e=>(by cases e;exact⟨_,h3,rfl⟩))
  have h2':=cell_kept h2 (grownBy_putObj' _ D (.deferred none)) (fun r e=>(by cases e;exact⟨_,h3,rfl⟩))
  refine⟨.tuple #[.int .i64 0,.int .i64 0],?_,⟨0,0,rfl,⟨fun _=>HALL.out,fun _=>rfl⟩⟩,h4.trans (belowK_b (w:=w) (Nat.le_refl _) _ D _ _ (by omega) h3 rfl rfl)⟩
  simp [results,Tryz.f93,go_sem,h1',h2']
 case stop =>
  rintro D c' pre W hD hpre ⟨⟨rfl,⟨y,hy,hyR⟩,hzz,t,k',hk',ha,he⟩,hB⟩ hKD
  have HBB:=zH hB
  have HNO:=zH (show ¬ ∀i j,i<b.bs.length->j<(blAt b i).length->ou b f back over (i,j) from fun h=>by
   obtain⟨z,hz,rfl⟩:=List.mem_map.1 hy
   apply hyR
   rw[ER.out]
   exact h z.1.1 z.1.2 (by rw[<-HM2.out];exact z.2.1) (by rw[<-HS.out.2 z.1.1];exact z.2.2))
  have HK0:=zH hk'
  have a1:=ha.cell
  have a2:=ha.frozen
  have e1:=he.cell
  have e2:=he.frozen
  clear hB hy hyR hpre hk' ha he
  gi_wp2
  go_wp2
  go_region
  have h1:(((W.setCell ⟨w.heap.size+1,0,none⟩ (.int .i64 t)).setCell ⟨w.heap.size+1+1,0,none⟩ (.int .i64 k')).drew).cell? ⟨w.heap.size+1,0,none⟩=some (.int .i64 t) :=
   (World.cell?_setCell_other _ _ _ _ (by simp)).trans (World.cell?_setCell_same' _ _ _ (by rw[a1];rfl))
  have h2:(((W.setCell ⟨w.heap.size+1,0,none⟩ (.int .i64 t)).setCell ⟨w.heap.size+1+1,0,none⟩ (.int .i64 k')).drew).cell? ⟨w.heap.size+1+1,0,none⟩=some (.int .i64 k') :=
   World.cell?_setCell_same' _ _ _ (by rw[World.cell?_setCell_other _ _ _ _ (by simp),e1];rfl)
  have h3:(((W.setCell ⟨w.heap.size+1,0,none⟩ (.int .i64 t)).setCell ⟨w.heap.size+1+1,0,none⟩ (.int .i64 k')).drew).heap[D]?=some (.deferred (some [])):=((KeepsOthers.setCell W ⟨w.heap.size+1,0,none⟩ (.int .i64 t)).trans (KeepsOthers.setCell _ ⟨w.heap.size+1+1,0,none⟩ (.int .i64 k'))).same D _ hKD rfl
  have h4:Below w.heap.size w (((W.setCell ⟨w.heap.size+1,0,none⟩ (.int .i64 t)).setCell ⟨w.heap.size+1+1,0,none⟩ (.int .i64 k')).drew):=((HBB.out.setCell (p:=⟨w.heap.size+1,0,none⟩) (by simp) _).setCell (p:=⟨w.heap.size+1+1,0,none⟩) (by simp;omega) _).trans ⟨rfl,rfl,rfl,Nat.le_refl _,fun _ _=>rfl⟩
  generalize (((W.setCell ⟨w.heap.size+1,0,none⟩ (.int .i64 t)).setCell ⟨w.heap.size+1+1,0,none⟩ (.int .i64 k')).drew)=X at h1 h2 h3 h4 ⊢
  go_wp2
  simp only[Exit.noGoto]
  refine⟨by simp,.inl ⟨_,_,rfl,run_takeDeferred h3,?_⟩⟩
  have h1':=cell_kept h1 (grownBy_putObj' _ D (.deferred none)) (fun r e=>(by cases e;exact⟨_,h3,rfl⟩))
  have h2':=cell_kept h2 (grownBy_putObj' _ D (.deferred none)) (fun r e=>(by cases e;exact⟨_,h3,rfl⟩))
  refine⟨.tuple #[.int .i64 t,.int .i64 k'],?_,⟨t,k',rfl,⟨fun h=>absurd h HK0.out,fun h=>absurd h HNO.out⟩⟩,h4.trans (belowK_b (w:=w) (Nat.le_refl _) _ D _ _ (by omega) h3 rfl rfl)⟩
  simp [results,Tryz.f93,go_sem,h1',h2']
end
section
open Go.RowKit
def avB(to9:List (List Int))(a b:Nat):Bool:=decide (a≠0) && GG.reachB to9 a 0 b
theorem av_any{v:Value}{to9:List (List Int)}(a:Nat)(W:World)(hv:aq W.heap.size W v to9)(hr:GG.al to9=true) :
 Calls Tryz.prog 75 #[v,.int .i64 0,.int .i64 a] W fun e W'=>lL W to9.length (avB to9 a) e W':=by
 have hl:=GG.aC hr
 by_cases h:a=0
 ·subst h
  refine(oV 0 W hv hl.2).mono fun e W' h=>⟨h.1,World.rowIs.congr h.2.1 (fun i _=>?_),h.2.2⟩
  unfold avB;simp
 ·refine(iw 0 a W hv hr (by omega) (by omega)).mono fun e W' h'=>⟨h'.1,World.rowIs.congr h'.2.1 (fun i _=>?_),h'.2.2⟩
  unfold avB;rw[decide_eq_true h,Bool.true_and]
theorem ovB_eq(to9:List (List Int))(a b:Nat):DD.ovB to9 a b=(decide (a=b) || !avB to9 a b):=rfl
set_option maxHeartbeats 800000 in
theorem rx{v:Value}{to9:List (List Int)}(a b:Nat)(W:World)(hv:aq W.heap.size W v to9)(hr:GG.al to9=true)(ha:a<to9.length)(hb:b<to9.length) :
 Calls Tryz.prog 116 #[v,.int .i64 a,.int .i64 b] W fun e W'=>e=.returned (.bool (DD.ovB to9 a b))/\Below W.heap.size W W':=by
 have HV:=zH hv
 have HR:=zH hr
 obtain⟨va,vc,rfl⟩:=hv.form
 clear hv hr
 by_cases h:a=b
 ·subst h
  have HS:=zH (show DD.ovB to9 a a=true by rw[ovB_eq,decide_eq_true rfl,Bool.true_or])
  have he:((a:Int) == (a:Int))=true:=beq_self_eq_true _
  go_enter Tryz.func116,Tryz.ntmps116
  go_wp2_with fail
  go_ret
  exact⟨af HS.out.symm,Below.refl _ _⟩
 ·have HS:=zH (show DD.ovB to9 a b = !avB to9 a b by rw[ovB_eq,decide_eq_false h,Bool.false_or])
  have he:((a:Int) == (b:Int))=false:=beq_eq_false_iff_ne.2 (by omega)
  have i1:(0:Int)<=b/\(b:Int)<to9.length:=by omega
  go_enter Tryz.func116,Tryz.ntmps116
  go_wp2_with (go_at_call 75
               refine(av_any a _ HV.out HR.out).mono ?_
               rintro e w1 ⟨rfl,hf,hB⟩
               have hcb:=World.rowIs.cell hf hb
               have HB:=zH hB
               clear hf hB)
  go_ret
  exact⟨af HS.out.symm,HB.out⟩
end
end Go.Proofs.YtjngffgkllakaaaGreatDoor
namespace Go.Proofs.YtjngffgkllakaaaGreatDoor.DD
open GG
section
variable {to9:List (List Int)} {T:Nat->Int}
theorem fin_fn(hr:al to9=true)(ha:allB to9=true)(F:Fin to9.length (am to9) (plOf to9) T):fnOf (cH to9)=T:=by
 rw[<-qx hr ha F];exact sE F.inv.out
theorem fQ(hr:al to9=true)(ha:allB to9=true):(cH to9).length=to9.length:=by unfold cH domsL;rw[if_pos ⟨hr,ha⟩];simp
theorem fin_tree(hr:al to9=true)(ha:allB to9=true)(F:Fin to9.length (am to9) (plOf to9) T):treeB (cH to9)=true:=by
 have hl:=aC hr
 refine gO.2 ⟨by rw[fQ hr ha];exact hl,by rw[fin_fn hr ha F];exact F.inv.root,fun i hi=>?_⟩
 rw[fin_fn hr ha F]
 rw[fQ hr ha] at hi
 exact F.inv.to_root _ i (Nat.le_refl _) (F.all i hi)
theorem fin_dom(hr:al to9=true)(ha:allB to9=true)(F:Fin to9.length (am to9) (plOf to9) T){a b:Nat}(hb:b<to9.length):domB (cH to9) a b=ovB to9 a b:=by
 have h1:=domB_iff (a:=a) (b:=b) (fin_tree hr ha F) (by rw[fQ hr ha];exact hb)
 rw[fin_fn hr ha F] at h1
 have h2:=(ov_iff hr a b).trans (F.dom b a hb).symm
 cases c1:domB (cH to9) a b
 ·cases c2:ovB to9 a b
  ·rfl
  ·exact absurd (h1.2 (h2.1 c2)) (by rw[c1];simp)
 ·exact(h2.2 (h1.1 c1)).symm
end
end Go.Proofs.YtjngffgkllakaaaGreatDoor.DD
namespace Go.Proofs.YtjngffgkllakaaaGreatDoor
open List renaming getElem_toArray → zA, getElem_cons_succ → zB, getElem_cons_zero → zC, setIfInBounds_toArray → zD, set_cons_zero → zE, set_cons_succ → zF
open Lib renaming hid → zH
section
open Go.RowKit
open CD (OpP BodyP CodeP aj blAt fnAt)
def leadsB(l:List OpP):List Int :=
 if (aj l (l.length-1)).k=13 then [] else if (aj l (l.length-1)).k=11 then [(aj l (l.length-1)).r] else if (aj l (l.length-1)).r=(aj l (l.length-1)).a then [(aj l (l.length-1)).r] else [(aj l (l.length-1)).r,(aj l (l.length-1)).a]
def toB(b:BodyP):List (List Int):=b.bs.map leadsB
theorem fF(b:BodyP):(toB b).length=b.bs.length:=by unfold toB;rw[List.length_map]
section
variable {q:CD.Cnt} {c:CodeP} {b:BodyP}
theorem ox(h:CD.aK q c b){i:Nat}(hi:i<b.bs.length):CD.Ends (aj (blAt b i) ((blAt b i).length-1)).k:=by
 have h1:=h.2.1 i hi
 have h2:=(h1.2 ((blAt b i).length-1) (by have:=h1.1;omega)).2.1
 exact h2.2 (by have:=h1.1;omega)
theorem last_op(h:CD.aK q c b){i:Nat}(hi:i<b.bs.length):∃nx,CD.OpOk q c b (aj (blAt b i) ((blAt b i).length-1)) nx:=by
 have h1:=h.2.1 i hi
 exact⟨_,(h1.2 ((blAt b i).length-1) (by have:=h1.1;omega)).1⟩
theorem leadsB_ok(h:CD.aK q c b){i:Nat}(hi:i<b.bs.length):GG.cp b.bs.length (leadsB (blAt b i))=true:=by
 obtain⟨nx,ho⟩:=last_op h hi
 have he:=ox h hi
 have hr:=ho.2.2.2.1
 have ha:=ho.2.2.2.2.1
 unfold leadsB GG.cp GG.inB
 obtain⟨x,ex⟩:∃x,x=aj (blAt b i) ((blAt b i).length-1):=⟨_,rfl⟩
 rw[<-ex] at he hr ha ⊢
 rcases he with e | e | e
 ·have e1:CD.refN q b.bs.length x.k=b.bs.length:=by unfold CD.refN;rw[e];rfl
  rw[e1] at hr
  rw[if_neg (by omega),if_pos e]
  simp
  omega
 ·have e1:CD.refN q b.bs.length x.k=b.bs.length:=by unfold CD.refN;rw[e];rfl
  have e2:CD.altN b.bs.length x.k=b.bs.length:=by unfold CD.altN;rw[e];rfl
  rw[e1] at hr
  rw[e2] at ha
  rw[if_neg (by omega),if_neg (by omega)]
  by_cases hra:x.r=x.a
  ·rw[if_pos hra]
   simp
   omega
  ·rw[if_neg hra]
   simp
   omega
 ·rw[if_pos e]
  simp
theorem gT(h:CD.aK q c b):GG.al (toB b)=true:=by
 unfold GG.al
 rw[fF,Bool.and_eq_true]
 refine⟨decide_eq_true (by have:=h.1.2;omega),List.all_eq_true.2 fun row hrow=>?_⟩
 unfold toB at hrow
 obtain⟨l,hl,rfl⟩:=List.mem_map.1 hrow
 obtain⟨i,hi,rfl⟩:=List.getElem_of_mem hl
 have h1:=leadsB_ok h hi
 unfold blAt at h1
 rw[List.getElem?_eq_getElem hi] at h1
 exact h1
theorem leads_rel(h:CD.aK q c b){n₀:Nat}{W:World}{vs:List OpV}{i:Nat}(hi:i<b.bs.length)(hr:dV n₀ W vs (blAt b i)):bu vs=some (leadsB (blAt b i)):=by
 have h1:=(h.2.1 i hi).1
 have hl:=hr.1
 have hv:vs.getLast?=some vs[vs.length-1]:=by rw[List.getLast?_eq_getElem?,List.getElem?_eq_getElem (by omega)]
 have ho:=(hr.2 (vs.length-1) _ (List.getElem?_eq_getElem (by omega))).1
 have he:=ox h hi
 rw[iz hv]
 unfold leadsB
 generalize vs[vs.length-1]=y at ho
 rw[hl] at ho
 obtain⟨x,ex⟩:∃x,x=aj (blAt b i) ((blAt b i).length-1):=⟨_,rfl⟩
 rw[<-ex] at he ho ⊢
 rw[ho.1,ho.2.2.2.1,ho.2.2.2.2.1]
 by_cases e13:x.k=13
 ·rw[if_pos e13,if_pos e13]
 ·rw[if_neg e13,if_neg e13]
  by_cases e11:x.k=11
  ·rw[if_pos e11,if_pos e11]
  ·rw[if_neg e11,if_neg e11,if_pos (by rcases he with e | e | e <;> omega)]
   by_cases e:x.r=x.a
   ·rw[if_pos e,if_pos e]
   ·rw[if_neg e,if_neg e]
theorem of_rel(h:CD.aK q c b){n₀:Nat}{W:World}{ls:List (List OpV)}(h1:ls.length=b.bs.length)(h2:∀j,j<b.bs.length->dV n₀ W (ls[j]?.getD []) (b.bs[j]?.getD [])):ofB ls=true/\ofL ls=toB b:=by
 have hA:∀i,i<ls.length->bu (ls[i]?.getD [])=some (leadsB (blAt b i)):=fun i hi=>leads_rel h (by omega) (h2 i (by omega))
 have hW:cN ls ls.length=toB b:=by
  apply List.ext_getElem?
  intro i
  unfold cN toB
  rw[List.take_length,List.getElem?_map,List.getElem?_map]
  by_cases hi:i<ls.length
  ·have:=hA i hi
   rw[List.getElem?_eq_getElem hi] at this ⊢
   rw[List.getElem?_eq_getElem (show i<b.bs.length by omega)]
   simp only[Option.map_some,Option.getD_some] at this ⊢
   rw[this]
   unfold blAt
   rw[List.getElem?_eq_getElem (show i<b.bs.length by omega)]
   rfl
  ·rw[List.getElem?_eq_none (by omega),List.getElem?_eq_none (by omega)]
   rfl
 have hb:ofB ls=true:=by
  rw[pd (oX fun i hi=>by rw[hA i hi];rfl),hW]
  exact gT h
 exact⟨hb,by unfold ofL;rw[if_pos hb,hW]⟩
end
theorem kP{q:CD.Cnt}{c:CodeP}{b:BodyP}(h:CD.aK q c b):cQ (toB b):=by
 refine⟨by rw[fF];have:=h.1.2;omega,fun row hr=>?_⟩
 unfold toB at hr
 obtain⟨l,_,rfl⟩:=List.mem_map.1 hr
 unfold leadsB
 split
 ·simp
 ·split
  ·simp
  ·split <;> simp
theorem tB(to9:List (List Int)):(DD.cH to9).length<=to9.length:=by
 by_cases h:GG.al to9=true/\DD.allB to9=true
 ·rw[DD.fQ h.1 h.2]
  exact Nat.le_refl _
 ·unfold DD.cH
  rw[if_neg h]
  exact Nat.zero_le _
theorem kQ{to9:List (List Int)}(hr:GG.al to9=true)(h:gr to9):DD.allB to9=true:=by
 have h1:=h.1
 unfold ft at h1
 rw[if_pos hr] at h1
 unfold DD.allB
 refine List.all_eq_true.2 fun x hx=>?_
 unfold GG.cE at h1
 cases e:(List.range to9.length).find? (fun x=>!GG.reachB to9 (-1) 0 x) with
 | some k=>rw[e] at h1;simp only at h1;omega
 | none =>
   have h2:=List.find?_eq_none.1 e x hx
   simpa using h2
theorem tC{b:BodyP}(h:(toB b).length=b.bs.length)(h2:b.bs.length<=64)(i:Nat):((GG.bR (toB b))[i]?.getD []).length<=4000:=by
 by_cases hi:i<(toB b).length
 ·rw[GG.gU hi]
  have:=kz (toB b) i (toB b).length
  omega
 ·rw[List.getElem?_eq_none (by rw[GG.cg];omega)]
  simp
theorem pP(xs:List Int)(i:Nat):((chainsL xs)[i]?.getD []).length<=4000:=by
 by_cases hi:i<xs.length
 ·rw[mf xs hi]
  have:=me xs (i:Int)
  omega
 ·rw[List.getElem?_eq_none (by show (chainsTo xs xs.length).length<=i;rw[ib];omega)]
  simp
def eW(b:BodyP)(to9:List (List Int))(v bi:Nat)(ki:Int):Bool :=
 if (v:Int)<b.pa then true else if FF b (itB b) (v*2)=bi then decide (FF b (itB b) (v*2+1)<ki) else DD.ovB to9 (FF b (itB b) (v*2)).toNat bi
def iO(b:BodyP)(to9:List (List Int))(v bi:Nat):Bool :=
 if (v:Int)<b.pa then true else DD.ovB to9 (FF b (itB b) (v*2)).toNat bi
def fromR(to9:List (List Int))(ys:List Int)(bi:Nat):Prop:=∀i,i<to9.length->ys.count (i:Int)=if GG.leadsB to9 i (bi:Int)=true then 1 else 0
def UseR(b:BodyP)(to9:List (List Int))(y:Nat × Nat):Prop :=
 if (aj (blAt b y.1) y.2).k=3 then fromR to9 (aj (blAt b y.1) y.2).ys y.1/\∀j,j<(aj (blAt b y.1) y.2).xs.length->iO b to9 ((aj (blAt b y.1) y.2).xs[j]?.getD 0).toNat ((aj (blAt b y.1) y.2).ys[j]?.getD 0).toNat=true
 else ∀j,j<(aj (blAt b y.1) y.2).xs.length->eW b to9 ((aj (blAt b y.1) y.2).xs[j]?.getD 0).toNat y.1 y.2=true
theorem ry{to9:List (List Int)}{ys:List Int}{bi:Nat}(hy:∀x∈ys,0<=x/\x<(to9.length:Nat)):dX ys=GG.cD to9 bi to9.length↔fromR to9 ys bi:=by
 have hp:(dX ys).Perm ys:=List.mergeSort_perm _ _
 have hn:=GG.kX to9 bi to9.length
 have hm:∀i:Nat,i<to9.length->((i:Int)∈GG.cD to9 bi to9.length↔GG.leadsB to9 i (bi:Int)=true):=by
  intro i hi
  rw[GG.eo]
  unfold GG.leadsB
  rw[decide_eq_true_iff]
  constructor
  ·rintro ⟨k,e,_,h⟩
   have:k=i:=by omega
   rw[<-this];exact h
  ·exact fun h=>⟨i,rfl,hi,h⟩
 constructor
 ·intro e i hi
  rw[<-hp.count_eq,e,hn.count]
  by_cases h:GG.leadsB to9 i (bi:Int)=true
  ·rw[if_pos ((hm i hi).2 h),if_pos h]
  ·rw[if_neg (fun h'=>h ((hm i hi).1 h')),if_neg h]
 ·intro h
  have hperm:ys.Perm (GG.cD to9 bi to9.length):=by
   rw[List.perm_iff_count]
   intro a
   by_cases ha:0<=a/\a<(to9.length:Nat)
   ·obtain⟨i,rfl⟩:∃i:Nat,a=(i:Int):=⟨a.toNat,by omega⟩
    have hi:i<to9.length:=by omega
    rw[h i hi,hn.count]
    by_cases h:GG.leadsB to9 i (bi:Int)=true
    ·rw[if_pos ((hm i hi).2 h),if_pos h]
    ·rw[if_neg (fun h'=>h ((hm i hi).1 h')),if_neg h]
   ·rw[List.count_eq_zero.2 (fun hm=>ha (hy a hm)),List.count_eq_zero.2 (fun hm=>ha (by
    obtain⟨k,rfl,hk,_⟩:=GG.eo.1 hm
    omega))]
  refine(hp.trans hperm).eq_of_pairwise (le:=fun x y:Int=>decide (x<=y)=true) (fun a b _ _ h1 h2=>by simp at h1 h2;omega) (List.pairwise_mergeSort (fun a b c h1 h2=>by simp at *;omega) (fun a b=>by simp;omega) ys) ?_
  exact(GG.oN to9 bi to9.length).imp (fun h=>by simp;omega)
theorem oy{to9:List (List Int)}(hr:GG.al to9=true)(ha:DD.allB to9=true)(hF:pz to9){x bi:Nat}(hb:bi<to9.length):(decide ((x:Int)∈(chainsL (DD.cH to9))[bi]?.getD []))=DD.ovB to9 x bi:=by
 obtain⟨T,F⟩:=hF hr ha
 rw[mf _ (by rw[DD.fQ hr ha];exact hb)]
 exact DD.fin_dom hr ha F hb
section
variable {q:CD.Cnt} {c:CodeP} {b:BodyP}
theorem ff_at(h:CD.aK q c b){v:Nat}(h1:b.pa<=v)(h2:(v:Int)<b.va):∃i k:Nat,i<b.bs.length/\k<(blAt b i).length/\(aj (blAt b i) k).d=(v:Nat)/\FF b (itB b) (v*2)=(i:Nat)/\FF b (itB b) (v*2+1)=(k:Nat):=by
 have hs:ja (b.bs.map fun l=>l.map fun _=>ov0) b:=⟨by rw[List.length_map],itB_at b⟩
 have hd:=qA h hs
 have h0:=CD.gJ (blAt b b.bs.length)
 have h3:=h.2.2
 have h4:=h.1.1.1
 obtain⟨i,k,a1,a2,_,a4,a5,a6⟩:=hd.hi v (by omega) (by omega)
 exact⟨i,k,a1,a2,a4,a5,a6⟩
theorem there_eq(h:CD.aK q c b)(hr:GG.al (toB b)=true)(ha:DD.allB (toB b)=true)(hF:pz (toB b)){v bi:Nat}(hv:(v:Int)<b.va)(hb:bi<b.bs.length){ki:Int} :
 du b (FF b (itB b)) (chainsL (DD.cH (toB b))) v bi ki=eW b (toB b) v bi ki:=by
 unfold du eW
 by_cases hp:(v:Int)<b.pa
 ·rw[if_pos hp,if_pos hp]
 ·rw[if_neg hp,if_neg hp]
  obtain⟨i',k',a1,a2,a3,a4,a5⟩:=ff_at h (by omega) hv
  rw[a4,a5,Int.toNat_natCast]
  by_cases e:(i':Int)=(bi:Int)
  ·rw[if_pos e,if_pos e]
  ·rw[if_neg e,if_neg e,oy hr ha hF (by rw[fF];exact hb)]
theorem rz(h:CD.aK q c b)(hr:GG.al (toB b)=true)(ha:DD.allB (toB b)=true)(hF:pz (toB b)){i j:Nat}(hi:i<b.bs.length)(hj:j<(blAt b i).length) :
 ou b (FF b (itB b)) (GG.bR (toB b)) (chainsL (DD.cH (toB b))) (i,j)↔UseR b (toB b) (i,j):=by
 have hl:=fF b
 have ho:=((h.2.1 i hi).2 j hj).1
 obtain⟨x,ex⟩:∃x,x=aj (blAt b i) j:=⟨_,rfl⟩
 rw[<-ex] at ho
 have hxs:=ho.2.2.2.2.2.2.1
 have hys:=ho.2.2.2.2.2.2.2
 unfold ou UseR
 simp only[<-ex]
 by_cases h3:x.k=3
 ·rw[if_pos h3]
  have hc:=ho.2.2.2.2.2.1
  unfold CD.bH at hc
  rw[if_pos h3] at hc
  rw[GG.gU (by omega)]
  refine and_congr ⟨fun g=>(ry ?_).1 (g h3),fun g _=>(ry ?_).2 g⟩ (forall_congr' fun m=>forall_congr' fun hm=>?_)
  ·intro y hy
   obtain⟨m,hm,rfl⟩:=List.getElem_of_mem hy
   have:=hys m hm
   rw[List.getElem?_eq_getElem hm] at this
   rw[hl];exact this
  ·intro y hy
   obtain⟨m,hm,rfl⟩:=List.getElem_of_mem hy
   have:=hys m hm
   rw[List.getElem?_eq_getElem hm] at this
   rw[hl];exact this
  ·have h1:=hxs m hm
   have h2:=hys m (by omega)
   unfold aV
   rw[if_pos h3]
   simp only
   obtain⟨v,ev⟩:∃v:Nat,x.xs[m]?.getD 0=(v:Int):=⟨(x.xs[m]?.getD 0).toNat,by omega⟩
   obtain⟨f,ef⟩:∃f:Nat,x.ys[m]?.getD 0=(f:Int):=⟨(x.ys[m]?.getD 0).toNat,by omega⟩
   rw[ev] at h1 ⊢
   rw[ef] at h2 ⊢
   rw[Int.toNat_natCast,Int.toNat_natCast]
   unfold du iO
   by_cases hp:(v:Int)<b.pa
   ·rw[if_pos hp,if_pos hp]
   ·rw[if_neg hp,if_neg hp]
    obtain⟨i',k',a1,a2,a3,a4,a5⟩:=ff_at h (by omega) h1.2
    rw[a4,a5,Int.toNat_natCast]
    by_cases e:(i':Int)=(f:Int)
    ·have e':i'=f:=by omega
     subst e'
     rw[if_pos rfl,decide_eq_true (by omega)]
     unfold DD.ovB
     rw[decide_eq_true rfl,Bool.true_or]
    ·rw[if_neg e,oy hr ha hF (by omega)]
 ·rw[if_neg h3]
  have hT:∀m,m<x.xs.length->du b (FF b (itB b)) (chainsL (DD.cH (toB b))) (x.xs[m]?.getD 0).toNat (aV b x m i j).1.toNat (aV b x m i j).2=eW b (toB b) (x.xs[m]?.getD 0).toNat i j:=by
   intro m hm
   have h1:=hxs m hm
   unfold aV
   rw[if_neg h3]
   simp only[Int.toNat_natCast]
   exact there_eq h hr ha hF (by omega) hi
  refine⟨fun g m hm=>?_,fun g=>⟨fun g'=>absurd g' h3,fun m hm=>?_⟩⟩
  ·rw[<-hT m hm];exact g.2 m hm
  ·rw[hT m hm];exact g m hm
end
end
end Go.Proofs.YtjngffgkllakaaaGreatDoor
