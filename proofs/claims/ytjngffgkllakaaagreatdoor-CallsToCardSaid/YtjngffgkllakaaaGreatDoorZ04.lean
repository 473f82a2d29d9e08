/- A part of a proof: laws that the last text uses. -/
import Derived.Test.YtjngffgkllakaaaGreatDoorZ02
import Derived.Test.YtjngffgkllakaaaGreatDoorZ03
import Derived.Laws.IdiomCopy
import Derived.Laws.CopyOwn
import Derived.ChangeKeysEq
import Derived.RangeFuncNested
import Derived.Deep.QuietTactic
import Derived.BigQuiet
import Derived.Sort.QuietIn
import Derived.Sort.CutIn
import Derived.Deep.RegionWith
import Derived.ScopeJumps
import Derived.WalkMore
set_option linter.unusedSimpArgs false
set_option linter.unusedVariables false
namespace Go.Proofs.YtjngffgkllakaaaGreatDoor
open List renaming getElem_toArray → zA, getElem_cons_succ → zB, getElem_cons_zero → zC, setIfInBounds_toArray → zD, set_cons_zero → zE, set_cons_succ → zF
open Lib renaming hid → zH
section
open Go.RowKit
def cj(W:World)(g n:Nat)(f:Nat->Int):Prop:=W.rowIs g 3 n (fun i=>.int .i64 (f i))
theorem cj.set{W:World}{g n:Nat}{f:Nat->Int}(h:cj W g n f)(i:Nat)(c:Int):cj (W.setCell ⟨g,i,none⟩ (.int .i64 c)) g n (DD.setI f i c):=by
 refine World.rowIs.congr (World.rowIs.set h i (.int .i64 c)) (fun j _=>?_)
 unfold DD.setI
 by_cases e:j=i <;> simp [e]
theorem cj.congr{W:World}{g n:Nat}{f f':Nat->Int}(h:cj W g n f)(e:∀i,i<n->f i=f' i):cj W g n f':=World.rowIs.congr h (fun i hi=>by rw[e i hi])
theorem cj.rd{W:World}{g n:Nat}{f:Nat->Int}(h:cj W g n f):Rd W g 0 n f:=fun i hi=>by rw[Nat.zero_add];exact World.rowIs.cell h hi
theorem cj.below{W W':World}{g n B:Nat}{f:Nat->Int}(h:cj W g n f)(hb:Below B W W')(hg:g<B):cj W' g n f:=World.rowIs.of_block h (hb.block g hg)
theorem cj.row{W:World}{g n:Nat}{f:Nat->Int}(h:cj W g n f):Row W.heap.size W (.slice (some ⟨g,0,none⟩) n n) ((List.range n).map f):=by
 refine .inr ⟨g,0,n,by rw[aY];simp,World.rowIs.lt h,by rw[aY];simp,fun j u hj=>?_⟩
 have hjn:j<n:=by
  have:=(List.getElem?_eq_some_iff.1 hj).1
  rw[aY] at this;simpa using this
 unfold ap at hj
 rw[List.getElem?_map,List.getElem?_map,List.getElem?_range hjn] at hj
 rw[Nat.zero_add,World.rowIs.cell h hjn]
 exact hj
def plA(l:List Int)(m x:Nat):Int:=if GG.atI l m x<0 then 0 else GG.atI l m x
theorem plA_zero(l:List Int)(x:Nat):0=plA l 0 x:=by unfold plA;rw[GG.atI_zero];rfl
theorem plA_succ{l:List Int}(hn:l.Nodup){m:Nat}(hm:m<l.length)(hp:0<=l[m]?.getD 0)(x:Nat):DD.setI (plA l m) (l[m]?.getD 0).toNat (m:Int) x=plA l (m+1) x:=by
 unfold DD.setI plA
 rw[GG.atI_succ hn hm hp]
 by_cases e:x=(l[m]?.getD 0).toNat
 ·rw[if_pos e,if_pos e,if_neg (by omega)]
 ·rw[if_neg e,if_neg e]
theorem plA_all{l:List Int}{m x:Nat}(hm:l.length<=m)(hx:(x:Int)∈l):plA l m x=(l.idxOf (x:Int):Int):=by
 unfold plA GG.atI
 rw[List.take_of_length_le hm,if_pos hx,if_neg (by omega)]
set_option maxHeartbeats 1600000 in
theorem sr(la:Option Addr)(lc:Nat)(l:List Int)(w:World)(HF:Row w.heap.size w (.slice la l.length lc) l)(hn:l.Nodup)(hll:l.length<=256)(hl:∀x∈l,0<=x/\x<l.length) :
 Calls Tryz.prog 145 #[.slice la l.length lc] w fun e w'=>e=.returned (.slice (some ⟨w.heap.size,0,none⟩) l.length l.length)/\cj w' w.heap.size l.length (plA l l.length)/\Below w.heap.size w w':=by
 have hmk:=run_make_row' (P:=Tryz.prog) 54 3 (.int .i64 0) 8 (by kernel_rfl) Tryz.infoGInt rfl .i64 .i64 l.length (by omega) (by omega)
 have H0:=zH (show cj (w.alloc (.cells (madeCells #[.int .i64 0] l.length) 3)) w.heap.size l.length (fun _=>0) from World.rowIs_made w (.int .i64 0) l.length 3)
 have HFF:=zH HF
 have HL:=zH hl
 have HN:=zH hn
 clear HF hl hn
 go_enter Tryz.func145,Tryz.ntmps145
 go_wp2_with fail
 clear hmk
 go_loopw [11] (fun k wr=>∃q:Nat,q<=l.length/\k=.int .i64 (q:Int)/\cj wr w.heap.size l.length (plA l q)/\Below w.heap.size w wr) (fun k _=>l.length-(intOf k).toNat)
 case atStart=>exact⟨0,Nat.zero_le _,rfl,H0.out.congr (fun x _=>plA_zero l x),(Below.refl _ _).alloc (Nat.le_refl _) _⟩
 case round =>
  obtain⟨q,hq,rfl,hT,hB⟩:=hrel
  have HT:=zH hT
  have HB:=zH hB
  clear hT hB H0
  by_cases hqt:q<l.length
  ·obtain⟨fb,fo,rfl,hc⟩:=(HFF.out.below HB.out).cellAt hqt
   have i1:(0:Int)<=q/\(q:Int)<l.length:=by omega
   have hx:=HL.out _ (GG.bn (d:=(0:Int)) hqt)
   have HS:=zH (fun x=>plA_succ HN.out hqt hx.1 x)
   obtain⟨x,ex⟩:∃x,x=l[q]?.getD 0:=⟨_,rfl⟩
   rw[<-ex] at hc hx HS
   clear ex
   obtain⟨y,rfl⟩:∃y:Nat,x=(y:Int):=⟨x.toNat,by omega⟩
   rw[Int.toNat_natCast] at HS
   have hyn:y<l.length:=by omega
   have i2:(0:Int)<=y/\(y:Int)<l.length:=by omega
   have hcy:=World.rowIs.cell HT.out hyn
   have hfy:=World.rowIs.frozen HT.out y
   clear hx
   go_wp2_with fail
   go_roundw
   case rel=>exact⟨q+1,by omega,by go_num,(HT.out.set y (q:Int)).congr (fun x _=>HS.out x),HB.out.setCell (p:=⟨w.heap.size,y,none⟩) (Nat.le_refl _) _⟩
   case measure=>simp [intOf];omega
  ·have HE:=zH (show cj wr w.heap.size l.length (plA l l.length) by have h:=HT.out;rwa [show q=l.length by omega] at h)
   clear HT
   go_wp2_with fail
   go_ret
   exact⟨rfl,HE.out,HB.out⟩
section
variable {P:Program} {w:World}
theorem nG{ops:Array Oper}{o:Oper}{a:Act}{K:Act->World->Prop}{Q:Exit->Act->World->Prop}{E:Prop}(hg:o.guard=none)(d s:Operand)(dT sT:TypeId)
 (ho:o.op=.call { callee:=.builtin .copy,args:=#[d,s],argTypes:=#[dT,sT] }) (dv sv:Value) (hd:a.eval d=dv) (hs:a.eval s=sv) (m:Nat) (w1:World)
 (hrun:∀ty,(Builtin.copy_ #[dT,sT] ty #[dv,sv]).run P w=.ok (.int .i64 m) w1) (h:K (a.put o.dst (.int .i64 m)) w1) :
 if Region.wanted o (yielded ops a.tmps)=true then Oper.wp P o a w K Q else E:=by
 rw[if_pos (by simp [Region.wanted,hg])]
 have hrun:=hrun o.type
 unfold Oper.wp
 simp [execOp,ho,resolve,invoke,builtin,hd,hs,hrun,Result.andThen]
 exact h
end
theorem cj.setCells{g n:Nat}{v:Int}:∀(m o:Nat) (W:World) (f:Nat->Int),cj W g n f->cj (W.setCells g o (List.replicate m (.int .i64 v))) g n (fun i=>if o<=i/\i<o+m then v else f i)
 | 0,o,W,f,h=>h.congr fun i _=>by rw[if_neg (by omega)]
 | m+1,o,W,f,h=>by
   rw[List.replicate_succ,World.setCells]
   refine(cj.setCells m (o+1) _ _ (h.set o v)).congr fun i _=>?_
   unfold DD.setI
   by_cases e:i=o
   ·subst e;rw[if_neg (by omega),if_pos rfl,if_pos (by omega)]
   ·rw[if_neg e]
    by_cases e2:o+1<=i/\i<o+1+m
    ·rw[if_pos e2,if_pos (by omega)]
    ·rw[if_neg e2,if_neg (by omega)]
theorem dh{g B:Nat}{v:Value}(hB:B<=g):∀(m o:Nat) (W0 W:World),Below B W0 W->Below B W0 (W.setCells g o (List.replicate m v))
 | 0,_,_,_,h=>h
 | m+1,o,W0,W,h=>by
   rw[List.replicate_succ,World.setCells]
   exact dh hB m (o+1) W0 _ (h.setCell (p:=⟨g,o,none⟩) hB v)
theorem jn{W:World}{g n off:Nat}{f:Nat->Int}(h:cj W g n f)(v:Int)(m dLen dCap:Nat)(b so sLen sCap:Nat)(hm:m=Nat.min sLen dLen)(hfit:off+m<=n)(hsrc:∀j,j<m->W.cell? ⟨b,so+j,none⟩=some (.int .i64 v))(ty:TypeId) :
 (Builtin.copy_ #[54,54] ty #[.slice (some ⟨g,off,none⟩) dLen dCap,.slice (some ⟨b,so,none⟩) sLen sCap]).run Tryz.prog W=.ok (.int .i64 m) (W.setCells g off (List.replicate m (.int .i64 v))):=by
 have:=run_copy_cells (P:=Tryz.prog) W 54 54 ty 3 g off dLen dCap ⟨b,so,none⟩ sLen sCap (List.replicate m (.int .i64 v)) Tryz.underlying54 (by kernel_rfl) (by rw[List.length_replicate];exact hm) (fun j u hj=>by
  rw[List.getElem?_replicate] at hj
  split at hj
  ·rename_i hjm
   rw[Addr.add_lit,hsrc j hjm];exact hj
  ·cases hj) (fun j hj=>by
  rw[List.length_replicate] at hj
  rw[World.rowIs.cell h (show off+j<n by omega)];rfl) (fun j hj=>World.rowIs.frozen h _) (fun u hu=>by rw[(List.mem_replicate.1 hu).2];rfl)
 rw[List.length_replicate] at this
 exact this
set_option maxHeartbeats 1600000 in
theorem su(b off c n:Nat)(v:Int)(w:World)(hc:w.cell? ⟨b,off,none⟩=some (.int .i64 v))(hb:b<w.heap.size)(h1:1<=n)(hn:n<=256) :
 Calls Tryz.prog 146 #[.slice (some ⟨b,off,none⟩) 1 c,.int .i64 n] w fun e w'=>e=.returned (.slice (some ⟨w.heap.size,0,none⟩) n n)/\cj w' w.heap.size n (fun _=>v)/\Below w.heap.size w w':=by
 have hmk:=run_make_row' (P:=Tryz.prog) 54 3 (.int .i64 0) 8 (by kernel_rfl) Tryz.infoGInt rfl .i64 .i64 n (by omega) (by omega)
 have H0:=zH (show cj (w.alloc (.cells (madeCells #[.int .i64 0] n) 3)) w.heap.size n (fun _=>0) from World.rowIs_made w (.int .i64 0) n 3)
 have HB0:=zH ((Below.refl w.heap.size w).alloc (Nat.le_refl _) (.cells (madeCells #[.int .i64 0] n) 3))
 have hc1:(w.alloc (.cells (madeCells #[.int .i64 0] n) 3)).cell? ⟨b,off,none⟩=some (.int .i64 v):=(HB0.out.cell (p:=⟨b,off,none⟩) hb).trans hc
 have HC:=zH (fun ty=>jn H0.out v 1 n n b off 1 c (by show 1=min 1 n;omega) (by omega) (fun j hj=>by rw[show off+j=off by omega];exact hc1) ty)
 have H1:=zH (H0.out.setCells (v:=v) 1 0)
 have HB1:=zH (dh (v:=.int .i64 v) (Nat.le_refl w.heap.size) 1 0 _ _ HB0.out)
 go_enter Tryz.func146,Tryz.ntmps146
 have hcp:=HC.out
 go_wp2_with (go_at_call 183;refine(Tryz.bits_Mul 1 n (by omega) (by omega) _).mono ?_;rintro e w1 ⟨rfl,hw⟩;rw[hw];clear hw w1;rw[show ((1*n / 18446744073709551616:Nat):Int)=0 by omega,show ((1*n % 18446744073709551616:Nat):Int)=(n:Int) by omega])
 clear hcp hmk
 go_loopw [8] (fun k wr=>∃q:Nat,1<=q/\q<=n/\k=.int .i64 (q:Int)/\cj wr w.heap.size n (fun i=>if i<q then v else 0)/\Below w.heap.size w wr) (fun k _=>n-(intOf k).toNat)
 case atStart=>exact⟨1,Nat.le_refl _,h1,rfl,H1.out.congr (fun i _=>by by_cases e:i<1 <;> simp [e]),HB1.out⟩
 case round =>
  obtain⟨q,hq1,hq,rfl,hI,hB⟩:=hrel
  have HI:=zH hI
  have HB:=zH hB
  clear hI hB H1 HB1 H0 HB0 HC hc1
  by_cases hqt:q<n
  ·obtain⟨m,hm⟩:∃m,m=min q (n-q):=⟨_,rfl⟩
   have HMM:=zH hm
   have hm1:m<=q/\q+m<=n/\1<=m:=by omega
   have HC:=zH (fun ty=>jn (W:=wr.drew) (g:=w.heap.size) (n:=n) (f:=fun i=>if i<q then v else 0) HI.out v m (n-q) (n-q) w.heap.size 0 q n (by show m=min q (n-q);exact hm) hm1.2.1 (fun j hj=>by
    rw[Nat.zero_add]
    have:=World.rowIs.cell HI.out (show j<n by omega)
    rw[show (fun i:Nat=>if i<q then v else 0) j=v from if_pos (by omega)] at this;exact this) ty)
   have HN:=zH (cj.setCells (v:=v) m q wr.drew _ HI.out)
   have HBN:=zH (dh (v:=.int .i64 v) (Nat.le_refl w.heap.size) m q _ _ HB.out.drew)
   have b1:(0:Int)<=(q:Int):=by omega
   have b2:(q:Int)<=(n:Int):=by omega
   have b3:((q:Int)).toNat=q:=by omega
   have b4:IntKind.i64.wrap ((q:Int)+(m:Int))=(q:Int)+(m:Int):=IntWalk.i64_in _ (by omega)
   have b5:n≠q:=by omega
   clear hm
   go_wp2_with fail
   go_region_law (refine nG rfl (.tmp 41) (.tmp 44) 54 54 rfl _ _ rfl rfl m _ (by simp only[zA,zB,zC,Act.put,Act.eval,zD,zE,zF];exact HC.out) ?_)
   simp only[zA,zB,zC,Act.put,zD,zE,zF]
   go_wp2_with fail
   go_roundw
   case rel=>exact⟨q+m,by omega,by omega,by go_num,HN.out.congr (fun i _=>by by_cases e:i<q+m <;> by_cases e2:i<q <;> by_cases e3:q<=i <;> simp [e,e2,e3] <;> omega),HBN.out⟩
   case measure=>simp [intOf];omega
  ·go_wp2_with fail
   go_ret
   exact⟨rfl,HI.out.congr (fun i hi=>by rw[if_pos (by omega)]),HB.out⟩
end
section
open CD (OpP BodyP CodeP aj blAt fnAt)
def ja(ls:List (List OpV))(b:BodyP):Prop:=ls.length=b.bs.length/\∀i,(lsAt ls i).length=(blAt b i).length
def hZ(b:BodyP)(f:Nat->Int)(y:Nat × Nat):Nat->Int :=
 if (aj (blAt b y.1) y.2).d = -1 then f else DD.setI (DD.setI f ((aj (blAt b y.1) y.2).d.toNat*2) y.1) ((aj (blAt b y.1) y.2).d.toNat*2+1) y.2
def FF(b:BodyP)(ys:List (Nat × Nat)):Nat->Int:=ys.foldl (hZ b) (fun _=>-1)
theorem pt(b:BodyP)(ys:List (Nat × Nat))(y:Nat × Nat):FF b (ys ++ [y])=hZ b (FF b ys) y:=by simp [FF]
structure DInv (b:BodyP) (i k:Nat) (f:Nat->Int):Prop where
 lo:∀v,v<b.pa.toNat∨b.pa.toNat+CD.cntB b i+CD.cnt (blAt b i) k<=v->f (v*2) = -1/\f (v*2+1) = -1
 hi:∀v,b.pa.toNat<=v->v<b.pa.toNat+CD.cntB b i+CD.cnt (blAt b i) k->∃i' k',i'<b.bs.length/\k'<(blAt b i').length/\(i'<i∨i'=i/\k'<k)/\(aj (blAt b i') k').d=(v:Nat)/\f (v*2)=(i':Nat)/\f (v*2+1)=(k':Nat)
section
variable {q:CD.Cnt} {c:CodeP} {b:BodyP}
theorem pu(h:CD.aK q c b){i k:Nat}(hi:i<b.bs.length)(hk:k<(blAt b i).length) :
 (CD.Defs (aj (blAt b i) k).k/\(aj (blAt b i) k).d=((b.pa.toNat+CD.cntB b i+CD.cnt (blAt b i) k:Nat):Int))∨(¬CD.Defs (aj (blAt b i) k).k/\(aj (blAt b i) k).d = -1):=by
 have h1:=((h.2.1 i hi).2 k hk).1.2.2.1
 have hpa:=h.1.1.1
 by_cases hd:CD.Defs (aj (blAt b i) k).k
 ·rw[if_pos hd] at h1
  exact .inl ⟨hd,by rw[h1];omega⟩
 ·rw[if_neg hd] at h1
  exact .inr ⟨hd,h1⟩
theorem DInv.step(h:CD.aK q c b){i k:Nat}(hi:i<b.bs.length)(hk:k<(blAt b i).length){f:Nat->Int}(g:DInv b i k f):DInv b i (k+1) (hZ b f (i,k)):=by
 unfold hZ
 simp only
 rcases pu h hi hk with⟨hd,e⟩ | ⟨hd,e⟩
 ·have hc:=CD.gK hk
  rw[if_pos hd] at hc
  obtain⟨v0,ev0⟩:∃v0,v0=b.pa.toNat+CD.cntB b i+CD.cnt (blAt b i) k:=⟨_,rfl⟩
  rw[<-ev0] at e
  rw[if_neg (by omega),e,Int.toNat_natCast]
  refine⟨fun v hv=>?_,fun v hv1 hv2=>?_⟩
  ·rw[hc] at hv
   have:=g.lo v (by omega)
   unfold DD.setI
   rw[if_neg (by omega),if_neg (by omega),if_neg (by omega),if_neg (by omega)]
   exact this
  ·rw[hc] at hv2
   by_cases ev:v=v0
   ·subst ev
    refine⟨i,k,hi,hk,.inr ⟨rfl,by omega⟩,e,?_,?_⟩
    ·unfold DD.setI
     rw[if_neg (by omega),if_pos rfl]
    ·unfold DD.setI
     rw[if_pos rfl]
   ·obtain⟨i',k',h1,h2,h3,h4,h5,h6⟩:=g.hi v hv1 (by omega)
    refine⟨i',k',h1,h2,by omega,h4,?_,?_⟩
    ·unfold DD.setI
     rw[if_neg (by omega),if_neg (by omega)]
     exact h5
    ·unfold DD.setI
     rw[if_neg (by omega),if_neg (by omega)]
     exact h6
 ·have hc:=CD.gK hk
  rw[if_neg hd] at hc
  rw[if_pos e]
  refine⟨fun v hv=>g.lo v (by omega),fun v hv1 hv2=>?_⟩
  obtain⟨i',k',h1,h2,h3,h4⟩:=g.hi v hv1 (by omega)
  exact⟨i',k',h1,h2,by omega,h4⟩
theorem DInv.next{i:Nat}(hi:i<b.bs.length){f:Nat->Int}(g:DInv b i (blAt b i).length f):DInv b (i+1) 0 f:=by
 have hc:=CD.fK hi
 have h0:=CD.gJ (blAt b (i+1))
 refine⟨fun v hv=>g.lo v (by omega),fun v hv1 hv2=>?_⟩
 obtain⟨i',k',h1,h2,h3,h4⟩:=g.hi v hv1 (by omega)
 exact⟨i',k',h1,h2,by omega,h4⟩
theorem sw:DInv b 0 0 (FF b []):=by
 have h0:=CD.gJ (blAt b 0)
 have h1:=CD.kC b
 exact⟨fun v _=>⟨rfl,rfl⟩,fun v hv1 hv2=>by omega⟩
theorem qy(h:CD.aK q c b){ls:List (List OpV)}{i:Nat}(hi:i<b.bs.length)(g:DInv b i 0 (FF b (aP ls i 0))):∀k,k<=(blAt b i).length->DInv b i k (FF b (aP ls i k)):=by
 intro k
 induction k with
 | zero=>exact fun _=>g
 | succ k ih =>
   intro hk
   rw[dp,pt]
   exact(ih (by omega)).step h hi (by omega)
theorem qz(h:CD.aK q c b){ls:List (List OpV)}(hl:ja ls b):∀i,i<=b.bs.length->DInv b i 0 (FF b (aP ls i 0)):=by
 intro i
 induction i with
 | zero=>exact fun _=>sw
 | succ i ih =>
   intro hi
   have h1:=qy h (show i<b.bs.length by omega) (ih (by omega)) (blAt b i).length (Nat.le_refl _)
   rw[<-hl.2 i,dW] at h1
   rw[hl.2 i] at h1
   exact h1.next (by omega)
theorem dinv_at(h:CD.aK q c b){ls:List (List OpV)}(hl:ja ls b){i k:Nat}(hi:i<b.bs.length)(hk:k<=(blAt b i).length):DInv b i k (FF b (aP ls i k)) :=
 qy h hi (qz h hl i (by omega)) k hk
theorem qA(h:CD.aK q c b){ls:List (List OpV)}(hl:ja ls b):DInv b b.bs.length 0 (FF b (cA ls)):=by
 have h1:=qz h hl b.bs.length (Nat.le_refl _)
 unfold cA
 rw[hl.1]
 exact h1
theorem qB(ls:List (List OpV))(i k:Nat):∀y∈aP ls i k,y.1<i∨y.1=i/\y.2<k:=by
 intro y hy
 unfold aP at hy
 rcases List.mem_append.1 hy with h | h
 ·obtain⟨a,ha,h2⟩:=List.mem_flatMap.1 h
  unfold iC at h2
  obtain⟨j,hj,rfl⟩:=List.mem_map.1 h2
  exact .inl (List.mem_range.1 ha)
 ·unfold iC at h
  obtain⟨j,hj,rfl⟩:=List.mem_map.1 h
  exact .inr ⟨rfl,List.mem_range.1 hj⟩
theorem items_mem(ls:List (List OpV)){i k:Nat}(hi:i<ls.length)(hk:k<(lsAt ls i).length):(i,k)∈cA ls:=by
 have h1:=gq ls hi (show k+1<=(lsAt ls i).length from hk)
 rw[dp] at h1
 exact h1.subset (by simp)
theorem nodup_row{ls:List (List OpV)}{i:Nat}(g:(aP ls i 0).Nodup):∀k,(aP ls i k).Nodup:=by
 intro k
 induction k with
 | zero=>exact g
 | succ k ih =>
   rw[dp]
   refine List.nodup_append.2 ⟨ih,by simp,fun a ha c hc=>?_⟩
   rw[List.mem_singleton.1 hc]
   intro e
   have:=qB ls i k a ha
   rw[e] at this
   simp only at this
   omega
theorem qC(ls:List (List OpV)):∀i,(aP ls i 0).Nodup:=by
 intro i
 induction i with
 | zero=>exact List.nodup_nil
 | succ i ih =>
   rw[<-dW]
   exact nodup_row ih _
theorem pre_at{ls:List (List OpV)}{ys:List (Nat × Nat)}{y:Nat × Nat}(h:ys ++ [y] <+: cA ls)(hy:ItOk ls y):ys=aP ls y.1 y.2:=by
 have h1:aP ls y.1 (y.2+1) <+: cA ls:=gq ls hy.1 hy.2
 rw[dp] at h1
 have h1':aP ls y.1 y.2 ++ [y] <+: cA ls:=h1
 rcases List.prefix_or_prefix_of_prefix h h1' with h2 | h2
 ·rcases List.prefix_concat_iff.1 h2 with h3 | h3
  ·exact(List.append_inj h3 (by have:=congrArg List.length h3;simpa using this)).1
  ·have:=qB ls y.1 y.2 y (h3.subset (by simp))
   omega
 ·rcases List.prefix_concat_iff.1 h2 with h3 | h3
  ·exact(List.append_inj h3.symm (by have:=congrArg List.length h3;simp at this;omega)).1
  ·have hp:ys <+: cA ls:=(List.prefix_append ys [y]).trans h
   exfalso
   have hm:y∈ys:=h3.subset (by simp)
   have hn:(ys ++ [y]).Nodup:=h.sublist.nodup (qC ls _)
   exact(List.nodup_append.1 hn).2.2 y hm y (by simp) rfl
end
end
section
open Go.RowKit
def PN(W:World)(g n:Nat)(f:Nat->Int):Prop:=W.rowIs g 242 (n*2) (fun i=>.int .i64 (f i))
theorem PN.congr{W:World}{g n:Nat}{f f':Nat->Int}(h:PN W g n f)(e:∀i,i<n*2->f i=f' i):PN W g n f':=World.rowIs.congr h (fun i hi=>by rw[e i hi])
theorem PN.set{W:World}{g n:Nat}{f:Nat->Int}(h:PN W g n f)(i:Nat)(c:Int):PN (W.setCell ⟨g,i,none⟩ (.int .i64 c)) g n (DD.setI f i c):=by
 refine World.rowIs.congr (World.rowIs.set h i (.int .i64 c)) (fun j _=>?_)
 unfold DD.setI
 by_cases e:j=i
 ·rw[if_pos e,if_pos e]
 ·rw[if_neg e,if_neg e]
theorem PN.setCells{g n:Nat}{v:Int}:∀(m o:Nat) (W:World) (f:Nat->Int),PN W g n f->PN (W.setCells g o (List.replicate m (.int .i64 v))) g n (fun i=>if o<=i/\i<o+m then v else f i)
 | 0,o,W,f,h=>h.congr fun i _=>by rw[if_neg (by omega)]
 | m+1,o,W,f,h=>by
   rw[List.replicate_succ,World.setCells]
   refine(PN.setCells m (o+1) _ _ (h.set o v)).congr fun i _=>?_
   unfold DD.setI
   by_cases e:i=o
   ·subst e;rw[if_neg (by omega),if_pos rfl,if_pos (by omega)]
   ·rw[if_neg e]
    by_cases e2:o+1<=i/\i<o+1+m
    ·rw[if_pos e2,if_pos (by omega)]
    ·rw[if_neg e2,if_neg (by omega)]
theorem pv(w:World)(ty:TypeId)(b o dLen dCap:Nat)(a:Addr)(sLen sCap m:Nat)(cs:List Value)(hm:m=Nat.min sLen dLen)(hn:cs.length=m*2)
 (hsrc:∀j v,cs[j]?=some v->w.cell? (a.add j)=some v) (hc:∀j,j<cs.length->(w.cell? ⟨b,o+j,none⟩).isSome=true) (hf:∀j,j<cs.length->w.frozen? ⟨b,o+j,none⟩=false) (h1:∀v∈cs,v.oneCell'=true) :
 (Builtin.copy_ #[159,159] ty #[.slice (some ⟨b,o,none⟩) dLen dCap,.slice (some a) sLen sCap]).run Tryz.prog w=.ok (goInt m) (w.setCells b o cs):=by
 have hl:=run_loadCells_list (P:=Tryz.prog) w a cs hsrc
 have hst:=run_storeCells_cells (P:=Tryz.prog) b o cs 0 w (by simpa using hc) (by simpa using hf) h1
 have hs:(Tryz.prog.info? 242).map (·.size)=some 2:=by kernel_rfl
 have hu:Tryz.prog.underlying 159=some (.slice 242):=by kernel_rfl
 cases hq:Tryz.prog.info? 242 with
 | none=>simp [hq] at hs
 | some i =>
   have hi:i.size=2:=by simpa [hq] using hs
   simp [Builtin.copy_,run_underlying hu,Builtin.lenOf,Builtin.firstCells,sizeOf,typeInfo,hq,hi,<-hm,<-hn,hl,hst]
theorem li{W:World}{g n off:Nat}{f:Nat->Int}(h:PN W g n f)(v:Int)(m dLen dCap:Nat)(b so sLen sCap:Nat)(hm:m=Nat.min sLen dLen)(hfit:off+m*2<=n*2)(hsrc:∀j,j<m*2->W.cell? ⟨b,so+j,none⟩=some (.int .i64 v))(ty:TypeId) :
 (Builtin.copy_ #[159,159] ty #[.slice (some ⟨g,off,none⟩) dLen dCap,.slice (some ⟨b,so,none⟩) sLen sCap]).run Tryz.prog W=.ok (.int .i64 m) (W.setCells g off (List.replicate (m*2) (.int .i64 v))) :=
 pv W ty g off dLen dCap ⟨b,so,none⟩ sLen sCap m (List.replicate (m*2) (.int .i64 v)) hm (by rw[List.length_replicate]) (fun j u hj=>by
  rw[List.getElem?_replicate] at hj
  split at hj
  ·rename_i hjm
   rw[Addr.add_lit,hsrc j hjm];exact hj
  ·cases hj) (fun j hj=>by
  rw[List.length_replicate] at hj
  rw[World.rowIs.cell h (show off+j<n*2 by omega)];rfl) (fun j hj=>World.rowIs.frozen h _) (fun u hu=>by rw[(List.mem_replicate.1 hu).2];rfl)
theorem pw(n:Nat)(hn:n<=1000000)(w:World) :
 (Instr.makeSlice 159 (.int .i64 (n:Int)) (.int .i64 (n:Int))).run Tryz.prog w=.ok (.slice (some ⟨w.heap.size,0,none⟩) n n) (w.alloc (.cells (madeCells #[.int .i64 0,.int .i64 0] (n*2)) 242)):=by
 have hinfo:(Tryz.prog.info? 242).map (fun i=>(i.zero,i.size,i.bytes))=some (some (.agg #[.int .i64 0,.int .i64 0]),2,16):=by kernel_rfl
 obtain⟨i,hi,hzz⟩:=Option.map_eq_some_iff.1 hinfo
 simp only[Prod.mk.injEq] at hzz
 obtain⟨hz,hs,hb⟩:=hzz
 have hr:=run_make (P:=Tryz.prog) w 159 242 i _ (by kernel_rfl) hi hz .i64 .i64 n n (by omega) (Int.le_refl _) (by rw[hb];omega) (by omega)
 simp only[Int.toNat_natCast,hs] at hr
 exact hr
theorem made_two(w:World)(n:Nat):PN (w.alloc (.cells (madeCells #[.int .i64 0,.int .i64 0] (n*2)) 242)) w.heap.size n (fun _=>0):=by
 refine⟨madeCells #[.int .i64 0,.int .i64 0] (n*2),heap_alloc_new _ _,size_madeCells _ _,fun i hi=>?_⟩
 simp only[madeCells,Array.getElem?_map,Array.getElem?_range]
 rw[if_pos hi]
 rcases Nat.mod_two_eq_zero_or_one i with e | e <;> simp [e]
set_option maxRecDepth 100000 in
set_option maxHeartbeats 1600000 in
theorem qD(b off c n:Nat)(v:Int)(w:World)(hc0:w.cell? ⟨b,off,none⟩=some (.int .i64 v))(hc1:w.cell? ⟨b,off+1,none⟩=some (.int .i64 v))(hb:b<w.heap.size)(hn:n<=100000) :
 Calls Tryz.prog 140 #[.slice (some ⟨b,off,none⟩) 1 c,.int .i64 n] w fun e w'=>e=.returned (.slice (some ⟨w.heap.size,0,none⟩) n n)/\PN w' w.heap.size n (fun _=>v)/\Below w.heap.size w w':=by
 have hmk:=pw n (by omega)
 have H0:=zH (made_two w n)
 have HB0:=zH ((Below.refl w.heap.size w).alloc (Nat.le_refl _) (.cells (madeCells #[.int .i64 0,.int .i64 0] (n*2)) 242))
 obtain⟨m0,hm0⟩:∃m0,m0=min 1 n:=⟨_,rfl⟩
 have HM0:=zH hm0
 have HC:=zH (fun ty=>li (off:=0) H0.out v m0 n n b off 1 c hm0 (by omega) (fun j hj=>by
  rcases (show j=0∨j=1 by omega) with rfl | rfl
  ·exact(HB0.out.cell (p:=⟨b,off,none⟩) hb).trans hc0
  ·exact(HB0.out.cell (p:=⟨b,off+1,none⟩) hb).trans hc1) ty)
 have H1:=zH (H0.out.setCells (v:=v) (m0*2) 0)
 have HB1:=zH (dh (v:=.int .i64 v) (Nat.le_refl w.heap.size) (m0*2) 0 _ _ HB0.out)
 go_enter Tryz.func140,Tryz.ntmps140
 have hcp:=HC.out
 clear hm0
 go_wp2_with (go_at_call 183;refine(Tryz.bits_Mul 1 n (by omega) (by omega) _).mono ?_;rintro e w1 ⟨rfl,hw⟩;rw[hw];clear hw w1;rw[show ((1*n / 18446744073709551616:Nat):Int)=0 by omega,show ((1*n % 18446744073709551616:Nat):Int)=(n:Int) by omega])
 clear hcp hmk hc0 hc1
 go_loopw [8] (fun k wr=>∃q:Nat,(1<=q∨n=0)/\q<=n/\k=.int .i64 (q:Int)/\RowKit.Hid (PN wr w.heap.size n (fun i=>if i<q*2 then v else 0)/\Below w.heap.size w wr)) (fun k _=>n-(intOf k).toNat)
 case atStart=>exact⟨m0,by have:=HM0.out;omega,by have:=HM0.out;omega,rfl,zH ⟨H1.out.congr (fun i _=>by by_cases e:i<m0*2 <;> simp [e]),HB1.out⟩⟩
 case round =>
  obtain⟨q,hq1,hq,rfl,HI⟩:=hrel
  clear H1 HB1 H0 HB0 HC
  by_cases hqt:q<n
  ·obtain⟨m,hm⟩:∃m,m=min q (n-q):=⟨_,rfl⟩
   have HMM:=zH hm
   have hm1:m<=q/\q+m<=n/\1<=m:=by omega
   have HC:=zH (fun ty=>li (W:=wr.drew) (g:=w.heap.size) (n:=n) (off:=q*2) (f:=fun i=>if i<q*2 then v else 0) HI.out.1 v m (n-q) (n-q) w.heap.size 0 q n (by show m=min q (n-q);exact hm) (by omega) (fun j hj=>by
    rw[Nat.zero_add]
    have:=World.rowIs.cell HI.out.1 (show j<n*2 by omega)
    rw[show (fun i:Nat=>if i<q*2 then v else 0) j=v from if_pos (by omega)] at this;exact this) ty)
   have HN:=zH (PN.setCells (v:=v) (m*2) (q*2) wr.drew _ HI.out.1)
   have HBN:=zH (dh (v:=.int .i64 v) (Nat.le_refl w.heap.size) (m*2) (q*2) _ _ HI.out.2.drew)
   have b1:(0:Int)<=(q:Int):=by omega
   have b2:(q:Int)<=(n:Int):=by omega
   have b3:((q:Int)).toNat=q:=by omega
   have b4:IntKind.i64.wrap ((q:Int)+(m:Int))=(q:Int)+(m:Int):=IntWalk.i64_in _ (by omega)
   have b5:n≠q:=by omega
   clear hm
   go_wp2_with fail
   go_region_law (refine nG rfl (.tmp 41) (.tmp 44) 159 159 rfl _ _ rfl rfl m _ (by simp only[zA,zB,zC,Act.put,Act.eval,zD,zE,zF];exact HC.out) ?_)
   simp only[zA,zB,zC,Act.put,zD,zE,zF]
   go_wp2_with fail
   go_roundw
   case rel=>exact⟨q+m,by omega,by omega,by go_num,zH ⟨HN.out.congr (fun i _=>by by_cases e:i<(q+m)*2 <;> by_cases e2:i<q*2 <;> by_cases e3:q*2<=i <;> simp [e,e2,e3] <;> omega),HBN.out⟩⟩
   case measure=>simp [intOf];omega
  ·go_wp2_with fail
   go_ret
   exact⟨rfl,HI.out.1.congr (fun i hi=>by rw[if_pos (by omega)]),HI.out.2⟩
end
section
open Go.RowKit
theorem Tryz.keyIntS:Tryz.prog.plainKey 3=true:=by kernel_rfl
theorem Tryz.cellsIntS:Tryz.prog.cellsOf 3=1:=by kernel_rfl
theorem qE(a b c d:Int)(w:World):(Op.equalIn 10000 242 (.agg #[.int .i64 a,.int .i64 b]) (.agg #[.int .i64 c,.int .i64 d])).run Tryz.prog w=.ok (a == c && b == d) w:=by
 obtain⟨i0,hi,-⟩:=info_parts Tryz.infoGInt
 have q1:(part 3 #[.int .i64 a,.int .i64 b] 0).run Tryz.prog w=.ok (.int .i64 a) w:=run_part_plain (P:=Tryz.prog) w Tryz.keyIntS rfl
 have q2:(part 3 #[.int .i64 a,.int .i64 b] 1).run Tryz.prog w=.ok (.int .i64 b) w:=run_part_plain (P:=Tryz.prog) w Tryz.keyIntS rfl
 have q3:(part 3 #[.int .i64 c,.int .i64 d] 0).run Tryz.prog w=.ok (.int .i64 c) w:=run_part_plain (P:=Tryz.prog) w Tryz.keyIntS rfl
 have q4:(part 3 #[.int .i64 c,.int .i64 d] 1).run Tryz.prog w=.ok (.int .i64 d) w:=run_part_plain (P:=Tryz.prog) w Tryz.keyIntS rfl
 have e1:∀x y,(Op.equalIn 9999 3 (.int .i64 x) (.int .i64 y)).run Tryz.prog w=.ok (x == y) w:=fun x y=>run_equalIn_int (P:=Tryz.prog) w 9998 3 .i64 .i64 x y Tryz.underlying3
 rw[run_equalIn_array w 9999 (n:=2) (e:=3) _ _ Tryz.underlying242 hi,Tryz.cellsIntS,show List.range 2=[0,1] from rfl]
 simp only[Op.eqItems,Nat.zero_mul,Nat.one_mul,Sem.run_bind,q1,q2,q3,q4,e1,Result.andThen_ok]
 cases (a == c) <;> cases h:(b == d) <;> simp only[Bool.not_false,Bool.not_true,Bool.false_eq_true,if_true,if_false,Sem.run_pure,Sem.run_bind,q2,q4,e1,h,Result.andThen_ok,Bool.true_and,Bool.false_and]
def HasP(f:Nat->Int)(n:Nat)(x y:Int):Prop:=∃i,i<n/\f (i*2)=x/\f (i*2+1)=y
set_option maxRecDepth 100000 in
set_option maxHeartbeats 1600000 in
theorem sx(a:Option Addr)(g off n cap:Nat)(f:Nat->Int)(x y:Int)(w:World)(ha:0<n->a=some ⟨g,off,none⟩)(hg:0<n->g<w.heap.size)(hn:n<=100000)(hc:∀i,i<n*2->w.cell? ⟨g,off+i,none⟩=some (.int .i64 (f i))) :
 Calls Tryz.prog 185 #[.slice a n cap,.agg #[.int .i64 x,.int .i64 y]] w fun e w'=>∃r:Int,e=.returned (.int .i64 r)/\(0<=r↔HasP f n x y)/\Below w.heap.size w w':=by
 have HB0:=zH ((Below.refl w.heap.size w).alloc (Nat.le_refl _) (.cells #[.int .i64 x,.int .i64 y] 242))
 have HK:=zH (show (w.alloc (.cells #[.int .i64 x,.int .i64 y] 242)).heap[w.heap.size]?=some (.cells #[.int .i64 x,.int .i64 y] 242) from heap_alloc_new _ _)
 have HC:=zH hc
 have HA:=zH ha
 have HGG:=zH hg
 clear hc ha hg
 go_enter Tryz.func185,Tryz.ntmps185
 go_wp2_with fail
 go_loopw [8] (fun k wr=>∃q:Nat,q<=n/\k=.int .i64 (q:Int)/\RowKit.Hid ((∀i,i<q->¬(f (i*2)=x/\f (i*2+1)=y))/\Below w.heap.size w wr/\wr.heap[w.heap.size]?=some (.cells #[.int .i64 x,.int .i64 y] 242))) (fun k _=>n-(intOf k).toNat)
 case atStart=>exact⟨0,Nat.zero_le _,rfl,zH ⟨fun i hi=>absurd hi (Nat.not_lt_zero _),HB0.out,HK.out⟩⟩
 case round =>
  clear HB0 HK
  obtain⟨w4,rfl⟩:∃w4,w4=wr:=⟨_,rfl⟩
  obtain⟨q,hq,rfl,HI⟩:=hrel
  by_cases hqt:q<n
  ·have ea:=HA.out (by omega)
   subst ea
   have hgg:=HGG.out (by omega)
   have h0:w4.cell? ⟨g,off+q*2,none⟩=some (.int .i64 (f (q*2))):=(HI.out.2.1.cell (p:=⟨g,off+q*2,none⟩) hgg).trans (HC.out (q*2) (by omega))
   have h1:w4.cell? ⟨g,off+q*2+1,none⟩=some (.int .i64 (f (q*2+1))):=(HI.out.2.1.cell (p:=⟨g,off+q*2+1,none⟩) hgg).trans (HC.out (q*2+1) (by omega))
   have h2:w4.cell? ⟨w.heap.size,0,none⟩=some (.int .i64 x):=cell_of_row _ _ 0 _ _ _ HI.out.2.2
   have h3:w4.cell? ⟨w.heap.size,1,none⟩=some (.int .i64 y):=cell_of_row _ _ 1 _ _ _ HI.out.2.2
   obtain⟨p1,e1⟩:∃p1,p1=f (q*2):=⟨_,rfl⟩
   obtain⟨p2,e2⟩:∃p2,p2=f (q*2+1):=⟨_,rfl⟩
   rw[<-e1] at h0
   rw[<-e2] at h1
   have HE1:=zH e1
   have HE2:=zH e2
   have HQT:=zH hqt
   have i1:(0:Int)<=q/\(q:Int)<n:=by omega
   clear e1 e2 hgg
   have hE:∀W,(Op.equalIn 10000 242 (.agg #[.int .i64 x,.int .i64 y]) (.agg #[.int .i64 p1,.int .i64 p2])).run Tryz.prog W=.ok (x == p1 && y == p2) W:=fun W=>qE x y p1 p2 W
   cases ht:(x == p1 && y == p2)
   ·rw[ht] at hE
    have HN:=zH (show ∀i,i<q+1->¬(f (i*2)=x/\f (i*2+1)=y) from fun i hi=>by
     by_cases e:i=q
     ·rw[e,<-HE1.out,<-HE2.out]
      rintro ⟨r1,r2⟩
      rw[r1,r2] at ht
      simp at ht
     ·exact HI.out.1 i (by omega))
    clear ht
    go_wp2_with fail
    go_quiet (fail)
    go_wp2_with fail
    go_roundw
    case rel=>exact⟨q+1,HQT.out,by go_num,zH ⟨HN.out,HI.out.2.1.trans ⟨rfl,rfl,rfl,Nat.le_refl _,fun _ _=>rfl⟩,HI.out.2.2⟩⟩
    case measure=>have:=HQT.out;simp [intOf];omega
   ·rw[ht] at hE
    have HY:=zH (show HasP f n x y from⟨q,HQT.out,by rw[<-HE1.out];simp at ht;exact ht.1.symm,by rw[<-HE2.out];simp at ht;exact ht.2.symm⟩)
    clear ht
    go_wp2_with fail
    go_quiet (fail)
    go_wp2_with fail
    go_ret
    exact⟨_,rfl,⟨fun _=>HY.out,fun _=>by omega⟩,HI.out.2.1.trans ⟨rfl,rfl,rfl,Nat.le_refl _,fun _ _=>rfl⟩⟩
  ·go_wp2_with fail
   go_ret
   exact⟨_,rfl,⟨fun h=>absurd h (by decide),fun⟨i,hi,h⟩=>absurd h (HI.out.1 i (by omega))⟩,HI.out.2.1⟩
set_option maxRecDepth 100000 in
theorem jo(a:Option Addr)(g off n cap:Nat)(f:Nat->Int)(x y:Int)(w:World)(ha:0<n->a=some ⟨g,off,none⟩)(hg:0<n->g<w.heap.size)(hn:n<=100000)(hc:∀i,i<n*2->w.cell? ⟨g,off+i,none⟩=some (.int .i64 (f i))) :
 Calls Tryz.prog 142 #[.slice a n cap,.agg #[.int .i64 x,.int .i64 y]] w fun e w'=>e=.returned (.bool (CD.tf (HasP f n x y)))/\Below w.heap.size w w':=by
 have HB0:=zH ((Below.refl w.heap.size w).alloc (Nat.le_refl _) (.cells #[.int .i64 x,.int .i64 y] 242))
 have HIX:=zH (sx a g off n cap f x y (w.alloc (.cells #[.int .i64 x,.int .i64 y] 242)) ha (fun h=>by have:=hg h;simp;omega) hn (fun i hi=>(HB0.out.cell (p:=⟨g,off+i,none⟩) (hg (by omega))).trans (hc i hi)))
 clear ha hg hc
 obtain⟨z,ez⟩:∃z,z=CD.tf (HasP f n x y):=⟨_,rfl⟩
 rw[<-ez]
 have HZ:=zH ez
 clear ez
 go_enter Tryz.func142,Tryz.ntmps142
 go_upto_region 1 with fail
 go_wp2_with fail
 refine HIX.out.mono ?_
 rintro e w2 ⟨r,rfl,hr,hb⟩
 have HBB:=zH (HB0.out.trans (hb.mono HB0.out.size))
 have e1:z=decide (0<=r):=by
  rw[HZ.out]
  exact CD.nu (by rw[<-hr];simp)
 clear hb hr HZ HIX
 subst e1
 go_wp2_with fail
 go_ret
 exact⟨by first | rfl | simp,HBB.out⟩
end
section
open Go.RowKit Go.Shelf
open CD (OpP BodyP CodeP aj blAt fnAt)
attribute [local go_sem] Oper.semAt_some
theorem lZ(l:List OpP):∀ {i j:Nat},i<=j->CD.cnt l i<=CD.cnt l j:=by
 intro i j h
 unfold CD.cnt
 exact((List.take_prefix_take_left h).sublist.filter _).length_le
theorem nH(b:BodyP){i j:Nat}(h:i<=j):CD.cntB b i<=CD.cntB b j:=by
 unfold CD.cntB
 rw[List.map_take,List.map_take]
 exact CD.jP _ _ _ h
theorem same_len{n₀:Nat}{W:World}{b:BodyP}{ls:List (List OpV)}(h1:ls.length=b.bs.length)(h2:∀j,j<b.bs.length->dV n₀ W (ls[j]?.getD []) (b.bs[j]?.getD [])):ja ls b:=by
 refine⟨h1,fun i=>?_⟩
 by_cases hi:i<b.bs.length
 ·exact(h2 i hi).1
 ·unfold lsAt blAt
  rw[List.getElem?_eq_none (by omega),List.getElem?_eq_none (by omega)]
  rfl
def itB(b:BodyP):List (Nat × Nat):=cA (b.bs.map fun l=>l.map fun _=>ov0)
theorem itB_at(b:BodyP)(i:Nat):(lsAt (b.bs.map fun l=>l.map fun _=>ov0) i).length=(blAt b i).length:=by
 unfold lsAt blAt
 rw[List.getElem?_map]
 cases b.bs[i]? with
 | none=>rfl
 | some l=>simp
theorem sy{ls:List (List OpV)}{b:BodyP}(h:ja ls b):cA ls=itB b:=by
 unfold itB cA aP
 rw[List.length_map,h.1]
 congr 1
 refine congrArg List.flatten (List.map_congr_left fun a _=>?_)
 rw[h.2 a,itB_at]
theorem opv_ins{n₀:Nat}{W:World}{b:BodyP}{ls:List (List OpV)}(h1:ls.length=b.bs.length)(h2:∀j,j<b.bs.length->dV n₀ W (ls[j]?.getD []) (b.bs[j]?.getD [])){y:Nat × Nat}(hy:ItOk ls y):OpOf n₀ W (bV ls y) (aj (blAt b y.1) y.2):=by
 have h3:=h2 y.1 (by have:=hy.1;omega)
 have h4:(ls[y.1]?.getD [])[y.2]?=some (bV ls y):=by
  have h5:y.2<(lsAt ls y.1).length:=hy.2
  unfold bV
  unfold lsAt at h5 ⊢
  rw[List.getElem?_eq_getElem h5]
  rfl
 exact h3.2 y.2 _ h4
theorem dM{X Y:World}{row:Option Nat}{k:Nat}{o:Obj}(h:X.heap[k]?=some o)(ho:o.isCells=true)(hg:X.grownBy Y row)(hr:∀r,row=some r->∃o,X.heap[r]?=some o/\o.isCells=false):Y.heap[k]?=some o :=
 (hg.block k (Array.getElem?_eq_some_iff.1 h).1 (fun e=>by
  obtain⟨o',h',c⟩:=hr k e.symm
  rw[h] at h'
  cases h'
  rw[ho] at c
  cases c)).trans h
theorem heap_setCell{X:World}{k j i:Nat}{o:Obj}{v:Value}(h:X.heap[k]?=some o)(hne:k≠j):(X.setCell ⟨j,i,none⟩ v).heap[k]?=some o:=(Below.heap_setCell X ⟨j,i,none⟩ v k hne).trans h
theorem heap_alloc{X:World}{k:Nat}{o:Obj}(h:X.heap[k]?=some o)(o':Obj):(X.alloc o').heap[k]?=some o:=(Below.heap_alloc X o' k (Array.getElem?_eq_some_iff.1 h).1).trans h
structure DefW (m:Nat) (pn vn:Int) (bv:Value) (W:World):Prop where
 b:W.heap[m]?=some (.cells #[.int .i64 pn,.int .i64 vn,bv] 52)
 r:W.heap[m+1]?=some (.cells #[.slice none 0 0] 159)
 o:W.heap[m+1+1]?=some (.cells #[.bool false] 4)
 n:W.heap[m+1+1+1]?=some (.cells #[.int .i64 (-1),.int .i64 (-1)] 242)
theorem DefW.kept{m:Nat}{pn vn:Int}{bv:Value}{X Y:World}{row:Option Nat}(h:DefW m pn vn bv X)(hg:X.grownBy Y row)(hr:∀r,row=some r->∃o,X.heap[r]?=some o/\o.isCells=false):DefW m pn vn bv Y :=
 ⟨dM h.b rfl hg hr,dM h.r rfl hg hr,dM h.o rfl hg hr,dM h.n rfl hg hr⟩
theorem DefW.alloc{m:Nat}{pn vn:Int}{bv:Value}{X:World}(h:DefW m pn vn bv X)(o:Obj):DefW m pn vn bv (X.alloc o):=⟨heap_alloc h.b o,heap_alloc h.r o,heap_alloc h.o o,heap_alloc h.n o⟩
theorem DefW.setCell{m:Nat}{pn vn:Int}{bv:Value}{X:World}(h:DefW m pn vn bv X){g:Nat}(hg:m+1+1+1<g)(i:Nat)(v:Value):DefW m pn vn bv (X.setCell ⟨g,i,none⟩ v) :=
 ⟨heap_setCell h.b (by omega),heap_setCell h.r (by omega),heap_setCell h.o (by omega),heap_setCell h.n (by omega)⟩
theorem DefW.below{m N:Nat}{pn vn:Int}{bv:Value}{X Y:World}(h:DefW m pn vn bv X)(hB:Below N X Y)(hN:m+1+1+1<N):DefW m pn vn bv Y :=
 ⟨(hB.block m (by omega)).trans h.b,(hB.block (m+1) (by omega)).trans h.r,(hB.block (m+1+1) (by omega)).trans h.o,(hB.block (m+1+1+1) (by omega)).trans h.n⟩
theorem defw_new(w:World)(pn vn:Int)(bv:Value):DefW w.heap.size pn vn bv ((((w.alloc (.cells #[.int .i64 pn,.int .i64 vn,bv] 52)).alloc (.cells #[.slice none 0 0] 159)).alloc (.cells #[.bool false] 4)).alloc (.cells #[.int .i64 (-1),.int .i64 (-1)] 242)):=by
 refine⟨heap_alloc (heap_alloc (heap_alloc (heap_alloc_new w _) _) _) _,?_,?_,?_⟩
 ·have h:=heap_alloc_new (w.alloc (.cells #[.int .i64 pn,.int .i64 vn,bv] 52)) (.cells #[.slice none 0 0] 159)
  rw[World.size_alloc] at h
  exact heap_alloc (heap_alloc h _) _
 ·have h:=heap_alloc_new ((w.alloc (.cells #[.int .i64 pn,.int .i64 vn,bv] 52)).alloc (.cells #[.slice none 0 0] 159)) (.cells #[.bool false] 4)
  rw[World.size_alloc,World.size_alloc] at h
  exact heap_alloc h _
 ·have h:=heap_alloc_new (((w.alloc (.cells #[.int .i64 pn,.int .i64 vn,bv] 52)).alloc (.cells #[.slice none 0 0] 159)).alloc (.cells #[.bool false] 4)) (.cells #[.int .i64 (-1),.int .i64 (-1)] 242)
  rw[World.size_alloc,World.size_alloc,World.size_alloc] at h
  exact h
theorem items_len(ls:List (List OpV)){i k:Nat}(hi:i<ls.length)(hk:k<(lsAt ls i).length):(aP ls i k).length<(cA ls).length+1:=by
 have:=(gq ls hi (Nat.le_of_lt hk)).length_le
 omega
theorem lj(ls:List (List OpV))(n₀ Bs:Nat)(pa va:Int)(ba:Option Addr)(bc n:Nat)(hn:1<=n)(w:World)(hs:n₀<=w.heap.size)(hBs:w.heap[Bs]?=some (.cells #[.int .i64 pa,.int .i64 va,.slice ba ls.length bc] 52))(hM:cl n₀ w (.slice ba ls.length bc) ls)(hl1:ls.length<=4096)(hl2:∀i,i<ls.length->(lsAt ls i).length<=4096) :
 SeqStopsK Fence.wide n Tryz.prog 184 #[.pointer (some ⟨Bs,0,none⟩)] (encI ls) (bW n₀ Bs) (fun xs=>xs.map (·.1)=cA ls) (fun pre=>pre.map (·.1) <+: cA ls) ((cA ls).length+1) w:=fun l J Jx W hW hJ _ hY h0 =>
 (instr1_in ls n₀ l Bs pa va ba bc _ n hn J Jx w hY W hJ (Nat.le_trans hs hW.size) ((hW.block Bs (Array.getElem?_eq_some_iff.1 hBs).1).trans hBs) (hM.below (hW.mono hs)) hl1 hl2 (fun i k hi hk=>items_len ls hi hk) h0).mono fun e W' h=>by
  rcases h with⟨hv,h⟩
  refine⟨hv,?_⟩
  rcases h with⟨ys,h1,h2⟩ | ⟨pre,h1,h2⟩
  ·exact .inl ⟨ys,h1,h2⟩
  ·exact .inr ⟨pre,h1,h2⟩
theorem px{n₀ Bs N:Nat}(h:Bs<N)(hn:n₀<=N)(W:World)(l:Nat)(o o':Obj)(hl:N<=l)(h1:W.heap[l]?=some o)(_:o.isCells=false)(_:o.isWalk=false):bW n₀ Bs W (W.putObj l o'):=by
 refine⟨by simp [World.putObj],fun k hk=>?_⟩
 exact World.putObj_heap_other (by omega)
theorem bW.setCell{n₀ Bs:Nat}{A B:World}(h:bW n₀ Bs A B){g:Nat}(hn:n₀<=g)(hne:g≠Bs)(i:Nat)(v:Value):bW n₀ Bs A (B.setCell ⟨g,i,none⟩ v) :=
 ⟨Nat.le_trans h.1 (by simp),fun k hk=>(Below.heap_setCell B ⟨g,i,none⟩ v k (by show k≠g;omega)).trans (h.2 k hk)⟩
theorem PN.kept{X Y:World}{row:Option Nat}{g n:Nat}{f:Nat->Int}(h:PN X g n f)(hg:X.grownBy Y row)(hr:∀r,row=some r->∃o,X.heap[r]?=some o/\o.isCells=false):PN Y g n f:=by
 obtain⟨cs,h1,h2⟩:=h
 exact⟨cs,dM h1 rfl hg hr,h2⟩
structure DefI (b:BodyP) (ls:List (List OpV)) (m d5 pn vn:Nat) (bv:Value) (pre:List (It ls)) (W:World):Prop where
 z:d5+2<=W.heap.size
 w:DefW m pn vn bv W
 x:Boxed W d5 159 (.slice (some ⟨m+5,0,none⟩) vn vn)
 f:∃f,PN W (m+5) vn f/\(pre.map (·.1) <+: cA ls->f=FF b (pre.map (·.1)))
theorem eH{X Y:World}{row:Option Nat}{k:Nat}{t:TypeId}{v:Value}(h:Boxed X k t v)(hg:X.grownBy Y row)(hr:∀r,row=some r->∃o,X.heap[r]?=some o/\o.isCells=false):Boxed Y k t v:=dM h rfl hg hr
theorem DefI.kept{b:BodyP}{ls:List (List OpV)}{m d5 pn vn:Nat}{bv:Value}{pre:List (It ls)}{X Y:World}{row:Option Nat}(h:DefI b ls m d5 pn vn bv pre X)(hg:X.grownBy Y row)(hr:∀r,row=some r->∃o,X.heap[r]?=some o/\o.isCells=false):DefI b ls m d5 pn vn bv pre Y :=
 ⟨Nat.le_trans h.z hg.size,h.w.kept hg hr,eH h.x hg hr,by obtain⟨f,h1,h2⟩:=h.f;exact⟨f,h1.kept hg hr,h2⟩⟩
theorem DefI.alloc{b:BodyP}{ls:List (List OpV)}{m d5 pn vn:Nat}{bv:Value}{pre:List (It ls)}{X:World}(h:DefI b ls m d5 pn vn bv pre X)(o:Obj):DefI b ls m d5 pn vn bv pre (X.alloc o) :=
 ⟨by rw[World.size_alloc];have:=h.z;omega,h.w.alloc o,heap_alloc h.x o,by obtain⟨f,h1,h2⟩:=h.f;exact⟨f,World.rowIs.alloc h1 o,h2⟩⟩
structure DefX (X:OpV) (i k Bx:Nat) (W:World):Prop where
 h:W.heap[Bx]?=some (.cells #[.int .i64 (i:Int),.int .i64 (k:Int)] 242)
 x:W.heap[Bx+1]?=some (.cells #[.int .u8 X.k,.int .u8 X.o,.int .i64 X.d,.int .i64 X.r,.int .i64 X.a,.slice X.xa X.xl X.xc,.slice X.ya X.yl X.yc,.int .i64 X.n,.int .i64 X.t] 56)
theorem DefX.kept{V:OpV}{i k Bx:Nat}{X Y:World}{row:Option Nat}(h:DefX V i k Bx X)(hg:X.grownBy Y row)(hr:∀r,row=some r->∃o,X.heap[r]?=some o/\o.isCells=false):DefX V i k Bx Y:=⟨dM h.h rfl hg hr,dM h.x rfl hg hr⟩
theorem qF(W:World)(X:OpV)(i k:Nat):DefX X i k W.heap.size ((W.alloc (.cells #[.int .i64 (i:Int),.int .i64 (k:Int)] 242)).alloc (.cells #[.int .u8 X.k,.int .u8 X.o,.int .i64 X.d,.int .i64 X.r,.int .i64 X.a,.slice X.xa X.xl X.xc,.slice X.ya X.yl X.yc,.int .i64 X.n,.int .i64 X.t] 56)):=by
 refine⟨heap_alloc (heap_alloc_new W _) _,?_⟩
 have h:=heap_alloc_new (W.alloc (.cells #[.int .i64 (i:Int),.int .i64 (k:Int)] 242)) (.cells #[.int .u8 X.k,.int .u8 X.o,.int .i64 X.d,.int .i64 X.r,.int .i64 X.a,.slice X.xa X.xl X.xc,.slice X.ya X.yl X.yc,.int .i64 X.n,.int .i64 X.t] 56)
 rw[World.size_alloc] at h
 exact h
theorem def_lt{q:CD.Cnt}{c:CodeP}{b:BodyP}(h:CD.aK q c b){i k:Nat}(hi:i<b.bs.length)(hk:k<(blAt b i).length)(hd:CD.Defs (aj (blAt b i) k).k):b.pa.toNat+CD.cntB b i+CD.cnt (blAt b i) k<b.va.toNat:=by
 have h1:=CD.gK hk
 rw[if_pos hd] at h1
 have h2:=CD.fK hi
 have h3:=h.2.2
 have h4:=lZ (blAt b i) (show k+1<=(blAt b i).length from hk)
 have h5:=nH b (show i+1<=b.bs.length from hi)
 have:=h.1.1.1
 omega
set_option maxRecDepth 100000 in
set_option maxHeartbeats 8000000 in
theorem defs_any(q:CD.Cnt)(c:CodeP)(b:BodyP)(hb:CD.aK q c b)(hk:∀k,k<b.bs.length->(blAt b k).length<=300)(hv:b.va<=400)(ba:Option Addr)(bc n₀:Nat)(w:World)(hn:n₀<=w.heap.size)(hM:aU n₀ w (.slice ba b.bs.length bc) b.bs) :
 Calls Tryz.prog 89 #[.agg #[.int .i64 b.pa,.int .i64 b.va,.slice ba b.bs.length bc]] w fun e w'=>∃(g:Nat) (f:Nat->Int),e=.returned (.tuple #[.slice (some ⟨g,0,none⟩) b.va.toNat b.va.toNat,.bool true])/\PN w' g b.va.toNat f/\DInv b b.bs.length 0 f/\f=FF b (itB b)/\Below w.heap.size w w':=by
 obtain⟨ls,hM1,hM2,hM3⟩:=hM
 have HS:=zH (same_len hM2 hM3)
 have HM1:=zH hM1
 have HO:=zH (fun(y:Nat × Nat) (hy:ItOk ls y)=>(opv_ins hM2 hM3 hy).1.2.2.1)
 have HBO:=zH hb
 have HK:=zH hk
 have HL:=zH hb.1.2
 have HN:=zH hn
 have HM2:=zH hM2
 have hp1:(0<=b.pa/\b.pa<=6)/\b.pa<=b.va:=⟨hb.1.1,by have:=hb.2.2;omega⟩
 obtain⟨pn,epa⟩:∃pn:Nat,b.pa=(pn:Int):=⟨b.pa.toNat,by omega⟩
 obtain⟨vn,eva⟩:∃vn:Nat,b.va=(vn:Int):=⟨b.va.toNat,by omega⟩
 have EPA:=zH epa
 have EVA:=zH eva
 have i1:pn<=vn:=by omega
 have i2:vn<=400:=by omega
 have i3:(0:Int)<=(pn:Int):=by omega
 have i4:(vn:Int)<=4102:=by omega
 rw[epa,eva,Int.toNat_natCast]
 clear hM1 hM2 hM3 hb hk hp1 hv epa eva hn
 rw[<-HM2.out]
 refine(callsIn_wide (n:=6)).1 ?_
 refine callsIn_of_wp_marks Tryz.func89 rfl trivial ?_ rfl
 simp only[Tryz.ntmps89,List.size_toArray,List.length_cons,List.length_nil,Nat.reduceAdd,Nat.reduceSub,Array.replicate_succ,Array.replicate_zero,List.push_toArray,List.append_toArray,List.nil_append,List.cons_append]
 refine wpIn_mono (Q:=iX _) ?_ fY
 gi_upto_region 4 with fail
 have hD:=defw_new w pn vn (.slice ba ls.length bc)
 have hB4:=((((Below.refl w.heap.size w).alloc (Nat.le_refl _) (.cells #[.int .i64 pn,.int .i64 vn,.slice ba ls.length bc] 52)).alloc (by simp) (.cells #[.slice none 0 0] 159)).alloc (by simp;omega) (.cells #[.bool false] 4)).alloc (by simp;omega) (.cells #[.int .i64 (-1),.int .i64 (-1)] 242)
 have hsz4:((((w.alloc (.cells #[.int .i64 pn,.int .i64 vn,.slice ba ls.length bc] 52)).alloc (.cells #[.slice none 0 0] 159)).alloc (.cells #[.bool false] 4)).alloc (.cells #[.int .i64 (-1),.int .i64 (-1)] 242)).heap.size=w.heap.size+4:=by simp
 generalize ((((w.alloc (.cells #[.int .i64 pn,.int .i64 vn,.slice ba ls.length bc] 52)).alloc (.cells #[.slice none 0 0] 159)).alloc (.cells #[.bool false] 4)).alloc (.cells #[.int .i64 (-1),.int .i64 (-1)] 242))=W4 at hD hB4 hsz4 ⊢
 have hn1:W4.cell? ⟨w.heap.size+1+1+1,0,none⟩=some (.int .i64 (-1)):=cell_of_row _ _ 0 _ _ _ hD.n
 have hn2:W4.cell? ⟨w.heap.size+1+1+1,1,none⟩=some (.int .i64 (-1)):=cell_of_row _ _ 1 _ _ _ hD.n
 have hv1:W4.cell? ⟨w.heap.size,1,none⟩=some (.int .i64 vn):=cell_of_row _ _ 1 _ _ _ hD.b
 have hE4:=heap_alloc_new W4 (.cells #[.int .i64 (-1),.int .i64 (-1)] 242)
 have hR:=qD (w.heap.size+4) 0 1 vn (-1) (W4.alloc (.cells #[.int .i64 (-1),.int .i64 (-1)] 242)) (by rw[hsz4] at hE4;exact cell_of_row _ _ 0 _ _ _ hE4) (by rw[hsz4] at hE4;exact cell_of_row _ _ 1 _ _ _ hE4) (by rw[World.size_alloc];omega) (by omega)
 rw[show (W4.alloc (.cells #[.int .i64 (-1),.int .i64 (-1)] 242)).heap.size=w.heap.size+5 by rw[World.size_alloc,hsz4]] at hR
 have HR:=zH hR
 clear hE4 hR
 have HD4:=zH (hD.alloc (.cells #[.int .i64 (-1),.int .i64 (-1)] 242))
 have HB5:=zH (hB4.alloc (by omega) (.cells #[.int .i64 (-1),.int .i64 (-1)] 242))
 clear hD hB4
 gi_upto_region 5 with(refine⟨trivial,?_⟩;gi_at_call 140;refine(callsIn_wide.2 HR.out).mono ?_;rintro e w5 ⟨rfl,hPN,hb5⟩;have HPN:=zH hPN;have HD5:=zH (HD4.out.below hb5 (by omega));have HB6:=zH (HB5.out.trans (hb5.mono (by omega)));clear hb5 hPN)
 obtain⟨d5,ed5⟩:∃d5,d5=w5.heap.size:=⟨_,rfl⟩
 have hd5:w.heap.size+5<d5:=by
  rw[ed5]
  obtain⟨_,h,_⟩:=HPN.out
  exact(Array.getElem?_eq_some_iff.1 h).1
 have HD6:=zH (HD5.out.alloc (.cells #[.slice (some ⟨w.heap.size+5,0,none⟩) vn vn] 159))
 have HB7:=zH (HB6.out.alloc (by omega) (.cells #[.slice (some ⟨w.heap.size+5,0,none⟩) vn vn] 159))
 have HP6:=zH (World.rowIs.alloc HPN.out (.cells #[.slice (some ⟨w.heap.size+5,0,none⟩) vn vn] 159))
 have HX6:=zH (show Boxed (w5.alloc (.cells #[.slice (some ⟨w.heap.size+5,0,none⟩) vn vn] 159)) d5 159 (.slice (some ⟨w.heap.size+5,0,none⟩) vn vn) from by rw[ed5];exact Boxed.new w5 _ _)
 have hs6:(w5.alloc (.cells #[.slice (some ⟨w.heap.size+5,0,none⟩) vn vn] 159)).heap.size=d5+1:=by rw[World.size_alloc,ed5]
 rw[<-ed5]
 clear HD5 HB6 HPN HD4 HB5 ed5
 generalize w5.alloc (.cells #[.slice (some ⟨w.heap.size+5,0,none⟩) vn vn] 159)=W6 at HD6 HB7 HP6 HX6 hs6 ⊢
 have hbd0:W6.cell? ⟨w.heap.size,0,none⟩=some (.int .i64 pn):=cell_of_row _ _ 0 _ _ _ HD6.out.b
 have hbd1:W6.cell? ⟨w.heap.size,1,none⟩=some (.int .i64 vn):=cell_of_row _ _ 1 _ _ _ HD6.out.b
 have hbd2:W6.cell? ⟨w.heap.size,2,none⟩=some (.slice ba ls.length bc):=cell_of_row _ _ 2 _ _ _ HD6.out.b
 gi_wp2_with (refine⟨trivial,?_⟩;gi_at_call 141;refine(callsIn_wide.2 (nD _ _ pn vn ba ls.length bc rfl)).mono ?_;rintro e w' ⟨rfl,rfl⟩)
 clear hbd0 hbd1 hbd2 HR
 have HI7:=zH (show DefI b ls w.heap.size d5 pn vn (.slice ba ls.length bc) [] (W6.alloc (.cells #[.int .i64 pn,.int .i64 vn,.slice ba ls.length bc] 52)) from⟨by rw[World.size_alloc,hs6];omega,HD6.out.alloc _,heap_alloc HX6.out _,_,World.rowIs.alloc HP6.out _,fun _=>rfl⟩)
 have HB8:=zH (HB7.out.alloc (by omega) (.cells #[.int .i64 pn,.int .i64 vn,.slice ba ls.length bc] 52))
 have HBs:=zH (show (W6.alloc (.cells #[.int .i64 pn,.int .i64 vn,.slice ba ls.length bc] 52)).heap[d5+1]?=some (.cells #[.int .i64 pn,.int .i64 vn,.slice ba ls.length bc] 52) from by rw[<-hs6];exact heap_alloc_new W6 _)
 have hs7:(W6.alloc (.cells #[.int .i64 pn,.int .i64 vn,.slice ba ls.length bc] 52)).heap.size=d5+2:=by rw[World.size_alloc,hs6]
 clear HD6 HB7 HP6 HX6 hs6
 generalize W6.alloc (.cells #[.int .i64 pn,.int .i64 vn,.slice ba ls.length bc] 52)=W7 at HI7 HB8 HBs hs7 ⊢
 rw[<-HM2.out] at HM1
 refine wpIn_rangeFunc_ownH rfl (by omega) (gf:=184) (lb:=#[.pointer (some ⟨d5+1,0,none⟩)]) rfl trivial (enters_of Tryz.func184 (by kernel_rfl) rfl)
  (lj ls n₀ (d5+1) pn vn ba bc _ (by omega) W7 (by have:=HN.out;omega) HBs.out (HM1.out.below (HB8.out.mono HN.out)) (by have:=HL.out;have:=HM2.out;omega) (fun i hi=>by have:=HK.out i (by rw[<-HM2.out];exact hi);rw[(HS.out).2 i];omega)) (fun h k=>h.trans k) (px (by omega) (by have:=HN.out;omega)) (Below.refl _ _) (fun _=>rfl)
  (fun pre W=>DefI b ls w.heap.size d5 pn vn (.slice ba ls.length bc) pre W/\Below w.heap.size w W)
  (fun c pre W=>(c=.ret/\¬(pre.map (·.1) <+: cA ls))/\Below w.heap.size w W)
  (OwnFrom.and (Own.from (fun s A B row hs hg hr=>hs.kept hg hr) _) (ownFrom_below (Nat.le_refl _) (by omega)))
  (fun c=>OwnFrom.and (ownFrom_pure _ _) (ownFrom_below (Nat.le_refl _) (by omega)))
  ⟨HI7.out,HB8.out⟩
  (fun x a' W=>∃Bx,d5+1<Bx/\DefX (bV ls x.1) x.1.1 x.1.2 Bx W/\a' = { tmps:=#[.agg #[.int .i64 pn,.int .i64 vn,.slice ba ls.length bc],.pointer (some ⟨w.heap.size,0,none⟩),.pointer (some ⟨w.heap.size+1,0,none⟩),.pointer (some ⟨w.heap.size+1+1,0,none⟩),.pointer (some ⟨w.heap.size+1+1+1,0,none⟩),.pointer (some ⟨d5,0,none⟩),.pointer (some ⟨Bx,0,none⟩),.pointer (some ⟨Bx+1,0,none⟩),.pointer (some ⟨w.heap.size,0,none⟩),.int .i64 pn,.bool (decide ((pn:Int)<0)),.bool (decide ((pn:Int)<0)),.pointer (some ⟨w.heap.size,0,none⟩),.int .i64 pn,.pointer (some ⟨w.heap.size,1,none⟩),.int .i64 vn,.bool false,.bool (decide ((pn:Int)<0)),.bool (decide ((pn:Int)<0)),.pointer (some ⟨w.heap.size,1,none⟩),.int .i64 vn,.bool (decide (4102<(vn:Int))),.bool (decide ((pn:Int)<0) || decide (4102<(vn:Int))),.agg #[.int .i64 (-1),.int .i64 (-1)],.agg #[.int .i64 (-1),.int .i64 (-1)],.slice (some ⟨w.heap.size+4,0,none⟩) 1 1,.pointer (some ⟨w.heap.size,1,none⟩),.int .i64 vn,.slice (some ⟨w.heap.size+5,0,none⟩) vn vn,.agg #[.int .i64 pn,.int .i64 vn,.slice ba ls.length bc],.func (.func 184) #[] #[.pointer (some ⟨d5+1,0,none⟩)],.agg #[.int .i64 (x.1.1:Int),.int .i64 (x.1.2:Int)],.agg #[.int .u8 (bV ls x.1).k,.int .u8 (bV ls x.1).o,.int .i64 (bV ls x.1).d,.int .i64 (bV ls x.1).r,.int .i64 (bV ls x.1).a,.slice (bV ls x.1).xa (bV ls x.1).xl (bV ls x.1).xc,.slice (bV ls x.1).ya (bV ls x.1).yl (bV ls x.1).yc,.int .i64 (bV ls x.1).n,.int .i64 (bV ls x.1).t],undef,undef,undef,undef,undef,undef,undef,undef,undef,undef,undef,undef,undef,undef,undef,undef,undef,undef,undef,undef,undef,undef,undef,undef,undef,undef,undef,undef,undef,undef,undef,undef,undef,undef,undef,undef],defers:=[] })
  (fun x a' _ X Y row hs hg hr=>by obtain⟨Bx,h1,h2,h3⟩:=hs;exact⟨Bx,h1,h2.kept hg (fun r e=>(hr r e).2),h3⟩)
  ?assign ?body ?done ?stop
 case assign =>
  rintro l pre x W K ⟨hI,hB⟩ hK
  unfold encI aF
  have hz:=hI.z
  have hz1:=HN.out
  gi_wp2
  exact hK _ _ (((KeepsOthers.alloc _ _).trans (KeepsOthers.alloc _ _)).from _) (((bW.refl _ _ _).alloc _ (by omega) (by omega)).alloc _ (by rw[World.size_alloc];omega) (by rw[World.size_alloc];omega)) ⟨(hI.alloc _).alloc _,(hB.alloc (by omega) _).alloc (by rw[World.size_alloc];omega) _⟩ ⟨W.heap.size,by omega,qF W _ _ _,rfl⟩
 case body =>
  rintro l pre x a' W hl _ ⟨hI,hB⟩ ⟨Bx,hBx,hX,rfl⟩ _
  obtain⟨⟨i,k⟩,hx⟩:=x
  have hd:=HO.out (i,k) hx
  simp only at hX hd ⊢
  generalize bV ls (i,k)=X at hX hd ⊢
  have c7:W.cell? ⟨Bx+1,2,none⟩=some (.int .i64 X.d):=cell_of_row _ _ 2 _ _ _ hX.x
  have c60:W.cell? ⟨Bx,0,none⟩=some (.int .i64 i):=cell_of_row _ _ 0 _ _ _ hX.h
  have c61:W.cell? ⟨Bx,1,none⟩=some (.int .i64 k):=cell_of_row _ _ 1 _ _ _ hX.h
  have hii:i<b.bs.length:=by rw[<-HM2.out];exact hx.1
  have hkk:k<(blAt b i).length:=by rw[<-HS.out.2 i];exact hx.2
  rcases pu HBO.out hii hkk with⟨hdf,e⟩ | ⟨hdf,e⟩
  ·obtain⟨dn,edn⟩:∃dn,dn=b.pa.toNat+CD.cntB b i+CD.cnt (blAt b i) k:=⟨_,rfl⟩
   rw[<-hd,<-edn] at e
   have hdn:=def_lt HBO.out hii hkk hdf
   rw[<-edn,EVA.out,Int.toNat_natCast] at hdn
   have hpn:pn<=dn:=by have:=EPA.out;omega
   obtain⟨f,hf,hpre⟩:=hI.f
   have k0:W.cell? ⟨w.heap.size,0,none⟩=some (.int .i64 pn):=cell_of_row _ _ 0 _ _ _ hI.w.b
   have k1:W.cell? ⟨w.heap.size,1,none⟩=some (.int .i64 vn):=cell_of_row _ _ 1 _ _ _ hI.w.b
   have k2:W.cell? ⟨w.heap.size+1+1+1,0,none⟩=some (.int .i64 (-1)):=cell_of_row _ _ 0 _ _ _ hI.w.n
   have k3:W.cell? ⟨w.heap.size+1+1+1,1,none⟩=some (.int .i64 (-1)):=cell_of_row _ _ 1 _ _ _ hI.w.n
   have k4:W.cell? ⟨d5,0,none⟩=some (.slice (some ⟨w.heap.size+5,0,none⟩) vn vn):=hI.x.cell
   have k5:W.cell? ⟨w.heap.size+5,dn*2,none⟩=some (.int .i64 (f (dn*2))):=World.rowIs.cell hf (by omega)
   have k6:W.cell? ⟨w.heap.size+5,dn*2+1,none⟩=some (.int .i64 (f (dn*2+1))):=World.rowIs.cell hf (by omega)
   have k7:W.frozen? ⟨w.heap.size+5,dn*2,none⟩=false:=World.rowIs.frozen hf _
   have k8:W.frozen? ⟨w.heap.size+5,dn*2+1,none⟩=false:=World.rowIs.frozen hf _
   obtain⟨p1,e1⟩:∃p1,p1=f (dn*2):=⟨_,rfl⟩
   obtain⟨p2,e2⟩:∃p2,p2=f (dn*2+1):=⟨_,rfl⟩
   rw[<-e1] at k5
   rw[<-e2] at k6
   rw[e] at c7
   have j1:(0:Int)<=dn:=by omega
   have j2:¬((dn:Int)<pn):=by omega
   have j3:¬((vn:Int)<=dn):=by omega
   have j4:(dn:Int)<vn:=by omega
   have j5:(dn:Int)≠-1:=by omega
   have j6:decide ((dn:Int)<(pn:Int))=false:=decide_eq_false j2
   have j7:decide ((vn:Int)<=(dn:Int))=false:=decide_eq_false j3
   have j8:decide (dn<pn)=false:=decide_eq_false (by omega)
   have j9:decide (vn<=dn)=false:=decide_eq_false (by omega)
   have hE:∀W,(Op.equalIn 10000 242 (.agg #[.int .i64 p1,.int .i64 p2]) (.agg #[.int .i64 (-1),.int .i64 (-1)])).run Tryz.prog W=.ok (p1 == -1 && p2 == -1) W:=fun W=>qE p1 p2 (-1) (-1) W
   have HI:=zH hI
   have HBB:=zH hB
   have HFF:=zH hf
   have HPRE:=zH hpre
   have HEE:=zH (And.intro e1 e2)
   have HD1:=zH (And.intro e hd)
   have HDN:=zH edn
   clear hI hB hX hd hdf hf hpre e1 e2 e edn
   cases ht:(p1 == -1 && p2 == -1)
   ·rw[ht] at hE
    gi_wp2
    refine cG (by kernel_rfl) (by kernel_rfl) (by kernel_rfl) ?_
    repeat (gi_big_quiet_step (fail))
    refine wpQuietIn_nil ?_
    intro _ hw'
    obtain⟨nq,hw''⟩:=hw'
    subst hw''
    have m1:(W.drewN nq).cell? ⟨d5,0,none⟩=some (.slice (some ⟨w.heap.size+5,0,none⟩) vn vn):=k4
    have m2:(W.drewN nq).cell? ⟨Bx+1,2,none⟩=some (.int .i64 dn):=c7
    have m3:(W.drewN nq).cell? ⟨Bx,0,none⟩=some (.int .i64 i):=c60
    have m4:(W.drewN nq).cell? ⟨Bx,1,none⟩=some (.int .i64 k):=c61
    have m5:(W.drewN nq).cell? ⟨w.heap.size+5,dn*2,none⟩=some (.int .i64 p1):=k5
    have m6:(W.drewN nq).cell? ⟨w.heap.size+5,dn*2+1,none⟩=some (.int .i64 p2):=k6
    have m7:(W.drewN nq).frozen? ⟨w.heap.size+5,dn*2,none⟩=false:=k7
    have m8:(W.drewN nq).frozen? ⟨w.heap.size+5,dn*2+1,none⟩=false:=k8
    have HI9:=zH (show DefI b ls w.heap.size d5 pn vn (.slice ba ls.length bc) pre (W.drewN nq) from⟨HI.out.z,⟨HI.out.w.b,HI.out.w.r,HI.out.w.o,HI.out.w.n⟩,HI.out.x,HI.out.f⟩)
    have HB9:=zH (show Below w.heap.size w (W.drewN nq) from HBB.out.trans ⟨rfl,rfl,rfl,Nat.le_refl _,fun _ _=>rfl⟩)
    have HF9:=zH (show PN (W.drewN nq) (w.heap.size+5) vn f from HFF.out)
    have HK9:=zH (show KeepsFrom W7.heap.size W (W.drewN nq)/\bW n₀ (d5+1) W (W.drewN nq) from⟨⟨Nat.le_refl _,fun _ _ _ h _=>h⟩,⟨Nat.le_refl _,fun _ _=>rfl⟩⟩)
    have r1:(W.drewN nq).cell? ⟨w.heap.size+1,0,none⟩=some (.slice none 0 0):=cell_of_row _ _ 0 _ _ _ HI.out.w.r
    have r2:(W.drewN nq).cell? ⟨w.heap.size+1+1,0,none⟩=some (.bool false):=cell_of_row _ _ 0 _ _ _ HI.out.w.o
    have r3:(W.drewN nq).frozen? ⟨w.heap.size+1,0,none⟩=false:=Boxed.frozen HI.out.w.r
    have r4:(W.drewN nq).frozen? ⟨w.heap.size+1+1,0,none⟩=false:=Boxed.frozen HI.out.w.o
    clear hE k0 k1 k2 k3 k4 k5 k6 k7 k8 c7 c60 c61 HI HBB HFF
    generalize W.drewN nq=W9 at m1 m2 m3 m4 m5 m6 m7 m8 HI9 HB9 HF9 HK9 r1 r2 r3 r4 ⊢
    gi_wp2
    refine⟨HK9.out.1.trans (((KeepsOthers.setCell _ _ _).trans (KeepsOthers.setCell _ _ _)).from _),⟨rfl,fun hp=>?_⟩,(HB9.out.setCell (p:=⟨w.heap.size+1,0,none⟩) (by simp) _).setCell (p:=⟨w.heap.size+1+1,0,none⟩) (by simp;omega) _⟩
    rw[List.map_append] at hp
    have hpa:=pre_at (y:=(i,k)) hp hx
    have hfe:=HPRE.out ((List.prefix_append _ _).trans hp)
    rw[hpa] at hfe
    have h3:=(dinv_at HBO.out HS.out hii (Nat.le_of_lt hkk)).lo dn (.inr (by rw[HDN.out];omega))
    rw[<-hfe,<-HEE.out.1,<-HEE.out.2] at h3
    rw[h3.1,h3.2] at ht
    simp at ht
   ·rw[ht] at hE
    gi_wp2
    refine cG (by kernel_rfl) (by kernel_rfl) (by kernel_rfl) ?_
    repeat (gi_big_quiet_step (fail))
    refine wpQuietIn_nil ?_
    intro _ hw'
    obtain⟨nq,hw''⟩:=hw'
    subst hw''
    have m1:(W.drewN nq).cell? ⟨d5,0,none⟩=some (.slice (some ⟨w.heap.size+5,0,none⟩) vn vn):=k4
    have m2:(W.drewN nq).cell? ⟨Bx+1,2,none⟩=some (.int .i64 dn):=c7
    have m3:(W.drewN nq).cell? ⟨Bx,0,none⟩=some (.int .i64 i):=c60
    have m4:(W.drewN nq).cell? ⟨Bx,1,none⟩=some (.int .i64 k):=c61
    have m5:(W.drewN nq).cell? ⟨w.heap.size+5,dn*2,none⟩=some (.int .i64 p1):=k5
    have m6:(W.drewN nq).cell? ⟨w.heap.size+5,dn*2+1,none⟩=some (.int .i64 p2):=k6
    have m7:(W.drewN nq).frozen? ⟨w.heap.size+5,dn*2,none⟩=false:=k7
    have m8:(W.drewN nq).frozen? ⟨w.heap.size+5,dn*2+1,none⟩=false:=k8
    have HI9:=zH (show DefI b ls w.heap.size d5 pn vn (.slice ba ls.length bc) pre (W.drewN nq) from⟨HI.out.z,⟨HI.out.w.b,HI.out.w.r,HI.out.w.o,HI.out.w.n⟩,HI.out.x,HI.out.f⟩)
    have HB9:=zH (show Below w.heap.size w (W.drewN nq) from HBB.out.trans ⟨rfl,rfl,rfl,Nat.le_refl _,fun _ _=>rfl⟩)
    have HF9:=zH (show PN (W.drewN nq) (w.heap.size+5) vn f from HFF.out)
    have HK9:=zH (show KeepsFrom W7.heap.size W (W.drewN nq)/\bW n₀ (d5+1) W (W.drewN nq) from⟨⟨Nat.le_refl _,fun _ _ _ h _=>h⟩,⟨Nat.le_refl _,fun _ _=>rfl⟩⟩)
    clear hE k0 k1 k2 k3 k4 k5 k6 k7 k8 c7 c60 c61 HI HBB HFF
    generalize W.drewN nq=W9 at m1 m2 m3 m4 m5 m6 m7 m8 HI9 HB9 HF9 HK9 ⊢
    gi_wp2
    have hn5:n₀<=w.heap.size+5:=by have:=HN.out;omega
    refine⟨HK9.out.1.trans (((KeepsOthers.setCell _ _ _).trans (KeepsOthers.setCell _ _ _)).from _),(HK9.out.2.setCell hn5 (by omega) _ _).setCell hn5 (by omega) _ _,⟨by simpa using HI9.out.z,(HI9.out.w.setCell (by omega) _ _).setCell (by omega) _ _,heap_setCell (heap_setCell HI9.out.x (by omega)) (by omega),_,(PN.set HF9.out (dn*2) i).set (dn*2+1) k,fun hp=>?_⟩,(HB9.out.setCell (p:=⟨w.heap.size+5,dn*2,none⟩) (by simp) _).setCell (p:=⟨w.heap.size+5,dn*2+1,none⟩) (by simp) _⟩
    rw[List.map_append] at hp ⊢
    have hfe:=HPRE.out ((List.prefix_append _ _).trans hp)
    show _=FF b (pre.map (·.1) ++ [(i,k)])
    rw[pt,<-hfe]
    unfold hZ
    have hdd:(aj (blAt b i) k).d=(dn:Int):=by rw[<-HD1.out.2,HD1.out.1]
    simp only
    rw[hdd,if_neg (by omega),Int.toNat_natCast]
  ·rw[<-hd] at e
   rw[e] at c7
   have HI:=zH hI
   have HBB:=zH hB
   have HF:=zH (show hZ b (FF b (pre.map (·.1))) (i,k)=FF b (pre.map (·.1)) from by unfold hZ;rw[if_pos (by rw[<-hd];exact e)])
   clear hI hB hX hd hdf
   gi_wp2
   refine⟨KeepsFrom.refl _ _,bW.refl _ _ _,⟨HI.out.z,HI.out.w,HI.out.x,?_⟩,HBB.out⟩
   obtain⟨f,h1,h2⟩:=HI.out.f
   refine⟨f,h1,fun hp=>?_⟩
   rw[List.map_append] at hp ⊢
   show f=FF b (pre.map (·.1) ++ [(i,k)])
   rw[pt,HF.out]
   exact h2 ((List.prefix_append _ _).trans hp)
 case done =>
  rintro D ys W hD hys ⟨hI,hB⟩ hKD
  obtain⟨f,hf,hfe⟩:=hI.f
  have hfe':f=FF b (cA ls):=by
   have:=hfe (by rw[hys];exact List.prefix_rfl)
   rw[hys] at this
   exact this
  have HFE:=zH (hfe'.trans (by rw[sy HS.out]:FF b (cA ls)=FF b (itB b)))
  have hdi:=qA HBO.out HS.out
  rw[<-hfe'] at hdi
  have k0:W.cell? ⟨w.heap.size,0,none⟩=some (.int .i64 pn):=cell_of_row _ _ 0 _ _ _ hI.w.b
  have k2:W.cell? ⟨w.heap.size+1+1+1,0,none⟩=some (.int .i64 (-1)):=cell_of_row _ _ 0 _ _ _ hI.w.n
  have k3:W.cell? ⟨w.heap.size+1+1+1,1,none⟩=some (.int .i64 (-1)):=cell_of_row _ _ 1 _ _ _ hI.w.n
  have k4:W.cell? ⟨d5,0,none⟩=some (.slice (some ⟨w.heap.size+5,0,none⟩) vn vn):=hI.x.cell
  have hzz:=hI.z
  have hno:CD.tf (HasP (fun i=>f (pn*2+i)) (vn-pn) (-1) (-1))=false:=CD.aD (by
   rintro ⟨i,hi,h1,h2⟩
   have hp:=EPA.out
   have hv:=EVA.out
   have hlast:b.pa.toNat+CD.cntB b b.bs.length+CD.cnt (blAt b b.bs.length) 0=vn:=by
    have:=HBO.out.2.2
    rw[CD.gJ]
    omega
   obtain⟨i',k',_,_,_,_,h3,_⟩:=hdi.hi (pn+i) (by omega) (by omega)
   rw[show (pn+i)*2=pn*2+i*2 by omega] at h3
   simp only at h1
   omega)
  have hct:=fun(V:World) (h1:w.heap.size+5<V.heap.size) (hc:∀i,i<(vn-pn)*2->V.cell? ⟨w.heap.size+5,pn*2+i,none⟩=some (.int .i64 (f (pn*2+i))))=>jo (some ⟨w.heap.size+5,pn*2,none⟩) (w.heap.size+5) (pn*2) (vn-pn) (vn-pn) (fun i=>f (pn*2+i)) (-1) (-1) V (fun _=>rfl) (fun _=>h1) (by omega) hc
  rw[hno] at hct
  have HCT:=zH hct
  have HFC:=zH (show ∀i,i<(vn-pn)*2->W.cell? ⟨w.heap.size+5,pn*2+i,none⟩=some (.int .i64 (f (pn*2+i))) from fun i hi=>World.rowIs.cell hf (by omega))
  have HI:=zH hI
  have HBB:=zH hB
  have HFF:=zH hf
  have HDI:=zH hdi
  have HKD:=zH hKD
  clear hI hB hf hfe hfe' hdi hno hct hys hKD
  have i5:(pn:Int)<=(vn:Int):=by omega
  gi_upto_region 12 with fail
  by_cases hpv:vn=pn
  ·subst hpv
   have HCT0:=zH (fun V=>jo (some ⟨w.heap.size+5,0,none⟩) (w.heap.size+5) 0 0 0 f (-1) (-1) V (fun h=>absurd h (by omega)) (fun h=>absurd h (by omega)) (by omega) (fun i hi=>absurd hi (by omega)))
   rw[show CD.tf (HasP f 0 (-1) (-1))=false from CD.aD (fun⟨i,hi,_⟩=>absurd hi (by omega))] at HCT0
   gi_region_with (refine⟨trivial,?_⟩;gi_at_call 142;refine(callsIn_wide.2 (HCT0.out _)).mono ?_;rintro e w' ⟨rfl,hbw⟩)
   all_goals (
    replace hbw:Below W.heap.size W w':=(show Below W.heap.size W W.drew from⟨rfl,rfl,rfl,Nat.le_refl _,fun _ _=>rfl⟩).trans (show Below W.heap.size W.drew w' from hbw)
    have hz:=HI.out.z
    have HWW:=zH (HI.out.w.below hbw (by omega))
    have hx:Boxed w' d5 159 (.slice (some ⟨w.heap.size+5,0,none⟩) vn vn):=(hbw.block d5 (by omega)).trans HI.out.x
    have k4:=hx.cell
    have r1:w'.cell? ⟨w.heap.size+1,0,none⟩=some (.slice none 0 0):=cell_of_row _ _ 0 _ _ _ HWW.out.r
    have r2:w'.cell? ⟨w.heap.size+1+1,0,none⟩=some (.bool false):=cell_of_row _ _ 0 _ _ _ HWW.out.o
    have r3:w'.frozen? ⟨w.heap.size+1,0,none⟩=false:=Boxed.frozen HWW.out.r
    have r4:w'.frozen? ⟨w.heap.size+1+1,0,none⟩=false:=Boxed.frozen HWW.out.o
    have hF:PN w' (w.heap.size+5) vn f:=World.rowIs.of_block HFF.out (hbw.block _ (by omega))
    have hKD:w'.heap[D]?=some (.deferred (some [])):=(hbw.block D (Array.getElem?_eq_some_iff.1 HKD.out).1).trans HKD.out
    have hBW:=HBB.out.trans (hbw.mono HBB.out.size)
    have HF:=zH hF
    have HK2:=zH hKD
    have HBW:=zH hBW
    clear hx hbw hF hKD hBW
    gi_wp2
    have hK':=((KeepsOthers.setCell w' ⟨w.heap.size+1,0,none⟩ (.slice (some ⟨w.heap.size+5,0,none⟩) vn vn)).trans (KeepsOthers.setCell _ ⟨w.heap.size+1+1,0,none⟩ (.bool true))).same D _ HK2.out rfl
    refine⟨by simp,.inl ⟨_,_,rfl,run_takeDeferred hK',?_⟩⟩
    have h1:((w'.setCell ⟨w.heap.size+1,0,none⟩ (.slice (some ⟨w.heap.size+5,0,none⟩) vn vn)).setCell ⟨w.heap.size+1+1,0,none⟩ (.bool true)).cell? ⟨w.heap.size+1,0,none⟩=some (.slice (some ⟨w.heap.size+5,0,none⟩) vn vn) :=
     (World.cell?_setCell_other _ _ _ _ (by simp)).trans (World.cell?_setCell_same' _ _ _ (by rw[r1];rfl))
    have h2:((w'.setCell ⟨w.heap.size+1,0,none⟩ (.slice (some ⟨w.heap.size+5,0,none⟩) vn vn)).setCell ⟨w.heap.size+1+1,0,none⟩ (.bool true)).cell? ⟨w.heap.size+1+1,0,none⟩=some (.bool true) :=
     World.cell?_setCell_same' _ _ _ (by rw[World.cell?_setCell_other _ _ _ _ (by simp),r2];rfl)
    have h1':=cell_kept h1 (grownBy_putObj' _ D (.deferred none)) (fun r e=>(by cases e;exact⟨_,hK',rfl⟩))
    have h2':=cell_kept h2 (grownBy_putObj' _ D (.deferred none)) (fun r e=>(by cases e;exact⟨_,hK',rfl⟩))
    refine⟨.tuple #[.slice (some ⟨w.heap.size+5,0,none⟩) vn vn,.bool true],?_,w.heap.size+5,f,rfl,?_,by rw[HM2.out];exact HDI.out,HFE.out,((HBW.out.setCell (p:=⟨w.heap.size+1,0,none⟩) (by simp) _).setCell (p:=⟨w.heap.size+1+1,0,none⟩) (by simp;omega) _).trans (belowK_b (w:=w) (Nat.le_refl _) _ D _ _ (by omega) hK' rfl rfl)⟩
    ·simp [results,Tryz.f89,go_sem,h1',h2']
    ·exact World.rowIs.of_block (World.rowIs.setOther (World.rowIs.setOther HF.out (by simp) _) (by simp) _) (World.putObj_heap_other (by omega)))
  ·gi_region_with (refine⟨trivial,?_⟩;gi_at_call 142;refine(callsIn_wide.2 (HCT.out W.drew (by show _<W.heap.size;omega) (fun i hi=>HFC.out i hi))).mono ?_;rintro e w' ⟨rfl,hbw⟩)
   all_goals (
    replace hbw:Below W.heap.size W w':=(show Below W.heap.size W W.drew from⟨rfl,rfl,rfl,Nat.le_refl _,fun _ _=>rfl⟩).trans (show Below W.heap.size W.drew w' from hbw)
    have hz:=HI.out.z
    have HWW:=zH (HI.out.w.below hbw (by omega))
    have hx:Boxed w' d5 159 (.slice (some ⟨w.heap.size+5,0,none⟩) vn vn):=(hbw.block d5 (by omega)).trans HI.out.x
    have k4:=hx.cell
    have r1:w'.cell? ⟨w.heap.size+1,0,none⟩=some (.slice none 0 0):=cell_of_row _ _ 0 _ _ _ HWW.out.r
    have r2:w'.cell? ⟨w.heap.size+1+1,0,none⟩=some (.bool false):=cell_of_row _ _ 0 _ _ _ HWW.out.o
    have r3:w'.frozen? ⟨w.heap.size+1,0,none⟩=false:=Boxed.frozen HWW.out.r
    have r4:w'.frozen? ⟨w.heap.size+1+1,0,none⟩=false:=Boxed.frozen HWW.out.o
    have hF:PN w' (w.heap.size+5) vn f:=World.rowIs.of_block HFF.out (hbw.block _ (by omega))
    have hKD:w'.heap[D]?=some (.deferred (some [])):=(hbw.block D (Array.getElem?_eq_some_iff.1 HKD.out).1).trans HKD.out
    have hBW:=HBB.out.trans (hbw.mono HBB.out.size)
    have HF:=zH hF
    have HK2:=zH hKD
    have HBW:=zH hBW
    clear hx hbw hF hKD hBW
    gi_wp2
    have hK':=((KeepsOthers.setCell w' ⟨w.heap.size+1,0,none⟩ (.slice (some ⟨w.heap.size+5,0,none⟩) vn vn)).trans (KeepsOthers.setCell _ ⟨w.heap.size+1+1,0,none⟩ (.bool true))).same D _ HK2.out rfl
    refine⟨by simp,.inl ⟨_,_,rfl,run_takeDeferred hK',?_⟩⟩
    have h1:((w'.setCell ⟨w.heap.size+1,0,none⟩ (.slice (some ⟨w.heap.size+5,0,none⟩) vn vn)).setCell ⟨w.heap.size+1+1,0,none⟩ (.bool true)).cell? ⟨w.heap.size+1,0,none⟩=some (.slice (some ⟨w.heap.size+5,0,none⟩) vn vn) :=
     (World.cell?_setCell_other _ _ _ _ (by simp)).trans (World.cell?_setCell_same' _ _ _ (by rw[r1];rfl))
    have h2:((w'.setCell ⟨w.heap.size+1,0,none⟩ (.slice (some ⟨w.heap.size+5,0,none⟩) vn vn)).setCell ⟨w.heap.size+1+1,0,none⟩ (.bool true)).cell? ⟨w.heap.size+1+1,0,none⟩=some (.bool true) :=
     World.cell?_setCell_same' _ _ _ (by rw[World.cell?_setCell_other _ _ _ _ (by simp),r2];rfl)
    have h1':=cell_kept h1 (grownBy_putObj' _ D (.deferred none)) (fun r e=>(by cases e;exact⟨_,hK',rfl⟩))
    have h2':=cell_kept h2 (grownBy_putObj' _ D (.deferred none)) (fun r e=>(by cases e;exact⟨_,hK',rfl⟩))
    refine⟨.tuple #[.slice (some ⟨w.heap.size+5,0,none⟩) vn vn,.bool true],?_,w.heap.size+5,f,rfl,?_,by rw[HM2.out];exact HDI.out,HFE.out,((HBW.out.setCell (p:=⟨w.heap.size+1,0,none⟩) (by simp) _).setCell (p:=⟨w.heap.size+1+1,0,none⟩) (by simp;omega) _).trans (belowK_b (w:=w) (Nat.le_refl _) _ D _ _ (by omega) hK' rfl rfl)⟩
    ·simp [results,Tryz.f89,go_sem,h1',h2']
    ·exact World.rowIs.of_block (World.rowIs.setOther (World.rowIs.setOther HF.out (by simp) _) (by simp) _) (World.putObj_heap_other (by omega)))
 case stop =>
  rintro D c pre W hD hpre ⟨⟨rfl,hno⟩,_⟩ _
  exact absurd hpre hno
end
end Go.Proofs.YtjngffgkllakaaaGreatDoor
namespace Go
theorem ma{P:Nat->Prop}:∀(n:Nat),P n->∃m,P m/\∀k,P k->m<=k:=by
 intro n
 induction n using Nat.strongRecOn with
 | _ n ih =>
   intro h
   by_cases hl:∃k,k<n/\P k
   ·obtain⟨k,hk,hp⟩:=hl
    exact ih k hk hp
   ·exact⟨n,h,fun k hk=>Nat.le_of_not_lt fun hlt=>hl ⟨k,hlt,hk⟩⟩
open Classical in
noncomputable def leastN (P:Nat->Prop):Nat:=if h:∃m,P m/\∀k,P k->m<=k then Classical.choose h else 0
theorem lk{P:Nat->Prop}{n:Nat}(h:P n):P (leastN P)/\∀k,P k->leastN P<=k:=by
 unfold leastN
 rw[dif_pos (ma n h)]
 exact Classical.choose_spec (ma n h)
theorem mb{P:Program}{a:Act}{w:World}{Q:Exit->Act->World->Prop}{c rest:Code}(l:Nat)(J:Nat->Act->World->Prop)(hf:findLabel c l=some (.seq .skip rest))
 (pass:∀n a w,J n a w->rest.wp P (Exit.jump l (fun a' w'=>∃m,m<n/\J m a' w') Q) a w)
 (first:∀R:Exit->Act->World->Prop,(∀n a w,J n a w->rest.wp P R a w)->c.wp P R a w):(Code.scope c).wp P Q a w:=by
 have hmono:∀n a w,J n a w->rest.wp P (Exit.jump l (fun a' w'=>(∃m,J m a' w')/\leastN (fun m=>J m a' w')<n) Q) a w:=fun n a w h=>by
  refine Code.wp_mono (fun e a' w' hq=>?_) (pass n a w h)
  cases e with
  | goto l' =>
    obtain⟨h1,m,hm,hj⟩:=hq
    exact⟨h1,⟨m,hj⟩,Nat.lt_of_le_of_lt ((lk (P:=fun m=>J m a' w') hj).2 m hj) hm⟩
  | normal=>exact hq
  | exit _=>exact hq
  | ret=>exact hq
  | panic _=>exact hq
  | outgrown=>exact hq
 refine wp_scope_jumps l (fun a w=>∃n,J n a w) (fun a w=>leastN (fun m=>J m a w)) hf (first _ fun n a w h=>?_) (fun a w ⟨n,h⟩=>?_)
 ·refine Code.wp_mono (fun e a' w' hq=>?_) (hmono n a w h)
  cases e with
  | goto l'=>exact⟨hq.1,hq.2.1⟩
  | normal=>exact hq
  | exit _=>exact hq
  | ret=>exact hq
  | panic _=>exact hq
  | outgrown=>exact hq
 ·exact wp_seq (wp_skip (hmono _ a w (lk (P:=fun m=>J m a w) h).1))
end Go
namespace Go.Proofs.YtjngffgkllakaaaGreatDoor
open List renaming getElem_toArray → zA, getElem_cons_succ → zB, getElem_cons_zero → zC, setIfInBounds_toArray → zD, set_cons_zero → zE, set_cons_succ → zF
open Lib renaming hid → zH
section
open Go.RowKit
theorem lostI_no{to:List (List Int)}(hr:GG.al to=true)(h:DD.allB to=false):∃k:Nat,ft to=(k:Int):=by
 unfold DD.allB at h
 rw[List.all_eq_false] at h
 unfold ft
 rw[if_pos hr]
 obtain⟨x,hx,hnx⟩:=h
 obtain⟨m,⟨hm1,hm2⟩,hl⟩:=ma (P:=fun k=>k<to.length/\(!GG.reachB to (-1) 0 k)=true) x ⟨List.mem_range.1 hx,by simpa using hnx⟩
 refine⟨m,GG.dC hm1 hm2 (fun j hj=>?_)⟩
 cases e:(!GG.reachB to (-1) 0 j)
 ·rfl
 ·have:=hl j ⟨by omega,e⟩;omega
theorem lostI_all{to:List (List Int)}(hr:GG.al to=true)(h:DD.allB to=true):ft to = -1:=by
 unfold ft
 rw[if_pos hr]
 exact GG.dI fun j hj=>by rw[DD.all_at h hj];rfl
def TFrame(o b p t:Value)(a:Act):Prop:=∃u0 u1 u2 u3 u4 u9 u10 u11 u12 u13 u14 u15 u16 u17 u18 u19 u20 u21 u22 u23 u24 u25 u26 u27 u28 u29 u30 u31 u32 u33 u34 u35 u36 u37 u38 u39 u40 u41 u42 u43 u44 u45 u46 u47 u48 u49 u50 u51 u52 u53 u54 u55:Value,a = { tmps:=#[u0,u1,u2,u3,u4,o,b,p,t,u9,u10,u11,u12,u13,u14,u15,u16,u17,u18,u19,u20,u21,u22,u23,u24,u25,u26,u27,u28,u29,u30,u31,u32,u33,u34,u35,u36,u37,u38,u39,u40,u41,u42,u43,u44,u45,u46,u47,u48,u49,u50,u51,u52,u53,u54,u55],defers:=[] }
theorem cell_newD(W:World)(x:Value)(t:TypeId):(W.alloc (.cells #[x] t)).cell? ⟨W.heap.size,0,none⟩=some x:=by
 have:=GG.aW W x t 0 x rfl
 rwa [Addr.add_lit] at this
theorem places_n(la:Option Addr)(lc n:Nat)(l:List Int)(w:World)(HF:Row w.heap.size w (.slice la n lc) l)(hln:l.length=n)(hn:l.Nodup)(hll:n<=256)(hl:∀x∈l,0<=x/\x<n) :
 Calls Tryz.prog 145 #[.slice la n lc] w fun e w'=>e=.returned (.slice (some ⟨w.heap.size,0,none⟩) n n)/\cj w' w.heap.size n (plA l n)/\Below w.heap.size w w':=by
 subst hln
 exact sr la lc l w HF hn hll hl
theorem own_rd{W:World}{B n:Nat}{T:Nat->Int}{v:Value}{xs:List Value}(h:W.ownsRow B 3 1 v n xs)(hx:xs=ap ((List.range n).map T))(h0:0<n):∃g cap,v=.slice (some ⟨g,0,none⟩) n cap/\B<=g/\g<W.heap.size/\Rd W g 0 n T:=by
 subst hx
 have hl:=h.lt
 have hr:=aS h
 rcases h.2 with⟨rfl,e⟩ | ⟨g,cap,cur,rfl,hb,hg,_⟩
 ·omega
 ·refine⟨g,cap,rfl,hb,(hl g rfl).2,fun i hi=>?_⟩
  rcases hr with⟨_,e⟩ | ⟨g',off,cap',e,_,_,hc⟩
  ·have:(ap ((List.range n).map T)).length=0:=by rw[e];rfl
   rw[aY] at this;simp at this;omega
  ·simp at e
   obtain⟨⟨rfl,rfl⟩,_⟩:=e
   refine hc i _ ?_
   unfold ap
   rw[List.getElem?_map,List.getElem?_map,List.getElem?_range hi];rfl
theorem Rd.setCell{W:World}{b off n g i:Nat}{f:Nat->Int}(h:Rd W b off n f)(hne:b≠g)(v:Value):Rd (W.setCell ⟨g,i,none⟩ v) b off n f:=fun j hj=>by
 rw[World.cell?_setCell_other _ _ _ _ (by simp [Ne.symm hne])];exact h j hj
theorem Rd.below{W W':World}{b off n B:Nat}{f:Nat->Int}(h:Rd W b off n f)(hb:Below B W W')(hl:b<B):Rd W' b off n f:=fun j hj=>(hb.cell (p:=⟨b,off+j,none⟩) hl).trans (h j hj)
structure TJ (W:World) (to:List (List Int)) (R n:Nat) (W1:World) (ob oo oc:Nat) (bv:Value) (pb tb r:Nat) (T:Nat->Int) (w:World):Prop where
 at_:tb=W1.heap.size
 order:Row W1.heap.size W1 (.slice (some ⟨ob,oo,none⟩) to.length oc) (GG.bT to)
 back:aq W1.heap.size W1 bv (GG.bR to)
 place:Rd W1 pb 0 to.length (fun i=>(DD.plOf to i:Int))
 placeAt:pb<W1.heap.size
 base:Below W.heap.size W W1
 tree:cj w tb to.length T
 below:Below W1.heap.size W1 w
 st:DD.St to.length (GG.am to) (DD.plOf to) r 1 T
 ghost:n+r=R+2
def TJump(W:World)(to:List (List Int))(R n:Nat)(a:Act)(w:World):Prop :=
 ∃(W1:World) (ob oo oc:Nat) (bv:Value) (pb tb r:Nat) (T:Nat->Int),TFrame (.slice (some ⟨ob,oo,none⟩) to.length oc) bv (.slice (some ⟨pb,0,none⟩) to.length to.length) (.slice (some ⟨tb,0,none⟩) to.length to.length) a/\TJ W to R n W1 ob oo oc bv pb tb r T w
theorem map_eq{n:Nat}{T T0:Nat->Int}(h:(List.range n).map T=(List.range n).map T0):∀k,k<n->T k=T0 k:=fun k hk=>by
 have:=congrArg (fun l=>l[k]?) h
 simpa [List.getElem?_map,List.getElem?_range hk] using this
theorem fun_eq{n:Nat}{T T0:Nat->Int}(h:∀k,k<n->T k=T0 k)(h1:∀k,n<=k->T k = -1)(h2:∀k,n<=k->T0 k = -1):T=T0:=by
 funext k
 by_cases e:k<n
 ·exact h k e
 ·rw[h1 k (by omega),h2 k (by omega)]
theorem tj_first{W:World}{to:List (List Int)}{R:Nat}{w5 w6 w7:World}{oa:Option Addr}{oc pb:Nat}{bv:Value}(hr:GG.al to=true)(ha:DD.allB to=true)(G:DD.Gr to.length (GG.am to) (DD.plOf to))
 (ho:Row w5.heap.size w5 (.slice oa to.length oc) (GG.bT to)) (hg:aq w5.heap.size w5 bv (GG.bR to)) (hp:cj w5 pb to.length (plA (GG.bT to) to.length)) (hpb:pb<w5.heap.size) (hb:Below W.heap.size W w5) (h6:Below w5.heap.size w5 w6) (ht:cj w7 w6.heap.size to.length (fun _=>-1)) (h7:Below w6.heap.size w6 w7) {tb:Nat} (htb:tb=w6.heap.size) :
 ∃ob oo,oa=some ⟨ob,oo,none⟩/\TJ W to R (R+2) w6 ob oo oc bv pb tb 0 (fun k=>-1) w7:=by
 have hl:=DD.iZ hr ha
 obtain⟨ob,oo,cap,e,_⟩:=ho.at (by have:=GG.aC hr;omega)
 simp at e
 obtain⟨rfl,-,rfl⟩:=e
 have ho6:=ho.on h6 h6.size
 have hs:=h6.size
 subst htb
 refine⟨ob,oo,rfl,⟨rfl,ho6,hg.on h6 h6.size,(hp.congr (f':=fun i=>(DD.plOf to i:Int)) (fun i hi=>plA_all (by omega) ((DD.iY hr ha).2 hi))).rd.below h6 hpb,by omega,bstep hb h6,ht,h7,DD.st_first G (fun _=>rfl),by omega⟩⟩
theorem sD{n:Nat}{adj:Nat->List Nat}{pl:Nat->Nat}{r R:Nat}{T T0:Nat->Int}(G:DD.Gr n adj pl)(hR:∀a k,a<n->k<n->DD.Av adj a k->DD.RP adj pl a R k)(h0:DD.St n adj pl r 1 T0)(h1:DD.St n adj pl (r+1) 1 T)(hne:T≠T0):r<=R:=by
 rcases Nat.lt_or_ge R r with h | h
 ·exact absurd ((h1.fin_far G hR (by omega)).same (h0.fin_far G hR h)) hne
 ·exact h
def pz(to:List (List Int)):Prop:=GG.al to=true->DD.allB to=true->∃T,DD.Fin to.length (GG.am to) (DD.plOf to) T
set_option maxRecDepth 100000 in
set_option maxHeartbeats 3200000 in
theorem tree_full{v:Value}{to:List (List Int)}(W:World)(hv:aq W.heap.size W v to)(hx:cQ to) :
 Calls Tryz.prog 92 #[v] W fun e W'=>oW W.heap.size (DD.cH to) e W W'/\pz to:=by
 have hx0:=hx.1
 have HV:=zH hv
 have HX:=zH hx
 obtain⟨va,vc,rfl⟩:=hv.form
 clear hv hx
 cases hr:GG.al to
 ·have HR:=zH hr
  have HE:=zH (show DD.cH to=[] by unfold DD.cH;rw[if_neg (by rw[hr];simp)])
  clear hr
  go_enter Tryz.func92,Tryz.ntmps92
  go_wp2
  go_step3
  go_wp2_with (go_at_call 35;refine(aT _ to _ HV.out HX.out).mono ?_;rintro e w' ⟨rfl,hB⟩;have HB:=zH hB;clear hB;rw[HR.out])
  try rw[Exit.noGoto_ret]
  go_ret
  exact⟨⟨_,rfl,by rw[HE.out];exact br _ _ _ _ (fun _=>rfl),HB.out⟩,fun h=>absurd (h.symm.trans HR.out) (by decide)⟩
 ·cases ha:DD.allB to
  ·have HR:=zH hr
   obtain⟨k,hk⟩:=lostI_no hr ha
   have HK:=zH hk
   have HE:=zH (show DD.cH to=[] by unfold DD.cH;rw[if_neg (by rw[ha];simp)])
   have HA:=zH ha
   clear hr ha hk
   go_enter Tryz.func92,Tryz.ntmps92
   go_wp2
   go_step3
   go_wp2_with (first
    | (go_at_call 35;refine(aT _ to _ HV.out HX.out).mono ?_;rintro e w' ⟨rfl,hB⟩;have HB:=zH hB;clear hB;rw[HR.out])
    | (go_at_call 138;refine(iv (to:=to) _ (HV.out.on HB.out HB.out.size) HX.out).mono ?_;rintro e w2 ⟨rfl,hB2⟩;have HB2:=zH (bstep HB.out hB2);clear hB2;rw[HK.out,gX]))
   try rw[Exit.noGoto_ret]
   go_ret
   exact⟨⟨_,rfl,by rw[HE.out];exact br _ _ _ _ (fun _=>rfl),HB2.out⟩,fun _ h=>absurd (h.symm.trans HA.out) (by decide)⟩
  ·have HR :=zH hr
   have HA:=zH ha
   have HG:=zH (DD.gr_of hr ha)
   have hlen:=GG.aC hr
   have HK:=zH (lostI_all hr ha)
   have HOE:=zH (show jr to=GG.bT to by unfold jr;rw[if_pos hr])
   have HOL:=zH (DD.iZ hr ha)
   have HON:=zH (GG.gl hr)
   have HBE:=zH (show gH to=GG.bR to by unfold gH;rw[if_pos hr])
   have HFL:=zH (fun T F=>DD.qx (T:=T) hr ha F)
   obtain⟨R,hR⟩:=DD.RP.all (GG.am to) (DD.plOf to) to.length
   have HRR:=zH hR
   clear hr ha hR
   go_enter Tryz.func92,Tryz.ntmps92
   go_wp2
   refine mb 0 (TJump W to R) rfl ?pass ?first
   case first =>
    intro QR hrest
    go_wp2_with (first
     | (go_at_call 35;refine(aT _ to _ HV.out HX.out).mono ?_;rintro e w' ⟨rfl,hB⟩;have HB:=zH hB;clear hB;rw[HR.out])
     | (go_at_call 138;refine(iv (to:=to) _ (HV.out.on HB.out HB.out.size) HX.out).mono ?_;rintro e w2 ⟨rfl,hB2⟩;have HB2:=zH (bstep HB.out hB2);clear hB2;rw[HK.out,dg])
     | (go_at_call 144
        refine(rY (to:=to) _ (HV.out.on HB2.out HB2.out.size) HX.out).mono ?_
        rintro e w3 ⟨ov,rfl,ho,hB3⟩
        rw[HOE.out] at ho
        obtain⟨oa,oc,hov⟩:=ho.form
        rw[HOL.out] at hov
        subst hov
        have HO3:=zH ho
        have HB3:=zH (bstep HB2.out hB3)
        clear ho hB3)
     | (go_at_call 90
        refine(iy (to:=to) _ (HV.out.on HB3.out HB3.out.size) HX.out).mono ?_
        rintro e w4 ⟨bv,rfl,hg,hB4⟩
        rw[HBE.out] at hg
        have HG4:=zH hg
        have HO4:=zH (HO3.out.on hB4 hB4.size)
        have HB4:=zH (bstep HB3.out hB4)
        clear hg hB4)
     | (go_at_call 145
        refine(places_n oa oc to.length (GG.bT to) w4 HO4.out HOL.out HON.out hlen.2 (fun x hx=>by have:=(GG.iT HR.out x).1 hx;exact⟨this.1,this.2.1⟩)).mono ?_
        rintro e w5 ⟨rfl,hp,hB5⟩
        have HP5:=zH hp
        have HO5:=zH (HO4.out.on hB5 hB5.size)
        have HG5:=zH (HG4.out.on hB5 hB5.size)
        have HB5:=zH (bstep HB4.out hB5)
        have HS5:=zH (show w4.heap.size<w5.heap.size from World.rowIs.lt hp)
        clear hp hB5)
     | (go_at_call 146
        have HB6:=zH ((Below.refl w5.heap.size w5).alloc (Nat.le_refl _) (.cells #[.int .i64 (-1)] 3))
        refine(su w5.heap.size 0 1 to.length (-1) _ (cell_newD _ _ _) (by simp) hlen.1 hlen.2).mono ?_
        rintro e w7 ⟨rfl,ht,hB7⟩
        have HT7:=zH ht
        have HB7:=zH hB7
        clear ht hB7))
    have HJ:=zH (fun(tb:Nat) (e:tb=w5.heap.size+1)=>tj_first (W:=W) (R:=R) (tb:=tb) HR.out HA.out HG.out HO5.out HG5.out HP5.out HS5.out HB5.out HB6.out HT7.out HB7.out (by rw[e];simp))
    obtain⟨ob,oo,rfl,hj⟩:=HJ.out _ rfl
    rename_i hK
    go_step3
    refine hK _ _ (hrest (R+2) _ _ ⟨_,_,_,_,_,_,_,_,_,?_,hj⟩)
    exact⟨_,_,_,_,_,_,_,_,_,_,_,_,_,_,_,_,_,_,_,_,_,_,_,_,_,_,_,_,_,_,_,_,_,_,_,_,_,_,_,_,_,_,_,_,_,_,_,_,_,_,_,_,rfl⟩
   case pass =>
    intro gh a w hJ
    obtain⟨W1,ob,oo,oc,bv,pb,tb,r,T0,hfr,hj⟩:=hJ
    obtain⟨u0,u1,u2,u3,u4,u9,u10,u11,u12,u13,u14,u15,u16,u17,u18,u19,u20,u21,u22,u23,u24,u25,u26,u27,u28,u29,u30,u31,u32,u33,u34,u35,u36,u37,u38,u39,u40,u41,u42,u43,u44,u45,u46,u47,u48,u49,u50,u51,u52,u53,u54,u55,rfl⟩:=hfr
    have HJ:=zH hj
    have HOC:=zH (show to.length<=oc by
     rcases HJ.out.order with⟨⟨_,_,e,_⟩,e2⟩ | ⟨_,_,_,e,_,h,_⟩
     ·have:(ap (GG.bT to)).length=0:=by rw[e2];rfl
      rw[aY,HOL.out] at this;omega
     ·rw[aY,HOL.out] at h e
      cases e;exact h)
    have hcp:∀j,j<((List.range to.length).map T0).length->w.cell? ⟨tb,0+j,none⟩=some (.int .i64 (((List.range to.length).map T0).getD j 0)):=fun j hjl=>by
     have hjn:j<to.length:=by simpa using hjl
     rw[hj.tree.rd j hjn,List.getD_eq_getElem?_getD,List.getElem?_map,List.getElem?_range hjn];rfl
    have HC:=zH (Tryz.slices_Clone_int tb 0 to.length to.length ((List.range to.length).map T0) w (by simp) (by omega) hcp)
    clear hj hcp
    go_wp2_with (go_at_call 147
                 refine HC.out.mono ?_
                 rintro e w2 ⟨cv,rfl,hown,_,hB2⟩
                 rw[List.take_of_length_le (by simp)] at hown
                 obtain⟨cb,cc,rfl,hcb,hcl,hrd⟩:=own_rd hown rfl (by omega)
                 have HRD:=zH hrd
                 have HB2:=zH hB2
                 clear hown hrd hB2)
    all_goals try subst h
    all_goals
     obtain⟨bb,bo,bc,hbv⟩:=HJ.out.back.addr (by rw[GG.cg];omega)
     rw[GG.cg] at hbv
     subst hbv
     go_loopw [36] (fun k wr=>∃(q:Nat) (T:Nat->Int),q<=to.length-1/\k=.int .i64 (q:Int)/\cj wr tb to.length T/\Below W1.heap.size W1 wr/\Rd wr cb 0 to.length T0/\RowKit.Hid (DD.St to.length (GG.am to) (DD.plOf to) r (q+1) T/\DD.Fx to.length (GG.am to) (DD.plOf to) T0 (q+1) T)) (fun k _=>to.length-1-(intOf k).toNat)
     case atStart =>
      have htl:=HJ.out.at_
      have hts:=World.rowIs.lt HJ.out.tree
      exact⟨0,T0,Nat.zero_le _,rfl,HJ.out.tree.below HB2.out hts,HJ.out.below.trans (HB2.out.mono (by omega)),HRD.out,zH ⟨HJ.out.st,DD.fx_first HG.out⟩⟩
     case round =>
      obtain⟨q,T,hq,rfl,hI,hB,hR0,HS⟩:=hrel
      have HI:=zH hI
      have HB:=zH hB
      have HR0:=zH hR0
      clear hI hB hR0
      have htb:cb≠tb:=by have:=World.rowIs.lt HJ.out.tree;omega
      by_cases hlt:q<to.length-1
      ·first
       | (exfalso;have:=HOC.out;omega)
       | (obtain⟨i,hin,hoi,hpi⟩:=DD.at_pl HR.out HA.out (show q+1<to.length by omega)
          have hc:wr.cell? ⟨ob,oo+1+q,none⟩=some (.int .i64 (i:Int)):=by
           obtain⟨b',o',e1,e2⟩:=(HJ.out.order.below HB.out).cellAt (show q+1<(GG.bT to).length by rw[HOL.out];omega)
           cases e1
           rw[hoi,show oo+(q+1)=oo+1+q by omega] at e2
           exact e2
          have hi0:i≠0:=fun e=>by rw[e,HG.out.first] at hpi;omega
          obtain⟨ra,rc,hrc,hrr⟩:=(HJ.out.back.below HB.out).at (show i<(GG.bR to).length by rw[GG.cg];exact hin)
          rw[GG.gU hin] at hrc hrr
          have hll:=kz to i to.length
          have HPR:=zH (show DD.preds to i=gB (GG.cD to i to.length) from rfl)
          have HLB:=zH (fun x (hx:x∈GG.cD to i to.length)=>(show 0<=x/\x<(to.length:Int) by obtain⟨k,rfl,hk,_⟩:=GG.eo.1 hx;omega))
          have HMP:=zH (DD.mem_preds HR.out hin)
          rw[HPR.out] at HMP
          obtain⟨l,el⟩:∃l,l=GG.cD to i to.length:=⟨_,rfl⟩
          rw[<-el] at hrc hrr hll HLB HMP
          have HRR2:=zH (hrr.mono (show W1.heap.size<=wr.heap.size by have:=HB.out.size;omega))
          have hct:=World.rowIs.cell HI.out hin
          have hft:=World.rowIs.frozen HI.out i
          have i1:(0:Int)<=q/\(q:Int)<(to.length-1:Nat):=by omega
          have i2:(0:Int)<=i/\(i:Int)<to.length:=by omega
          have HSTEP:=zH (fun c hm=>(And.intro (HS.out.1.step (near:=c) HG.out hin hi0 hpi HMP.out hm) (HS.out.2.step (near:=c) HS.out.1 (fun k hk=>HJ.out.st.inv.out k hk) HG.out hin hi0 hpi HMP.out hm)))
          clear el hrr HPR hoi hpi
          go_wp2_with (go_at_call 148
                       refine(sq tb 0 to.length pb 0 to.length ra rc l _ HI.out.rd (HJ.out.place.below HB.out HJ.out.placeAt) HRR2.out HS.out.1.inv HG.out hlen.2 (by omega) HLB.out).mono ?_
                       rintro e w5 ⟨⟨c,rfl,hm⟩,d,rfl⟩
                       have HN:=zH (HSTEP.out c hm)
                       clear hm)
          go_roundw
          case rel=>exact⟨q+1,DD.setI T i c,by omega,by go_num,cj.set (W:=wr.drewN d) HI.out i c,(gI HB.out d).setCell (p:=⟨tb,i,none⟩) (by have:=HJ.out.at_;simp;omega) _,Rd.setCell (W:=wr.drewN d) HR0.out htb _,HN⟩
          case measure=>simp [intOf];omega)
      ·have HE:=zH (Tryz.slices_Equal_int tb 0 to.length to.length cb 0 to.length cc ((List.range to.length).map T) ((List.range to.length).map T0) wr (by simp) (by simp) (by omega) (by omega) (fun j hj=>by
        have hjn:j<to.length:=by simpa using hj
        rw[HI.out.rd j hjn,List.getD_eq_getElem?_getD,List.getElem?_map,List.getElem?_range hjn];rfl) (fun j hj=>by
        have hjn:j<to.length:=by simpa using hj
        rw[HR0.out j hjn,List.getD_eq_getElem?_getD,List.getElem?_map,List.getElem?_range hjn];rfl))
       rw[List.take_of_length_le (by simp),List.take_of_length_le (by simp)] at HE
       cases hb:((List.range to.length).map T == (List.range to.length).map T0)
       ·have HNX:=zH (HS.out.1.next HG.out (show to.length<=q+1 by omega))
        have HRL:=zH (sD HG.out HRR.out HJ.out.st HNX.out (fun e=>by rw[e,beq_self_eq_true] at hb;cases hb))
        have hgh:=HJ.out.ghost
        have hrl:=HRL.out
        rw[hb] at HE
        clear hb
        go_wp2_with (go_at_call 149;refine HE.out.mono ?_;rintro e w5 ⟨rfl,d,rfl⟩)
        go_step3
        exact⟨rfl,gh-1,by omega,W1,ob,oo,_,_,pb,tb,r+1,T,⟨_,_,_,_,_,_,_,_,_,_,_,_,_,_,_,_,_,_,_,_,_,_,_,_,_,_,_,_,_,_,_,_,_,_,_,_,_,_,_,_,_,_,_,_,_,_,_,_,_,_,_,_,rfl⟩,⟨HJ.out.at_,HJ.out.order,HJ.out.back,HJ.out.place,HJ.out.placeAt,HJ.out.base,HI.out,gI HB.out d,HNX.out,by omega⟩⟩
       ·have hTT:T=T0:=fun_eq (map_eq (by simpa using hb)) (fun k hk=>HS.out.1.inv.out k hk) (fun k hk=>HJ.out.st.inv.out k hk)
        have HFIN:=zH (HS.out.1.fin_fix HG.out (show to.length<=q+1 by omega) (by have h:=HS.out.2;rw[<-hTT] at h;exact h))
        have HFN:=zH (HFL.out T HFIN.out)
        rw[hb] at HE
        clear hb hTT
        go_wp2_with (go_at_call 149;refine HE.out.mono ?_;rintro e w5 ⟨rfl,d,rfl⟩)
        simp only[Exit.jump]
        go_ret
        exact⟨⟨_,rfl,by rw[<-HFN.out];exact(cj.row (W:=wr.drewN d) HI.out),(HJ.out.base.trans ((gI HB.out d).mono HJ.out.base.size))⟩,fun _ _=>⟨_,HFIN.out⟩⟩
end
end Go.Proofs.YtjngffgkllakaaaGreatDoor
namespace Go.Proofs.YtjngffgkllakaaaGreatDoor.DD
open GG
def fnOf(xs:List Int)(k:Nat):Int:=xs[k]?.getD (-1)
theorem pA{xs:List Int}{k:Nat}(h:k<xs.length):fnOf xs k=xs[k]?.getD 0:=by unfold fnOf;rw[List.getElem?_eq_getElem h];rfl
theorem qG{xs:List Int}{k:Nat}(h:xs.length<=k):fnOf xs k = -1:=by unfold fnOf;rw[List.getElem?_eq_none h];rfl
theorem sE{n:Nat}{T:Nat->Int}(h:∀k,n<=k->T k = -1):fnOf ((List.range n).map T)=T:=by
 funext k
 unfold fnOf
 by_cases e:k<n
 ·rw[List.getElem?_map,List.getElem?_range e];rfl
 ·rw[List.getElem?_eq_none (by simp;omega),h k (by omega)];rfl
def iD(xs:List Int):Prop:=(1<=xs.length/\xs.length<=256)/\fnOf xs 0 = -1/\∀i,i<xs.length->Up (fnOf xs) i 0
open Classical in
noncomputable def treeB (xs:List Int):Bool:=decide (iD xs)
theorem gO{xs:List Int}:treeB xs=true↔iD xs:=by unfold treeB;simp
theorem jU{xs:List Int}(h:¬iD xs):treeB xs=false:=by
 cases e:treeB xs
 ·rfl
 ·exact absurd (gO.1 e) h
theorem sF{xs:List Int}(h0:0<xs.length){k:Nat}(h:Up (fnOf xs) k 0):k<xs.length:=by
 rcases h.head with e | ⟨j,hj,_⟩
 ·omega
 ·rcases Nat.lt_or_ge k xs.length with h' | h'
  ·exact h'
  ·rw[qG h'] at hj;omega
theorem iD.next{xs:List Int}(h:iD xs){k:Nat}(hk:k<xs.length)(h0:k≠0):∃j:Nat,fnOf xs k=(j:Int)/\j<xs.length:=by
 rcases (h.2.2 k hk).head with e | ⟨j,hj,hu⟩
 ·exact absurd e.symm h0
 ·exact⟨j,hj,sF (by have:=h.1;omega) hu⟩
inductive ChR (T:Nat->Int) (n:Nat):Int->List Nat->Prop
 | nil:ChR T n (-1) []
 | cons {k:Nat} {l:List Nat} (hk:k<n) (h:ChR T n (T k) l):ChR T n (k:Int) (k :: l)
theorem ChR.det{T:Nat->Int}{n:Nat}{c:Int}{l:List Nat}(h:ChR T n c l):∀ {l':List Nat},ChR T n c l'->l=l':=by
 induction h with
 | nil =>
   intro l' h'
   generalize hc:(-1:Int)=c at h'
   cases h' with
   | nil=>rfl
   | cons=>omega
 | @cons k l hk h ih =>
   intro l' h'
   generalize hc:(k:Int)=c at h'
   cases h' with
   | nil=>omega
   | @cons k' l2 hk' h2 =>
     have:k=k':=by omega
     subst this
     rw[ih h2]
theorem ChR.tail{T:Nat->Int}{n:Nat}{c:Int}{l:List Nat}(h:ChR T n c l){x:Nat}(hx:x∈l):∃l',ChR T n (x:Int) l'/\l'.length<=l.length:=by
 induction h with
 | nil=>cases hx
 | @cons k l hk h ih =>
   rcases List.mem_cons.1 hx with e | hx
   ·subst e;exact⟨_,.cons hk h,Nat.le_refl _⟩
   ·obtain⟨l',h1,h2⟩:=ih hx
    exact⟨l',h1,by simp;omega⟩
theorem ChR.nodup{T:Nat->Int}{n:Nat}{c:Int}{l:List Nat}(h:ChR T n c l):l.Nodup:=by
 induction h with
 | nil=>exact List.nodup_nil
 | @cons k l hk h ih =>
   rw[List.nodup_cons]
   refine⟨fun hm=>?_,ih⟩
   obtain⟨l',h1,h2⟩:=h.tail hm
   have:=h1.det (.cons hk h)
   subst this
   simp at h2
   omega
theorem ChR.lt{T:Nat->Int}{n:Nat}{c:Int}{l:List Nat}(h:ChR T n c l):∀x∈l,x<n:=by
 induction h with
 | nil=>intro x hx;cases hx
 | cons hk h ih =>
   intro x hx
   rcases List.mem_cons.1 hx with rfl | hx
   ·exact hk
   ·exact ih x hx
theorem ChR.len{T:Nat->Int}{n:Nat}{c:Int}{l:List Nat}(h:ChR T n c l):l.length<=n:=pigeon n l h.lt h.nodup
theorem ChR.mem_up{T:Nat->Int}{n:Nat}{c:Int}{l:List Nat}(h:ChR T n c l):∀ {k:Nat},c=(k:Int)->∀x,x∈l↔Up T k x:=by
 induction h with
 | nil=>intro k e;omega
 | @cons k l hk h ih =>
   intro k' e x
   have:k=k':=by omega
   subst this
   rw[List.mem_cons]
   constructor
   ·rintro (rfl | hx)
    ·exact .refl _
    ·generalize hc:T k=c at h
     cases h with
     | nil=>cases hx
     | @cons j l2 hj h2=>exact .step hc ((ih (by rw[hc]) x).1 hx)
   ·intro hu
    rcases hu.head with e | ⟨j,hj,hu'⟩
    ·exact .inl e
    ·exact .inr ((ih hj x).2 hu')
theorem ChR.of_up{T:Nat->Int}{n:Nat}(h0:T 0 = -1)(hn:0<n)(hout:∀k,n<=k->T k = -1){k:Nat}(h:Up T k 0):∃l,ChR T n (k:Int) l:=by
 have:∀ {k z:Nat},Up T k z->z=0->∃l,ChR T n (k:Int) l:=by
  intro k z h
  induction h with
  | refl k =>
    intro e;subst e
    exact⟨[0],.cons hn (by rw[h0];exact .nil)⟩
  | @step k j a h _ ih =>
    intro e
    obtain⟨l,hl⟩:=ih e
    refine⟨k :: l,.cons ?_ (by rw[h];exact hl)⟩
    rcases Nat.lt_or_ge k n with h' | h'
    ·exact h'
    ·rw[hout k h'] at h;omega
 exact this h rfl
theorem iD.chain{xs:List Int}(h:iD xs){a:Nat}(ha:a<xs.length):∃l,ChR (fnOf xs) xs.length (a:Int) l :=
 ChR.of_up h.2.1 (by have:=h.1;omega) (fun k hk=>qG hk) (h.2.2 a ha)
open Classical in
noncomputable def chainN (xs:List Int) (a:Int):List Nat:=if h:(treeB xs=true/\inB xs.length a=true)/\∃l,ChR (fnOf xs) xs.length a l then Classical.choose h.2 else []
theorem js{xs:List Int}(h:treeB xs=true){a:Nat}(ha:a<xs.length):ChR (fnOf xs) xs.length (a:Int) (chainN xs a):=by
 unfold chainN
 have hin:inB xs.length (a:Int)=true:=decide_eq_true (by omega)
 rw[dif_pos ⟨⟨h,hin⟩,(gO.1 h).chain ha⟩]
 exact Classical.choose_spec (p:=fun l=>ChR (fnOf xs) xs.length (a:Int) l) _
theorem nI{xs:List Int}{a:Int}(h:¬(treeB xs=true/\inB xs.length a=true)):chainN xs a=[]:=by
 unfold chainN;rw[dif_neg (fun hh=>h hh.1)]
theorem mc(xs:List Int)(a:Int):(chainN xs a).length<=256:=by
 by_cases h:treeB xs=true/\inB xs.length a=true
 ·have h2:=of_decide_eq_true h.2
  obtain⟨k,rfl⟩:∃k:Nat,a=(k:Int):=⟨a.toNat,by omega⟩
  have:=(js h.1 (show k<xs.length by omega)).len
  have:=(gO.1 h.1).1
  omega
 ·rw[nI h];simp
noncomputable def chainL (xs:List Int) (a:Int):List Int:=(chainN xs a).map Int.ofNat
noncomputable def domB (xs:List Int) (a b:Int):Bool:=decide (a∈chainL xs b)
theorem sG{xs:List Int}(h:treeB xs=true){b:Nat}(hb:b<xs.length)(a:Int):a∈chainL xs b↔∃k:Nat,a=(k:Int)/\Up (fnOf xs) b k:=by
 have hc:=js h hb
 unfold chainL
 rw[List.mem_map]
 constructor
 ·rintro ⟨k,hk,rfl⟩;exact⟨k,rfl,(hc.mem_up rfl k).1 hk⟩
 ·rintro ⟨k,rfl,hk⟩;exact⟨k,(hc.mem_up rfl k).2 hk,rfl⟩
theorem domB_iff{xs:List Int}(h:treeB xs=true){a b:Nat}(hb:b<xs.length):domB xs a b=true↔Up (fnOf xs) b a:=by
 unfold domB
 rw[decide_eq_true_iff,sG h hb]
 constructor
 ·rintro ⟨k,e,hk⟩
  have:k=a:=by omega
  subst this;exact hk
 ·intro hk;exact⟨a,rfl,hk⟩
structure MK (xs:List Int) (i:Nat) (f:Nat->Int):Prop where
 val:∀x,f x=0∨(1<=f x/\f x<i/\x<xs.length)
 zero:f 0=0
 good:∀x,f x≠0->Up (fnOf xs) x 0
 all:∀x,1<=x->x<i->f x≠0
structure MI (xs:List Int) (i j:Nat) (f:Nat->Int):Prop where
 val:∀x,f x=0∨(1<=f x/\f x<=i/\x<xs.length)
 zero:f 0=0
 good:∀x,f x≠0->f x≠i->Up (fnOf xs) x 0
 own:∀x,f x=i->Up (fnOf xs) x j/\∃y:Nat,fnOf xs x=(y:Int)/\(y=j∨f y=i)
 start:i=j∨f i=i
 all:∀x,1<=x->x<i->f x≠0
theorem mk_first(xs:List Int):MK xs 1 (fun _=>0):=⟨fun _=>.inl rfl,rfl,fun x h=>absurd rfl h,fun x h1 h2=>by omega⟩
theorem MK.begin{xs:List Int}{i:Nat}{f:Nat->Int}(h:MK xs i f)(hi:1<=i):MI xs i i f :=
 ⟨fun x=>(h.val x).imp id (fun⟨a,b,c⟩=>⟨a,by omega,c⟩),h.zero,fun x h1 _=>h.good x h1,fun x hx=>by have:=h.val x;omega,.inl rfl,h.all⟩
theorem MI.step{xs:List Int}{i j j':Nat}{f:Nat->Int}(h:MI xs i j f)(hi:1<=i)(hj0:j≠0)(hj:f j=0)(hjn:j<xs.length)(he:fnOf xs j=(j':Int)):MI xs i j' (setI f j i):=by
 refine⟨fun x=>?_,?_,fun x h1 h2=>?_,fun x hx=>?_,?_,fun x h1 h2=>?_⟩
 ·unfold setI
  split
  ·rename_i e;subst e;exact .inr ⟨by omega,by omega,hjn⟩
  ·exact h.val x
 ·unfold setI;rw[if_neg (fun e=>hj0 e.symm)];exact h.zero
 ·unfold setI at h1 h2
  split at h1
  ·rename_i e;rw[if_pos e] at h2;exact absurd rfl h2
  ·rename_i e;rw[if_neg e] at h2;exact h.good x h1 h2
 ·unfold setI at hx
  split at hx
  ·rename_i e;subst e
   exact⟨.one he,j',he,.inl rfl⟩
  ·obtain⟨hu,y,hy,hyy⟩:=h.own x hx
   refine⟨hu.trans (.one he),y,hy,.inr ?_⟩
   unfold setI
   rcases hyy with e | e
   ·rw[if_pos e]
   ·split
    ·rfl
    ·exact e
 ·right
  unfold setI
  rcases h.start with e | e
  ·rw[if_pos e]
  ·split
   ·rfl
   ·exact e
 ·unfold setI
  split
  ·omega
  ·exact h.all x h1 h2
theorem MI.next{xs:List Int}{i j:Nat}{f:Nat->Int}(h:MI xs i j f)(hi:1<=i)(hj:j=0∨f j≠0)(hn:f j≠i):MK xs (i+1) f:=by
 have hj0:Up (fnOf xs) j 0:=by
  rcases hj with e | e
  ·rw[e];exact .refl _
  ·exact h.good j e hn
 refine⟨fun x=>(h.val x).imp id (fun⟨a,b,c⟩=>⟨a,by omega,c⟩),h.zero,fun x hx=>?_,fun x h1 h2=>?_⟩
 ·by_cases e:f x=i
  ·exact(h.own x e).1.trans hj0
  ·exact h.good x hx e
 ·by_cases e:x=i
  ·subst e
   rcases h.start with e | e
   ·rcases hj with e2 | e2
    ·omega
    ·rw[e];exact e2
   ·omega
  ·exact h.all x h1 (by omega)
theorem MI.ring{xs:List Int}{i j:Nat}{f:Nat->Int}(h:MI xs i j f)(hi:1<=i)(hj:f j=i):¬iD xs:=by
 intro ht
 have hjn:j<xs.length:=by have:=h.val j;omega
 have:∀ {k z:Nat},Up (fnOf xs) k z->f k=i->f z=i:=by
  intro k z hu
  induction hu with
  | refl=>exact id
  | @step k y a hy _ ih =>
    intro hk
    obtain⟨_,y',hy',hyy⟩:=h.own k hk
    have:y=y':=by rw[hy] at hy';omega
    subst this
    refine ih ?_
    rcases hyy with e | e
    ·rw[e];exact hj
    ·exact e
 have:=this (ht.2.2 j hjn) hj
 have:=h.zero
 omega
theorem MK.tree{xs:List Int}{f:Nat->Int}{i:Nat}(h:MK xs i f)(hi:xs.length<=i)(hl:1<=xs.length/\xs.length<=256)(h0:fnOf xs 0 = -1):iD xs :=
 ⟨hl,h0,fun k hk=>by
  by_cases e:k=0
  ·subst e;exact .refl _
  ·exact h.good k (h.all k (by omega) (by omega))⟩
theorem iD.node{xs:List Int}(h:iD xs){j:Nat}(hj:j<xs.length)(h0:j≠0):inB xs.length (fnOf xs j)=true:=by
 obtain⟨y,hy,hyn⟩:=h.next hj h0
 rw[hy];exact decide_eq_true (by omega)
def nJ(n:Nat)(f:Nat->Int):Nat:=unv n (fun x=>decide (f x≠0))
theorem freeN_set{n:Nat}{f:Nat->Int}{j:Nat}{c:Int}(hj:j<n)(h:f j=0)(hc:c≠0):nJ n (setI f j c)<nJ n f:=by
 unfold nJ
 have:=eY n (B:=fun x=>decide (f x≠0)) hj (by simp [h])
 have e:(fun x=>decide (setI f j c x≠0))=setB (fun x=>decide (f x≠0)) j:=by
  funext x
  unfold setI setB
  by_cases e:x=j
  ·rw[if_pos e,if_pos e];exact decide_eq_true hc
  ·rw[if_neg e,if_neg e]
 rw[e];exact this
end Go.Proofs.YtjngffgkllakaaaGreatDoor.DD
namespace Go.Proofs.YtjngffgkllakaaaGreatDoor
open List renaming getElem_toArray → zA, getElem_cons_succ → zB, getElem_cons_zero → zC, setIfInBounds_toArray → zD, set_cons_zero → zE, set_cons_succ → zF
open Lib renaming hid → zH
section
open Go.RowKit
theorem jb(v:Value)(n:Nat)(i:Int)(w:World)(hv:∃a cap,v=.slice a n cap)(hn:n<=17592186044416) :
 Calls Tryz.prog 187 #[v,.int .i64 i] w fun e w'=>e=.returned (.bool (GG.inB n i))/\w=w':=by
 obtain⟨a,cap,rfl⟩:=hv
 by_cases h:0<=i/\i<n
 ·have HS:=zH (show GG.inB n i=true from decide_eq_true h)
  obtain⟨h1,h2⟩:=h
  go_enter Tryz.func187,Tryz.ntmps187
  go_wp2_with fail
  go_ret
  exact⟨af HS.out.symm,rfl⟩
 ·have HS:=zH (show GG.inB n i=false from decide_eq_false h)
  by_cases h1:0<=i
  ·have h2:¬i<n:=fun h2=>h ⟨h1,h2⟩
   clear h
   go_enter Tryz.func187,Tryz.ntmps187
   go_wp2_with fail
   go_ret
   exact⟨af HS.out.symm,rfl⟩
  ·clear h
   go_enter Tryz.func187,Tryz.ntmps187
   go_wp2_with fail
   go_ret
   exact⟨af HS.out.symm,rfl⟩
def zeros:Array Value:=Array.replicate 256 (.int .i64 0)
theorem info63:(Tryz.prog.info? 298).map (fun i=>(i.zero,i.size))=some (some (.agg zeros),256):=by kernel_rfl
theorem sH(w:World):(zeroValue 298).run Tryz.prog w=.ok (.agg zeros) w:=by
 have h:=info63
 cases hi:Tryz.prog.info? 298 with
 | none=>rw[hi] at h;cases h
 | some i =>
   rw[hi] at h
   simp only[Option.map_some,Option.some.injEq,Prod.mk.injEq] at h
   simp [zeroValue,typeInfo,hi,h.1]
def gP(W:World)(g:Nat)(f:Nat->Int):Prop:=W.rowIs g 298 256 (fun i=>.int .i64 (f i))
theorem gP.set{W:World}{g:Nat}{f:Nat->Int}(h:gP W g f)(i:Nat)(c:Int):gP (W.setCell ⟨g,i,none⟩ (.int .i64 c)) g (DD.setI f i c):=by
 refine World.rowIs.congr (World.rowIs.set h i (.int .i64 c)) (fun j _=>?_)
 unfold DD.setI
 by_cases e:j=i <;> simp [e]
theorem marks_new(W:World):gP (W.alloc (.cells zeros 298)) W.heap.size (fun _=>0):=by
 have h:=World.rowIs_alloc W zeros 298 (fun _=>.int .i64 0) (fun i hi=>by unfold zeros at hi ⊢;rw[Array.size_replicate] at hi;simp [hi])
 have e:zeros.size=256:=by simp [zeros]
 rw[e] at h
 exact h
set_option maxRecDepth 100000 in
set_option maxHeartbeats 3200000 in
theorem jt(v:Value) (xs:List Int) (w:World) (hv:Row w.heap.size w v xs) (hx:xs.length<=17592186044416) :
 Calls Tryz.prog 186 #[v] w fun e w'=>e=.returned (.bool (DD.treeB xs))/\Below w.heap.size w w':=by
 have HV:=zH hv
 obtain⟨va,vc,rfl⟩:=hv.form
 clear hv
 by_cases hl:1<=xs.length/\xs.length<=256
 ·obtain⟨hl1,hl2⟩:=hl
  obtain⟨vb,vo,rfl,hc0⟩:=HV.out.cellAt (show 0<xs.length by omega)
  rw[<-DD.pA (show 0<xs.length by omega),Nat.add_zero] at hc0
  have hz:=fun(w:World)=>sH w
  by_cases h0:DD.fnOf xs 0 = -1
  ·have H0:=zH h0
   have hn0:(DD.fnOf xs 0 != -1)=false:=by rw[h0];rfl
   have i1:(0:Int)<xs.length:=by omega
   have HM0:=zH (marks_new w)
   have HB0:=zH ((Below.refl w.heap.size w).alloc (Nat.le_refl _) (.cells zeros 298))
   clear h0
   go_enter Tryz.func186,Tryz.ntmps186
   go_wp2_with fail
   clear hz
   go_loopw [4] (fun k wr=>∃(i:Nat) (f:Nat->Int),1<=i/\i<=xs.length/\k=.int .i64 (i:Int)/\gP wr w.heap.size f/\Below w.heap.size w wr/\RowKit.Hid (DD.MK xs i f)) (fun k _=>xs.length-(intOf k).toNat)
   case atStart=>exact⟨1,fun _=>0,Nat.le_refl _,hl1,rfl,HM0.out,HB0.out,zH (DD.mk_first xs)⟩
   case round =>
    obtain⟨i,f,hi1,hi,rfl,hM,hB,HK⟩:=hrel
    clear HM0 HB0
    by_cases hlt:i<xs.length
    ·have HM:=zH hM
     have HB:=zH hB
     have HIB:=zH (HK.out.begin hi1)
     clear hM hB
     go_wp2_with fail
     go_loopg [5] (DD.nJ xs.length f) (fun gn k wr=>∃(j:Nat) (f:Nat->Int),j<xs.length/\k=.int .i64 (j:Int)/\gP wr w.heap.size f/\Below w.heap.size w wr/\RowKit.Hid (DD.MI xs i j f/\gn=DD.nJ xs.length f))
     case atStart=>exact⟨i,f,hlt,rfl,HM.out,HB.out,zH ⟨HIB.out,rfl⟩⟩
     case round =>
      obtain⟨j,f,hj,rfl,hM2,hB2,HH⟩:=hrel
      clear HM HB HIB HK
      have HM2:=zH hM2
      have HB2:=zH hB2
      clear hM2 hB2
      have hcj:=World.rowIs.cell HM2.out (show j<256 by omega)
      have i2:(0:Int)<=j/\(j:Int)<256:=by omega
      have i3:(0:Int)<=j/\(j:Int)<xs.length:=by omega
      by_cases hgo:j≠0/\f j=0
      ·have hfj:=World.rowIs.frozen HM2.out j
       obtain⟨vb2,vo2,e2,hct⟩:=(HV.out.below HB2.out).cellAt hj
       cases e2
       rw[<-DD.pA hj] at hct
       have h1:((j:Int) != 0)=true:=by rw[bne_iff_ne];have:=hgo.1;omega
       have h2:(f j == 0)=true:=by rw[hgo.2];rfl
       have HM3:=zH (HM2.out.set j (i:Int))
       have HB3:=zH (HB2.out.setCell (p:=⟨w.heap.size,j,none⟩) (Nat.le_refl _) (.int .i64 i))
       have HFR:=zH (DD.freeN_set (c:=(i:Int)) hj hgo.2 (by omega))
       have HST:=zH (fun(j':Nat) (e:DD.fnOf xs j=(j':Int))=>HH.out.1.step hi1 hgo.1 hgo.2 hj e)
       have hct3:(wr.setCell ⟨w.heap.size,j,none⟩ (.int .i64 i)).cell? ⟨vb,vo+j,none⟩=some (.int .i64 (DD.fnOf xs j)):=by
        rw[World.cell?_setCell_other _ _ _ _ (fun e=>by
         have hb:=HV.out
         rcases hb with⟨_,e2⟩ | ⟨b3,o3,c3,e3,hb3,_⟩
         ·have:(ap xs).length=0:=by rw[e2];rfl
          rw[aY] at this;omega
         ·simp at e3 e;omega)]
        exact hct
       have HGN:=zH HH.out.2
       cases hin:GG.inB xs.length (DD.fnOf xs j)
       ·have HIN:=zH hin
        have HS:=zH (show DD.treeB xs=false from DD.jU (fun ht=>by rw[ht.node hj hgo.1] at hin;cases hin))
        clear hin hgo hct HH
        go_wp2_with (go_at_call 187;refine(jb _ xs.length _ _ ⟨_,_,rfl⟩ hx).mono ?_;rintro e w5 ⟨rfl,rfl⟩;rw[HIN.out])
        go_ret
        exact⟨af HS.out.symm,HB3.out⟩
       ·have HIN:=zH hin
        have hin2:=of_decide_eq_true hin
        obtain⟨y,hy⟩:∃y:Nat,DD.fnOf xs j=(y:Int):=⟨(DD.fnOf xs j).toNat,by omega⟩
        have HN:=zH (HST.out y hy)
        rw[hy] at HIN hct3
        have hyn:y<xs.length:=by omega
        clear hin hgo hct HH hin2 hy HST
        go_wp2_with (go_at_call 187;refine(jb _ xs.length _ _ ⟨_,_,rfl⟩ hx).mono ?_;rintro e w5 ⟨rfl,rfl⟩;rw[HIN.out])
        go_roundg (DD.nJ xs.length (DD.setI f j (i:Int)))
        case measure=>have:=HGN.out;have:=HFR.out;omega
        case rel=>exact⟨y,_,hyn,rfl,HM3.out,HB3.out,zH ⟨HN.out,rfl⟩⟩
      ·have hex:j=0∨f j≠0:=by
        by_cases e:j=0
        ·exact .inl e
        ·exact .inr (fun e2=>hgo ⟨e,e2⟩)
       by_cases hri:f j=(i:Int)
       ·have HS:=zH (show DD.treeB xs=false from DD.jU (HH.out.1.ring hi1 hri))
        have hj0:((j:Int) != 0)=true:=by
         rw[bne_iff_ne];intro e
         have:=HH.out.1.zero
         rw[show j=0 by omega] at hri;omega
        have h2:(f j == 0)=false:=by rw[hri];exact beq_eq_false_iff_ne.2 (by omega)
        have h3:(f j == (i:Int))=true:=by rw[hri];exact beq_self_eq_true _
        clear hgo hex hri HH
        go_wp2_with fail
        go_ret
        exact⟨af HS.out.symm,HB2.out⟩
       ·have HN:=zH (HH.out.1.next hi1 hex hri)
        have h3:(f j == (i:Int))=false:=beq_eq_false_iff_ne.2 hri
        by_cases e0:j=0
        ·subst e0
         have h1:(((0:Nat):Int) != 0)=false:=rfl
         clear hgo hex hri HH
         go_wp2_with fail
         go_roundw
         case rel=>exact⟨i+1,f,by omega,by omega,by go_num,HM2.out,HB2.out,HN⟩
         case measure=>simp [intOf];omega
        ·have h1:((j:Int) != 0)=true:=by rw[bne_iff_ne];omega
         have h2:(f j == 0)=false:=beq_eq_false_iff_ne.2 (fun e=>hgo ⟨e0,e⟩)
         clear hgo hex hri HH
         go_wp2_with fail
         go_roundw
         case rel=>exact⟨i+1,f,by omega,by omega,by go_num,HM2.out,HB2.out,HN⟩
         case measure=>simp [intOf];omega
    ·have HS:=zH (show DD.treeB xs=true from DD.gO.2 (HK.out.tree (by omega) ⟨hl1,hl2⟩ H0.out))
     have HB:=zH hB
     clear hB hM
     go_wp2_with fail
     go_ret
     exact⟨af HS.out.symm,HB.out⟩
  ·have HS:=zH (show DD.treeB xs=false from DD.jU (fun ht=>h0 ht.2.1))
   have hn0:(DD.fnOf xs 0 != -1)=true:=bne_iff_ne.2 h0
   have i1:(0:Int)<xs.length:=by omega
   clear h0
   go_enter Tryz.func186,Tryz.ntmps186
   go_wp2_with fail
   go_ret
   exact⟨af HS.out.symm,Below.refl _ _⟩
 ·have HS:=zH (show DD.treeB xs=false from DD.jU (fun ht=>hl ht.1))
  by_cases h1:1<=xs.length
  ·have h2:¬xs.length<=256:=fun h2=>hl ⟨h1,h2⟩
   clear hl
   go_enter Tryz.func186,Tryz.ntmps186
   go_wp2_with fail
   go_ret
   exact⟨af HS.out.symm,Below.refl _ _⟩
  ·clear hl
   go_enter Tryz.func186,Tryz.ntmps186
   go_wp2_with fail
   go_ret
   exact⟨af HS.out.symm,Below.refl _ _⟩
end
section
open Go.RowKit
theorem DD.ChR.inv{T:Nat->Int}{n:Nat}{c:Int}{l:List Nat}(h:DD.ChR T n c l):(c = -1/\l=[])∨∃k l',c=((k:Nat):Int)/\l=k :: l'/\k<n/\DD.ChR T n (T k) l':=by
 cases h with
 | nil=>exact .inl ⟨rfl,rfl⟩
 | cons hk h=>exact .inr ⟨_,_,rfl,rfl,hk,h⟩
theorem DD.ChR.bd{T:Nat->Int}{n:Nat}{c:Int}{l:List Nat}(h:DD.ChR T n c l):-1<=c/\c<n:=by
 cases h with
 | nil=>omega
 | cons hk h=>omega
theorem sI(dn:List Nat)(k:Nat):ap ((dn ++ [k]).map Int.ofNat)=ap (dn.map Int.ofNat) ++ [.int .i64 (k:Int)]:=by simp [ap]
def OwnInts(B:Nat)(l:List Int)(e:Ending)(W W':World):Prop:=∃v,e=.returned v/\W'.ownsRow B 3 1 v l.length (ap l)/\Below B W W'
theorem dchain_no{v:Value}{xs:List Int}(a:Int)(W:World)(hv:Row W.heap.size W v xs)(hx:xs.length<=17592186044416)(h:¬(DD.treeB xs=true/\GG.inB xs.length a=true)) :
 Calls Tryz.prog 143 #[v,.int .i64 a] W fun e W'=>OwnInts W.heap.size (DD.chainL xs a) e W W':=by
 have HV:=zH hv
 have HE:=zH (show DD.chainL xs a=[] by unfold DD.chainL;rw[DD.nI h];rfl)
 obtain⟨va,vc,rfl⟩:=hv.form
 clear hv
 cases ht:DD.treeB xs
 ·have HT:=zH ht
  clear h ht
  go_enter Tryz.func143,Tryz.ntmps143
  go_wp2_with (go_at_call 186;refine(jt _ xs _ HV.out hx).mono ?_;rintro e w' ⟨rfl,hB⟩;have HB:=zH hB;clear hB;rw[HT.out])
  go_ret
  exact⟨_,rfl,by rw[HE.out];exact World.ownsRow_nil _ _ _ _,HB.out⟩
 ·have hi:GG.inB xs.length a=false:=by
   cases e:GG.inB xs.length a
   ·rfl
   ·exact absurd ⟨ht,e⟩ h
  have HT:=zH ht
  have HI:=zH hi
  clear h ht hi
  go_enter Tryz.func143,Tryz.ntmps143
  go_wp2_with (first
   | (go_at_call 186;refine(jt _ xs _ HV.out hx).mono ?_;rintro e w' ⟨rfl,hB⟩;have HB:=zH hB;clear hB;rw[HT.out])
   | (go_at_call 187;refine(jb _ xs.length _ _ ⟨_,_,rfl⟩ hx).mono ?_;rintro e w5 ⟨rfl,rfl⟩;rw[HI.out]))
  go_ret
  exact⟨_,rfl,by rw[HE.out];exact World.ownsRow_nil _ _ _ _,HB.out⟩
set_option maxRecDepth 100000 in
set_option maxHeartbeats 1600000 in
theorem sJ{v:Value}{xs:List Int}(a:Int)(W:World)(hv:Row W.heap.size W v xs)(hx:xs.length<=17592186044416) :
 Calls Tryz.prog 143 #[v,.int .i64 a] W fun e W'=>OwnInts W.heap.size (DD.chainL xs a) e W W':=by
 by_cases h:DD.treeB xs=true/\GG.inB xs.length a=true
 ·obtain⟨ht,hi⟩:=h
  have hin:=of_decide_eq_true hi
  obtain⟨k,rfl⟩:∃k:Nat,a=(k:Int):=⟨a.toNat,by omega⟩
  have HV:=zH hv
  have HT:=zH ht
  have HI:=zH hi
  have hch:=DD.js ht (show k<xs.length by omega)
  have HL:=zH (DD.mc xs k)
  have HE:=zH (show DD.chainL xs k=(DD.chainN xs k).map Int.ofNat from rfl)
  generalize DD.chainN xs (k:Int)=full at hch HL HE
  have HCH:=zH hch
  obtain⟨i0,hi0,hz0,hz1,hz2⟩:=info_parts Tryz.infoGInt
  obtain⟨va,vc,rfl⟩:=hv.form
  clear hv ht hi hin hch
  go_enter Tryz.func143,Tryz.ntmps143
  go_wp2_with (first
   | (go_at_call 186;refine(jt _ xs _ HV.out hx).mono ?_;rintro e w' ⟨rfl,hB⟩;have HB:=zH hB;clear hB;rw[HT.out])
   | (go_at_call 187;refine(jb _ xs.length _ _ ⟨_,_,rfl⟩ hx).mono ?_;rintro e w5 ⟨rfl,rfl⟩;rw[HI.out]))
  go_loopg [1,5] full.length (fun gn k o wr=>∃(dn rest:List Nat) (c:Int),k=.int .i64 c/\wr.ownsRow W.heap.size 3 1 o dn.length (ap (dn.map Int.ofNat))/\Below W.heap.size W wr/\RowKit.Hid (full=dn ++ rest/\DD.ChR (DD.fnOf xs) xs.length c rest/\gn=rest.length))
  case atStart=>exact⟨[],full,k,rfl,World.ownsRow_nil _ _ _ _,HB.out,zH ⟨rfl,HCH.out,rfl⟩⟩
  case round =>
   obtain⟨dn,rest,c,rfl,hO,hB,HH⟩:=hrel
   have HO:=zH hO
   have HB:=zH hB
   clear hO hB HCH
   rcases HH.out.2.1.inv with⟨rfl,hr⟩ | ⟨j,rest',rfl,hr,hj,hch⟩
   ·have HF:=zH (show wr.ownsRow W.heap.size 3 1 u5 (DD.chainL xs k).length (ap (DD.chainL xs k)) by
     rw[HE.out,HH.out.1,hr,List.append_nil,List.length_map]
     exact HO.out)
    clear hr HO
    go_wp2_with fail
    go_ret
    exact⟨_,rfl,HF.out,HB.out⟩
   ·have hlen:dn.length<=256:=by
     have h1:=HL.out
     rw[HH.out.1,List.length_append] at h1;omega
    have HN:=zH (show full=(dn ++ [j]) ++ rest'/\gk=rest'.length+1 by
     have h1:=HH.out
     rw[hr] at h1
     exact⟨by rw[h1.1];simp,by rw[h1.2.2];rfl⟩)
    have HCH:=zH hch
    have hbd:=hch.bd
    have hc1:((j:Int) != -1)=true:=by rw[bne_iff_ne];omega
    have i1:(0:Int)<=j/\(j:Int)<xs.length:=by omega
    obtain⟨x,hx2⟩:∃x,x=DD.fnOf xs j:=⟨_,rfl⟩
    rw[<-hx2] at hbd HCH
    obtain⟨vb,vo,rfl,hcv⟩:=HV.out.cellAt hj
    rw[<-DD.pA hj,<-hx2] at hcv
    have HVB:=zH (show vb<W.heap.size by
     rcases HV.out with⟨_,e2⟩ | ⟨b3,o3,c3,e3,hb3,_⟩
     ·have:(ap xs).length=0:=by rw[e2];rfl
      rw[aY] at this;omega
     ·simp at e3;omega)
    have HCV:=zH hcv
    have HXX:=zH hx2
    clear hr hch HH hcv hx2
    go_wp2_with (first
     | (at_builtin
        refine GG.wpList_append_any rfl _ _ 54 rfl W.heap.size 3 i0 (.int .i64 0) 1 8 Tryz.underlying54 hi0 hz0 hz1 hz2 rfl (by decide) u5 _ _ rfl (HO.out.alloc _) (.slice (some ⟨wr.heap.size,0,none⟩) 1 1) 1 [.int .i64 (j:Int)] rfl rfl (.inr ⟨_,_,rfl,GG.aW _ _ _⟩) (by intro u hu;rw[List.mem_singleton.1 hu];rfl) (by unfold maxLen;omega) (by omega) (by have:=HB.out.size;simp;omega) ?_
        intro v1 w2 ho hg
        have HO2:=zH (show w2.ownsRow W.heap.size 3 1 v1 (dn ++ [j]).length (ap ((dn ++ [j]).map Int.ofNat)) by
         rw[sI,List.length_append];exact ho)
        have HB2:=zH ((HB.out.alloc HB.out.size _).grown hg (by have:=HB.out.size;simp;omega) (fun k e=>(HO.out.lt k e).1))
        have hcv:=(HB2.out.cell (p:=⟨vb,vo+j,none⟩) HVB.out).trans HCV.out
        clear ho hg))
    go_roundg rest'.length
    case measure=>have:=HN.out.2;omega
    case rel=>exact⟨dn ++ [j],rest',x,rfl,HO2.out,HB2.out,zH ⟨HN.out.1,HCH.out,rfl⟩⟩
 ·exact dchain_no a W hv hx h
theorem pB{n₀:Nat}{v:Value}{l:List Int}(x:Int)(W:World)(hv:Row n₀ W v l)(hl:l.length<=9223372036854775807) :
 Calls Tryz.prog 62 #[v,.int .i64 x] W fun e W'=>e=.returned (.bool (decide (x∈l)))/\W'=W:=by
 rw[<-List.contains_eq_mem]
 by_cases h0:0<l.length
 ·obtain⟨b,off,cap,rfl,_,hc⟩:=hv.at h0
  have:=Tryz.slices_Contains_int b off l.length cap l x W (Nat.le_refl _) hl (fun j hj=>by rw[hc j hj,List.getD_eq_getElem?_getD])
  rwa [List.take_of_length_le (Nat.le_refl _)] at this
 ·have:l=[]:=List.length_eq_zero_iff.1 (by omega)
  subst this
  obtain⟨a,cap,rfl⟩:=hv.form
  exact Tryz.slices_Contains_int_empty a cap x W
theorem me(xs:List Int)(a:Int):(DD.chainL xs a).length<=256:=by
 unfold DD.chainL;rw[List.length_map];exact DD.mc xs a
theorem near_hit{l m:List Int}{j:Nat}(hj:j<l.length)(hno:∀i,i<j->decide (l[i]?.getD 0∈m)=false)(h:decide (l[j]?.getD 0∈m)=true):(l.find? fun x=>decide (x∈m))=some (l[j]?.getD 0):=by
 rw[List.getElem?_eq_getElem hj,Option.getD_some] at h ⊢
 rw[List.find?_eq_some_iff_append]
 refine⟨h,l.take j,l.drop (j+1),?_,fun x hx=>?_⟩
 ·conv=>lhs;rw[<-List.take_append_drop j l]
  rw[List.drop_eq_getElem_cons hj]
 ·obtain⟨i,hi,e⟩:=List.mem_take_iff_getElem.1 hx
  have:=hno i (by omega)
  rw[List.getElem?_eq_getElem (by omega),Option.getD_some,e] at this
  rw[this];rfl
theorem near_none{l m:List Int}(hno:∀i,i<l.length->decide (l[i]?.getD 0∈m)=false):(l.find? fun x=>decide (x∈m))=none:=by
 rw[List.find?_eq_none]
 intro x hx
 obtain⟨i,hi,e⟩:=List.getElem_of_mem hx
 have:=hno i hi
 rw[List.getElem?_eq_getElem hi,Option.getD_some,e] at this
 rw[this];simp
end
end Go.Proofs.YtjngffgkllakaaaGreatDoor
