/- A part of a proof: laws that the last text uses. -/
import Derived.Test.YtjngffgkllakaaaGreatDoorY01
import Derived.Test.YtjngffgkllakaaaGreatDoorY02
import Derived.Laws.BitsAllLaws
import Derived.Lib.TrailingZeros
import Derived.RangeFuncBox
import Derived.Shelf.Spec.TrailingZeros
import Derived.RangeFuncNested
import Derived.RangeFuncBound
import Derived.RangeFuncCalls
import Derived.RangeFuncLeaves
import Derived.Shelf.Abstract
import Derived.Shelf.RegionOpen
import Derived.WalkKit
import Derived.OwnWalkIn
import Derived.TacticsInMore
import Derived.LoopNIn
import Derived.LoopIn
import Derived.Deep.Light
import Derived.Sort.QuietIn
import Derived.Laws.IdiomCopy
import Derived.Laws.CopyOwn
import Derived.ChangeKeysEq
set_option linter.unusedSimpArgs false
set_option linter.unusedVariables false
namespace Go.Proofs.YtjngffgkllakaaaGreatDoor.MM
open List renaming getElem_toArray → zA, getElem_cons_succ → zB, getElem_cons_zero → zC, setIfInBounds_toArray → zD, set_cons_zero → zE, set_cons_succ → zF
open Lib renaming hid → zH
section
def bitI(i:Int):Int:=if 0<=i/\i<64 then 2 ^ i.toNat else 0
def hasB(m i:Int):Bool:=decide (0<=i/\i<64) && m.toNat.testBit i.toNat
def eC(m i:Int):Int:=if 0<=i/\i<64 then ((m.toNat ||| 2 ^ i.toNat:Nat):Int) else m
def cN(m i:Int):Int:=if 0<=i/\i<64 then ((m.toNat &&& (18446744073709551615-2 ^ i.toNat):Nat):Int) else m
theorem fq(k:Nat)(h:k<64):0<2 ^ k/\2 ^ k<=9223372036854775808:=by
 refine⟨Nat.two_pow_pos k,?_⟩
 have:2 ^ k<=2 ^ 63:=Nat.pow_le_pow_right (by decide) (by omega)
 exact this
theorem oS(k:Nat):((2:Int) ^ k)=((2 ^ k:Nat):Int):=by simp
theorem fL{i:Int}(h0:0<=i)(h1:i<64):bitI i=((2 ^ i.toNat:Nat):Int):=by
 unfold bitI;rw[if_pos ⟨h0,h1⟩,oS]
theorem eD{i:Int}(h:¬(0<=i/\i<64)):bitI i=0:=by unfold bitI;rw[if_neg h]
theorem nC(i:Int):0<=bitI i/\bitI i<=9223372036854775808:=by
 by_cases h:0<=i/\i<64
 ·rw[fL h.1 h.2]
  have:=fq i.toNat (by omega)
  omega
 ·rw[eD h];omega
theorem wrap_pow{i:Int}(h0:0<=i)(h1:i<64):IntKind.u64.wrap (2 ^ i.toNat)=bitI i:=by
 rw[fL h0 h1,oS,IntKind.wrap_u64]
 have:=fq i.toNat (by omega)
 omega
theorem and_has(m i:Int)(h0:0<=m)(h1:m<=18446744073709551615):(bits .and .u64 m (bitI i) != 0)=hasB m i:=by
 unfold hasB
 have hb:=nC i
 rw[u64_and m (bitI i) h0 (by omega) hb.1 (by omega)]
 by_cases h:0<=i/\i<64
 ·rw[fL h.1 h.2,decide_eq_true h,Bool.true_and,Int.toNat_natCast,nat_bit]
  have hp:=(fq i.toNat (by omega)).1
  rw[Nat.testBit_eq_decide_div_mod_eq]
  by_cases hm:m.toNat / 2 ^ i.toNat % 2=1
  ·rw[hm,decide_eq_true rfl]
   have:((1*2 ^ i.toNat:Nat):Int)≠0:=by omega
   rw[bne_iff_ne];exact this
  ·have hz:m.toNat / 2 ^ i.toNat % 2=0:=by omega
   rw[hz];simp
 ·rw[eD h,decide_eq_false h];simp
theorem or_with(m i:Int)(h0:0<=m)(h1:m<=18446744073709551615):bits .or .u64 m (bitI i)=eC m i:=by
 unfold eC
 have hb:=nC i
 rw[u64_or m (bitI i) h0 (by omega) hb.1 (by omega)]
 by_cases h:0<=i/\i<64
 ·rw[fL h.1 h.2,if_pos h,Int.toNat_natCast]
 ·rw[eD h,if_neg h];simp;omega
theorem kJ(m i:Int)(h0:0<=m)(h1:m<=18446744073709551615):bits .andNot .u64 m (bitI i)=cN m i:=by
 unfold cN
 have hb:=nC i
 rw[u64_andNot m (bitI i) h0 (by omega) hb.1 (by omega)]
 by_cases h:0<=i/\i<64
 ·rw[fL h.1 h.2,if_pos h,Int.toNat_natCast]
 ·rw[eD h,if_neg h]
  have hm:m.toNat<2 ^ 64:=by omega
  have:=Nat.and_two_pow_sub_one_of_lt_two_pow hm
  simp at this ⊢
  rw[this];omega
theorem withI_bd(m i:Int)(h0:0<=m)(h1:m<=18446744073709551615):0<=eC m i/\eC m i<=18446744073709551615:=by
 unfold eC
 by_cases h:0<=i/\i<64
 ·rw[if_pos h]
  have hp:=fq i.toNat (by omega)
  have:m.toNat ||| 2 ^ i.toNat<2 ^ 64:=Nat.or_lt_two_pow (by omega) (by omega)
  omega
 ·rw[if_neg h];omega
theorem oT(m i:Int)(h0:0<=m)(h1:m<=18446744073709551615):0<=cN m i/\cN m i<=18446744073709551615:=by
 unfold cN
 by_cases h:0<=i/\i<64
 ·rw[if_pos h]
  have:m.toNat &&& (18446744073709551615-2 ^ i.toNat)<=m.toNat:=Nat.and_le_left
  omega
 ·rw[if_neg h];omega
end
section
theorem oU(m k:Nat)(h:m.testBit k=false):m ||| 2 ^ k=m+2 ^ k:=by
 rw[Nat.testBit_eq_decide_div_mod_eq] at h
 have h':=of_decide_eq_false h
 have hp:=Nat.two_pow_pos k
 have hr:m % 2 ^ k<2 ^ k:=Nat.mod_lt _ hp
 have e0:2 ^ k*(m / 2 ^ k)+m % 2 ^ k=m:=Nat.div_add_mod m (2 ^ k)
 have e1:m / 2 ^ k=2*(m / 2 ^ k / 2):=by omega
 generalize m % 2 ^ k=r at hr e0
 generalize m / 2 ^ k / 2=a at e1
 rw[e1] at e0
 have e2:2 ^ (k+1)*a+r=m:=by rw[Nat.pow_succ,Nat.mul_assoc];exact e0
 have hs:2 ^ (k+1)=2 ^ k*2:=Nat.pow_succ ..
 have o1:=Nat.two_pow_add_eq_or_of_lt (i:=k+1) (b:=r) (by omega) a
 have o2:=Nat.two_pow_add_eq_or_of_lt (i:=k+1) (b:=2 ^ k+r) (by omega) a
 have o3:=Nat.two_pow_add_eq_or_of_lt (i:=k) (b:=r) hr 1
 rw[Nat.mul_one] at o3
 rw[<-e2,o1,Nat.or_assoc,Nat.or_comm r,<-o3,<-o2]
 rw[<-o1];omega
theorem with_not(m i:Int)(h:hasB m i=false)(h0:0<=m):eC m i=m+bitI i:=by
 unfold hasB at h;unfold eC
 by_cases hi:0<=i/\i<64
 ·rw[decide_eq_true hi,Bool.true_and] at h
  rw[if_pos hi,fL hi.1 hi.2,oU _ _ h];omega
 ·rw[if_neg hi,eD hi];omega
def ones(k:Nat):Int:=((2 ^ k-1:Nat):Int)
def cj(n:Int):Int:=if n<64 then ones n.toNat else ones 64
theorem je(k:Nat)(h:k<=64):0<=ones k/\ones k<=18446744073709551615:=by
 unfold ones
 have:2 ^ k<=2 ^ 64:=Nat.pow_le_pow_right (by decide) h
 omega
theorem ml(k:Nat)(h:k<64):eC (ones k) k=ones (k+1):=by
 have hf:hasB (ones k) k=false:=by
  unfold hasB ones
  rw[Int.toNat_natCast,Int.toNat_natCast,Nat.testBit_two_pow_sub_one];simp
 rw[with_not _ _ hf (je k (by omega)).1,fL (by omega) (by omega),Int.toNat_natCast]
 unfold ones
 have:=Nat.two_pow_pos k
 rw[Nat.pow_succ];omega
theorem ones_lo(n:Int)(h:n<=0):cj n=0:=by
 unfold cj;rw[if_pos (by omega)]
 have:n.toNat=0:=by omega
 rw[this];rfl
theorem ones_mid(n:Int)(k:Nat)(h:(k:Int)=n)(h1:n<64):cj n=ones k:=by
 subst h;unfold cj;rw[if_pos h1,Int.toNat_natCast]
theorem ones_hi(n:Int)(h:64<=n):cj n=ones 64:=by unfold cj;rw[if_neg (by omega)]
end
end Go.Proofs.YtjngffgkllakaaaGreatDoor.MM
namespace Go.Proofs.YtjngffgkllakaaaGreatDoor
open List renaming getElem_toArray → zA, getElem_cons_succ → zB, getElem_cons_zero → zC, setIfInBounds_toArray → zD, set_cons_zero → zE, set_cons_succ → zF
open Lib renaming hid → zH
section
open Go.RowKit
set_option maxHeartbeats 400000 in
theorem nE(i:Int)(w:World) :
 Calls Tryz.prog 200 #[.int .i64 i] w fun e w'=>e=.returned (.int .u64 (MM.bitI i))/\w=w':=by
 by_cases h0:i<0
 ·have hb:=zH (MM.eD (i:=i) (by omega))
  go_enter Tryz.func200,Tryz.ntmps200
  go_wp2
  go_ret
  exact⟨cC hb.out.symm,rfl⟩
 ·by_cases h1:i<64
  ·have hb:=zH (MM.wrap_pow (i:=i) (by omega) h1)
   have h0:0<=i:=by omega
   go_enter Tryz.func200,Tryz.ntmps200
   go_wp2
   go_ret
   exact⟨cC hb.out,rfl⟩
  ·have hb:=zH (MM.eD (i:=i) (by omega))
   have h0:0<=i:=by omega
   have h1:64<=i:=by omega
   go_enter Tryz.func200,Tryz.ntmps200
   go_wp2
   go_ret
   exact⟨cC hb.out.symm,rfl⟩
set_option maxHeartbeats 400000 in
theorem nF(m i:Int)(w:World)(m0:0<=m)(m1:m<=18446744073709551615) :
 Calls Tryz.prog 168 #[.int .u64 m,.int .i64 i] w fun e w'=>e=.returned (.bool (MM.hasB m i))/\w=w':=by
 have hb:=zH (MM.and_has m i m0 m1)
 go_enter Tryz.func168,Tryz.ntmps168
 go_wp2_with (go_at_call 200;refine(nE _ _).mono ?_;rintro e w' ⟨rfl,rfl⟩)
 go_ret
 exact⟨af hb.out,rfl⟩
set_option maxHeartbeats 400000 in
theorem kK(m i:Int)(w:World)(m0:0<=m)(m1:m<=18446744073709551615) :
 Calls Tryz.prog 172 #[.int .u64 m,.int .i64 i] w fun e w'=>e=.returned (.int .u64 (MM.eC m i))/\w=w':=by
 have hb:=zH (MM.or_with m i m0 m1)
 go_enter Tryz.func172,Tryz.ntmps172
 go_wp2_with (go_at_call 200;refine(nE _ _).mono ?_;rintro e w' ⟨rfl,rfl⟩)
 go_ret
 exact⟨cC hb.out,rfl⟩
set_option maxHeartbeats 400000 in
theorem oV(m i:Int)(w:World)(m0:0<=m)(m1:m<=18446744073709551615) :
 Calls Tryz.prog 170 #[.int .u64 m,.int .i64 i] w fun e w'=>e=.returned (.int .u64 (MM.cN m i))/\w=w':=by
 have hb:=zH (MM.kJ m i m0 m1)
 go_enter Tryz.func170,Tryz.ntmps170
 go_wp2_with (go_at_call 200;refine(nE _ _).mono ?_;rintro e w' ⟨rfl,rfl⟩)
 go_ret
 exact⟨cC hb.out,rfl⟩
set_option maxHeartbeats 400000 in
theorem mm(n:Int)(w:World)(n0:-9223372036854775808<=n)(n1:n<=9223372036854775807) :
 Calls Tryz.prog 167 #[.int .i64 n] w fun e w'=>e=.returned (.int .u64 (MM.cj n))/\w=w':=by
 by_cases hn:n<64
 ·by_cases hz:n<=0
  ·have hb:=zH (MM.ones_lo n hz)
   go_enter Tryz.func167,Tryz.ntmps167
   go_wp2
   go_loop [3,4,7] (fun x _ k=>x=.int .u64 0/\k=.int .i64 0) (fun _ _ _=>0)
   case atStart=>exact⟨rfl,rfl⟩
   case round =>
    obtain⟨rfl,rfl⟩:=hrel
    go_wp2
    go_ret
    exact⟨cC hb.out.symm,rfl⟩
  ·have hz:0<n:=by omega
   go_enter Tryz.func167,Tryz.ntmps167
   go_wp2
   go_loop [3,4,7] (fun x _ k=>∃j:Nat,(j:Int)<=n/\k=.int .i64 j/\x=.int .u64 (MM.ones j)) (fun _ _ k=>(n-intOf k).toNat)
   case atStart=>exact⟨0,by omega,rfl,rfl⟩
   case round =>
    obtain⟨j,hj,rfl,rfl⟩:=hrel
    have hbd:=MM.je j (by omega)
    by_cases hlt:(j:Int)<n
    ·have hs:=zH (MM.ml j (by omega))
     go_wp2_with (go_at_call 172;refine(kK _ _ _ hbd.1 hbd.2).mono ?_;rintro e w' ⟨rfl,rfl⟩)
     go_round
     case rel=>exact⟨j+1,by omega,by go_num,by rw[hs.out]⟩
     case measure=>simp [intOf];omega
    ·have hb:=zH (MM.ones_mid n j (by omega) hn)
     go_wp2
     go_ret
     exact⟨cC hb.out.symm,rfl⟩
 ·have hb:=zH (MM.ones_hi n (by omega))
  rcases (show n=64∨64<n by omega) with rfl | hn
  all_goals
   go_enter Tryz.func167,Tryz.ntmps167
   go_wp2
   go_loop [3,4,7] (fun x _ k=>∃j:Nat,j<=64/\k=.int .i64 j/\x=.int .u64 (MM.ones j)) (fun _ _ k=>(64-intOf k).toNat)
   case atStart=>exact⟨0,by omega,rfl,rfl⟩
   case round =>
    obtain⟨j,hj,rfl,rfl⟩:=hrel
    have hbd:=MM.je j (by omega)
    by_cases hlt:j<64
    ·have hs:=zH (MM.ml j (by omega))
     go_wp2_with (go_at_call 172;refine(kK _ _ _ hbd.1 hbd.2).mono ?_;rintro e w' ⟨rfl,rfl⟩)
     go_round
     case rel=>exact⟨j+1,by omega,by go_num,by rw[hs.out]⟩
     case measure=>simp [intOf];omega
    ·obtain rfl:j=64:=by omega
     go_wp2
     go_ret
     exact⟨cC hb.out.symm,rfl⟩
end
end Go.Proofs.YtjngffgkllakaaaGreatDoor
namespace Go.Proofs.YtjngffgkllakaaaGreatDoor.MM
open List renaming getElem_toArray → zA, getElem_cons_succ → zB, getElem_cons_zero → zC, setIfInBounds_toArray → zD, set_cons_zero → zE, set_cons_succ → zF
open Lib renaming hid → zH
section
def upto(m:Int)(k:Nat):List Nat:=(List.range k).filter (fun i=>hasB m (i:Int))
def dG(m:Int):List Nat:=upto m 64
theorem oW(m:Int)(k:Nat)(h:hasB m (k:Int)=true):upto m (k+1)=upto m k ++ [k]:=by
 unfold upto;rw[List.range_succ,List.filter_append];simp [h]
theorem upto_no(m:Int)(k:Nat)(h:hasB m (k:Int)=false):upto m (k+1)=upto m k:=by
 unfold upto;rw[List.range_succ,List.filter_append];simp [h]
theorem upto_len(m:Int)(k:Nat):(upto m k).length<=k:=by
 unfold upto;exact Nat.le_trans (List.length_filter_le _ _) (by simp)
theorem oX(m:Int)(k j:Nat)(h:k<=j):upto m k <+: upto m j:=by
 obtain⟨d,rfl⟩:∃d,j=k+d:=⟨j-k,by omega⟩
 clear h
 induction d with
 | zero=>exact List.prefix_refl _
 | succ d ih =>
   refine List.IsPrefix.trans ih ?_
   rw[show k+(d+1)=(k+d)+1 from rfl]
   cases hh:hasB m ((k+d:Nat):Int)
   ·rw[upto_no _ _ hh];exact List.prefix_refl _
   ·rw[oW _ _ hh];exact List.prefix_append _ _
def mn(l:List Int):Bool:=l.all (fun i=>decide (0<=i/\i<64))
theorem kL(l:List Int)(i:Int):mn (l ++ [i])=(mn l && decide (0<=i/\i<64)):=by unfold mn;simp
theorem all_yes(l:List Int)(t:List Int)(x:Int)(ht:t=l ++ [x])(hl:mn l=true)(h:0<=x/\x<64):mn t=true:=by rw[ht,kL,hl,decide_eq_true h];rfl
theorem all_no(l:List Int)(t:List Int)(x:Int)(ht:t=l ++ [x])(h:¬(0<=x/\x<64)):mn t=false:=by rw[ht,kL,decide_eq_false h];simp
end
section
theorem hi_bit(m k j:Nat):(m / 2 ^ k*2 ^ k).testBit j=(decide (k<=j) && m.testBit j):=by
 rw[Nat.testBit_mul_two_pow]
 by_cases h:k<=j
 ·rw[Nat.testBit_div_two_pow,Nat.sub_add_cancel h]
 ·simp [h]
theorem hi_next(m k:Nat)(hm:m<2 ^ 64)(hne:m / 2 ^ k*2 ^ k≠0) :
 k<=Lib.ctz 64 (m / 2 ^ k*2 ^ k)/\Lib.ctz 64 (m / 2 ^ k*2 ^ k)<64/\m.testBit (Lib.ctz 64 (m / 2 ^ k*2 ^ k))=true /\
 (∀j,k<=j->j<Lib.ctz 64 (m / 2 ^ k*2 ^ k)->m.testBit j=false) /\
 (m / 2 ^ k*2 ^ k) &&& (m / 2 ^ k*2 ^ k-1)=m / 2 ^ (Lib.ctz 64 (m / 2 ^ k*2 ^ k)+1)*2 ^ (Lib.ctz 64 (m / 2 ^ k*2 ^ k)+1):=by
 have hL:∀j,(m / 2 ^ k*2 ^ k).testBit j=(decide (k<=j) && m.testBit j):=hi_bit m k
 have hlt:m / 2 ^ k*2 ^ k<2 ^ 64:=Nat.lt_of_le_of_lt (Nat.div_mul_le_self _ _) hm
 generalize m / 2 ^ k*2 ^ k=L at *
 unfold Lib.ctz
 rw[if_neg hne]
 obtain⟨q,hq,ht⟩:=Lib.ctzFrom_spec 64 L (by omega) hlt
 generalize Lib.ctzFrom 64 L=t at *
 have hb:∀j,L.testBit j=(decide (t<=j) && (2*q+1).testBit (j-t)):=by
  intro j;rw[hq,Nat.mul_comm,Nat.testBit_mul_two_pow]
 have h1:L.testBit t=true:=by rw[hb];simp
 have h1':=h1
 rw[hL,Bool.and_eq_true,decide_eq_true_eq] at h1'
 have hp:0<2 ^ t:=Nat.two_pow_pos t
 have hno:∀j,k<=j->j<t->m.testBit j=false:=by
  intro j hk hj
  have h2:=hb j
  rw[hL,decide_eq_true hk,Bool.true_and,decide_eq_false (show ¬t<=j by omega),Bool.false_and] at h2
  exact h2
 refine⟨h1'.1,ht,h1'.2,hno,?_⟩
 have e1:L-1=2 ^ t*(2*q)+(2 ^ t-1):=by rw[hq,Nat.mul_add,Nat.mul_one];omega
 apply Nat.eq_of_testBit_eq
 intro j
 rw[Nat.testBit_and,hi_bit,e1,Nat.testBit_two_pow_mul_add _ (by omega)]
 by_cases hj:j<t
 ·rw[hb j,decide_eq_false (show ¬t<=j by omega),decide_eq_false (show ¬t+1<=j by omega)];simp
 ·rw[if_neg hj]
  by_cases he:j=t
  ·subst he
   rw[decide_eq_false (show ¬j+1<=j by omega)]
   simp
  ·obtain⟨d,hd⟩:∃d,j-t=d+1:=⟨j-t-1,by omega⟩
   have h3:=hb j
   rw[hL j,decide_eq_true (show k<=j by omega),decide_eq_true (show t<=j by omega),Bool.true_and,Bool.true_and,hd,Nat.testBit_succ] at h3
   rw[hL j,decide_eq_true (show k<=j by omega),decide_eq_true (show t+1<=j by omega)]
   simp only[Bool.true_and]
   rw[hd,Nat.testBit_succ,h3]
   rw[show (2*q+1) / 2=q by omega,show 2*q / 2=q by omega,Bool.and_self]
theorem mo(m:Int)(k t:Nat)(h:k<=t)(hno:∀j:Nat,k<=j->j<t->hasB m (j:Int)=false):upto m t=upto m k:=by
 obtain⟨d,rfl⟩:∃d,t=k+d:=⟨t-k,by omega⟩
 clear h
 induction d with
 | zero=>rfl
 | succ d ih =>
   rw[show k+(d+1)=(k+d)+1 from rfl,upto_no _ _ (hno (k+d) (by omega) (by omega))]
   exact ih fun j h1 h2=>hno j h1 (by omega)
theorem low_next(m:Int)(k X:Nat)(h0:0<=m)(h1:m<=18446744073709551615)(hX:m.toNat / 2 ^ k*2 ^ k=X)(hne:X≠0) :
 X<18446744073709551616/\∃t Y:Nat,Lib.ctz 64 X=t/\k<=t/\t<64/\hasB m (t:Int)=true/\upto m (t+1)=upto m k ++ [t]/\bits .and .u64 (X:Int) ((X:Int)-1)=(Y:Int)/\Y<X/\m.toNat / 2 ^ (t+1)*2 ^ (t+1)=Y:=by
 have hle:=Nat.div_mul_le_self m.toNat (2 ^ k)
 rw[hX] at hle
 obtain⟨a1,a2,a3,a4,a5⟩:=hi_next m.toNat k (by omega) (by rw[hX];exact hne)
 rw[hX] at a1 a2 a3 a4 a5
 have hle2:X &&& (X-1)<=X-1:=Nat.and_le_right
 have a6:hasB m ((Lib.ctz 64 X:Nat):Int)=true:=by unfold hasB;rw[decide_eq_true (show 0<=((Lib.ctz 64 X:Nat):Int)/\((Lib.ctz 64 X:Nat):Int)<64 by omega),Bool.true_and,Int.toNat_natCast];exact a3
 refine⟨by omega,_,_,rfl,a1,a2,a6,?_,?_,?_,a5.symm⟩
 ·rw[oW m _ a6]
  rw[mo m k _ a1 fun j h1 h2=>by unfold hasB;rw[Int.toNat_natCast,a4 j h1 h2,Bool.and_false]]
 ·rw[u64_and _ _ (by omega) (by omega) (by omega) (by omega)]
  congr 2
  omega
 ·omega
theorem low_end(m:Int)(k:Nat)(hk:k<=64)(he:m.toNat / 2 ^ k*2 ^ k=0):dG m=upto m k:=by
 refine mo m k 64 hk fun j h1 h2=>?_
 have:=hi_bit m.toNat k j
 rw[he,decide_eq_true h1,Bool.true_and,Nat.zero_testBit] at this
 unfold hasB
 rw[Int.toNat_natCast,<-this,Bool.and_false]
theorem low_start(m:Int)(h:0<=m):Value.int .u64 m=.int .u64 ((m.toNat / 2 ^ 0*2 ^ 0:Nat):Int):=by
 rw[Nat.pow_zero,Nat.div_one,Nat.mul_one,show ((m.toNat:Nat):Int)=m by omega]
end
end Go.Proofs.YtjngffgkllakaaaGreatDoor.MM
namespace Go.Proofs.YtjngffgkllakaaaGreatDoor
open List renaming getElem_toArray → zA, getElem_cons_succ → zB, getElem_cons_zero → zC, setIfInBounds_toArray → zD, set_cons_zero → zE, set_cons_succ → zF
open Lib renaming hid → zH
section
open Go.RowKit
def dm(b:Nat)(W W':World):Prop:=W'.heap[b]?=W.heap[b]?
theorem dm.trans{b:Nat}{A B C:World}(h:dm b A B)(k:dm b B C):dm b A C:=Eq.trans (Eq.symm (Eq.symm k)) h
theorem dm.cell{b:Nat}{W W':World}(h:dm b W W')(o:Nat):W'.cell? ⟨b,o,none⟩=W.cell? ⟨b,o,none⟩:=World.cell?_of_block (w:=W) h
theorem dm.alloc{b:Nat}(W:World)(o:Obj)(h:b<W.heap.size):dm b W (W.alloc o):=Below.heap_alloc W o b h
abbrev tzG:Nat:=0
def Tz(w:World):Prop:=TabAt tzG Lib.deBruijn64tab w
theorem Tz.kept{A B:World}(h:Tz A)(k:dm tzG A B):Tz B:=fun j hj=>(k.cell j).trans (h j hj)
theorem Tz.lt{w:World}(h:Tz w):tzG<w.heap.size:=by
 have hc:=h 0 (by decide)
 apply Classical.byContradiction;intro hn
 simp [World.cell?,Array.getElem?_eq_none (Nat.le_of_not_lt hn)] at hc
theorem Tz.on{w W:World}(h:Tz w)(hb:Below w.heap.size w W):Tz W:=h.kept (hb.block _ h.lt)
theorem Tz.alloc{w:World}(h:Tz w)(o:Obj):Tz (w.alloc o):=h.kept (dm.alloc w o h.lt)
set_option maxHeartbeats 1000000 in
theorem tz_core(x k idx:Nat)(w:World)(hx0:((x:Int) == 0)=false)
 (key:IntKind.u64.wrap (bits BinOp.and IntKind.u64 (x:Int) (IntKind.u64.wrap (-(x:Int)))*285870213051353865) / 288230376151711744=(idx:Int))
 (hi:idx<64) (hk:k<64) (hcell:w.cell? ⟨tzG,idx,none⟩=some (.int .u8 k)) :
 Calls Tryz.prog 202 #[.int .u64 x] w fun e w'=>e=.returned (.int .i64 k)/\w'=w:=by
 go_enter Tryz.func202,Tryz.ntmps202
 go_wp2_with (simp only[key])
 go_ret
 exact⟨rfl,rfl⟩
theorem tz_any(x:Nat)(w:World)(hx:x<18446744073709551616)(hx0:x≠0)(hT:Tz w) :
 Calls Tryz.prog 202 #[.int .u64 x] w fun e w'=>e=.returned (.int .i64 (Lib.ctz 64 x))/\w'=w:=by
 obtain⟨hlow,hk⟩:=Lib.lowest_bit 64 x hx0 hx
 obtain⟨hi,htab⟩:=Lib.deBruijn64_at _ hk
 have hcell:=hT _ hi
 rw[htab] at hcell
 exact tz_core x _ _ w (by simp;omega) (tz64_key x _ hx hx0 hlow) hi hk hcell
end
section
open Go.RowKit Go.Shelf
attribute [local go_sem] Oper.semAt_some
theorem qI{W:World}{b:Nat}{v:Value}{t:TypeId}(h:W.heap[b]?=some (.cells #[v] t)):W.cell? ⟨b,0,none⟩=some v/\W.frozen? ⟨b,0,none⟩=false:=by
 constructor
 ·simp [World.cell?,h]
 ·simp [World.frozen?,h]
theorem bX(W:World)(v:Value)(t:TypeId):(W.alloc (.cells #[v] t)).cell? ⟨W.heap.size,0,none⟩=some v/\(W.alloc (.cells #[v] t)).frozen? ⟨W.heap.size,0,none⟩=false :=
 qI (World.alloc_heap_new W _)
theorem aD{W:World}{a:Addr}{v:Value}(o:Obj)(h:W.cell? a=some v):(W.alloc o).cell? a=some v:=cell_kept h (World.grownBy_alloc W o none) (fun r e=>(by cases e))
theorem bP{W:World}{a:Addr}{v:Value}(o:Obj)(h:W.cell? a=some v)(hf:W.frozen? a=false):(W.alloc o).frozen? a=false:=(frozen_kept h (World.grownBy_alloc W o none) (fun r e=>(by cases e))).trans hf
set_option maxHeartbeats 400000 in
theorem all_any(m:Int)(w:World) :
 Calls Tryz.prog 169 #[.int .u64 m] w fun e w'=>e=.returned (.func (.func 201) #[] #[.pointer (some ⟨w.heap.size,0,none⟩)])/\w'=w.alloc (.cells #[.int .u64 m] 178):=by
 go_enter Tryz.func169,Tryz.ntmps169
 go_wp2
 go_ret
 exact⟨rfl,rfl⟩
abbrev InS (m:Int):={ x:Nat // MM.hasB m (x:Int)=true }
set_option maxRecDepth 100000 in
set_option maxHeartbeats 2000000 in
theorem all1S_in(l Bs:Nat)(m:Int)(m0:0<=m)(m1:m<=18446744073709551615)(n:Nat)(hn:1<=n)(J Jx:List (InS m)->World->Prop)
 (hY:∀pre x W,J pre W->pre.length<64->YieldAt Fence.wide (n-1) Tryz.prog l #[.int .i64 ((x.1:Nat):Int)] W fun e W' =>
  (e=.returned (.bool true)/\J (pre ++ [x]) W'/\dm tzG W W')∨(e=.returned (.bool false)/\Jx (pre ++ [x]) W'))
 (W:World) (hBs:W.cell? ⟨Bs,0,none⟩=some (.int .u64 m)) (hT:Tz W) (h0:J [] W) :
 CallsIn Fence.wide n Tryz.prog 201 #[.func (.yield l) #[] #[],.pointer (some ⟨Bs,0,none⟩)] W fun e W'=>(∃v,e=.returned v) /\
  ((∃ys:List (InS m),ys.map (·.1)=MM.dG m/\J ys W')∨(∃pre:List (InS m),(pre.map (·.1) <+: MM.dG m)/\Jx pre W')):=by
 have HST:=zH (MM.low_start m m0)
 refine callsIn_of_wp Tryz.func201 rfl trivial ?_ rfl
 simp only[Tryz.ntmps201,List.size_toArray,List.length_cons,List.length_nil,Nat.reduceAdd,Nat.reduceSub,Array.replicate_succ,Array.replicate_zero,List.push_toArray,List.append_toArray,List.nil_append,List.cons_append]
 gi_wp2
 gi_loopw [3] (fun i wr=>∃(k X:Nat) (ls:List (InS m)),k<=64/\i=.int .u64 (X:Int)/\m.toNat / 2 ^ k*2 ^ k=X/\RowKit.Hid (ls.map (·.1)=MM.upto m k)/\J ls wr/\Tz wr)
  (fun i _=>(intOf i).toNat)
 case atStart=>exact⟨0,_,[],Nat.zero_le _,HST.out,rfl,zH rfl,h0,hT⟩
 case round =>
  obtain⟨k,X,ls,hk,rfl,hX,HLs,hJs,hTr⟩:=hrel
  clear hBs HST h0 hT
  by_cases hz:X=0
  ·subst hz
   have hE:=zH (MM.low_end m k hk hX)
   gi_wp2
   go_end0
   exact⟨⟨_,rfl⟩,.inl ⟨ls,by rw[hE.out];exact HLs.out,hJs⟩⟩
  ·obtain⟨hXl,t,Y,ht,hkt,ht64,hmem,hup,hand,hYX,hY2⟩:=MM.low_next m k X m0 m1 hX hz
   have hpre:ls.length<64:=by
    have h1:=MM.upto_len m (t+1)
    have h2:ls.length=(MM.upto m k).length:=by rw[<-HLs.out,List.length_map]
    rw[hup,List.length_append] at h1
    simp at h1;omega
   have HL2:=zH (show (ls ++ [(⟨t,hmem⟩:InS m)]).map (·.1)=MM.upto m (t+1) by rw[List.map_append,HLs.out,hup];rfl)
   have HU:=zH hup
   have HT:=zH ht
   have HA:=zH hand
   have HY:=zH hY2
   have hb:((X:Int) != 0)=true:=by rw[bne_iff_ne];omega
   have hw1:IntKind.u64.wrap ((X:Int)-1)=(X:Int)-1:=by rw[IntKind.wrap_u64];omega
   obtain⟨fn,tmps,assign,body,hy,hR⟩:=hY ls ⟨t,hmem⟩ wr hJs hpre
   clear hup ht hX hand hY2 HLs
   gi_wp2_with (refine⟨trivial,?_⟩;gi_at_call 202;refine(callsIn_wide.2 (tz_any X wr hXl hz hTr)).mono ?_;rintro e w' ⟨rfl,rfl⟩;rw[HT.out])
   refine hR.mono ?_
   rintro e W3 (⟨rfl,hJ3,hk3⟩ | ⟨rfl,hJx3⟩)
   ·have hT3:=hTr.kept hk3
    gi_wp2
    go_roundw
    case rel=>exact⟨t+1,Y,_,by omega,by rw[HA.out],HY.out,HL2,hJ3,hT3⟩
    case measure=>have hA:=HA.out;simp [intOf];omega
   ·gi_wp2
    refine bodyPost_ret (results_none rfl _ _ _) rfl ?_
    exact⟨⟨_,rfl⟩,.inr ⟨_,by rw[HL2.out];exact MM.oX m (t+1) 64 (by omega),hJx3⟩⟩
theorem kM(n:Nat)(hn:1<=n)(Bs:Nat)(m:Int)(m0:0<=m)(m1:m<=18446744073709551615)(w:World)(hBs:Bs<w.heap.size)(hc:w.cell? ⟨Bs,0,none⟩=some (.int .u64 m))(hT:Tz w) :
 SeqStopsK Fence.wide n Tryz.prog 201 #[.pointer (some ⟨Bs,0,none⟩)] (fun x:InS m=>#[Value.int .i64 ((x.1:Nat):Int)]) (dm tzG) (fun ys=>ys.map (·.1)=MM.dG m) (fun pre=>pre.map (·.1) <+: MM.dG m) 64 w :=
 fun l J Jx W hW _ _ hY h0=>all1S_in l Bs m m0 m1 n hn J Jx hY W ((hW.cell (p:=⟨Bs,0,none⟩) hBs).trans hc) (hT.on hW) h0
theorem oY{Bs N:Nat}(h:Bs<N)(W:World)(l:Nat)(o o':Obj)(hl:N<=l)(_:W.heap[l]?=some o)(_:o.isCells=false)(_:o.isWalk=false):dm Bs W (W.putObj l o') :=
 World.putObj_heap_other (by omega)
end
section
open Go.RowKit
def Nums(k:IntKind)(n₀:Nat)(W:World)(v:Value)(xs:List Int):Prop :=
 ((∃a cap,v=.slice a 0 cap)/\xs=[])∨∃b off cap,v=.slice (some ⟨b,off,none⟩) xs.length cap/\b<n₀/\xs.length<=cap/\∀j,j<xs.length->W.cell? ⟨b,off+j,none⟩=some (.int k (xs[j]?.getD 0))
theorem Nums.below{k:IntKind}{n₀:Nat}{A B:World}(h:Below n₀ A B){v:Value}{xs:List Int}:Nums k n₀ A v xs->Nums k n₀ B v xs
 | .inl e=>.inl e
 | .inr ⟨b,off,cap,e,hb,hl,hc⟩=>.inr ⟨b,off,cap,e,hb,hl,fun j hj=>(h.cell (p:=⟨b,off+j,none⟩) hb).trans (hc j hj)⟩
theorem Nums.mono{k:IntKind}{n n':Nat}(h:n<=n'){A:World}{v:Value}{xs:List Int}:Nums k n A v xs->Nums k n' A v xs
 | .inl e=>.inl e
 | .inr ⟨b,off,cap,e,hb,hl,hc⟩=>.inr ⟨b,off,cap,e,by omega,hl,hc⟩
theorem Nums.form{k:IntKind}{n₀:Nat}{A:World}{v:Value}{xs:List Int}(h:Nums k n₀ A v xs):∃a cap,v=.slice a xs.length cap:=by
 rcases h with⟨⟨_,_,rfl⟩,rfl⟩ | ⟨b,off,cap,rfl,_⟩
 ·exact⟨_,_,rfl⟩
 ·exact⟨_,_,rfl⟩
theorem Nums.at{k:IntKind}{n₀:Nat}{W:World}{v:Value}{xs:List Int}(h:Nums k n₀ W v xs)(h0:0<xs.length) :
 ∃b off cap,v=.slice (some ⟨b,off,none⟩) xs.length cap/\b<n₀/\∀j,j<xs.length->W.cell? ⟨b,off+j,none⟩=some (.int k (xs[j]?.getD 0)):=by
 rcases h with⟨_,rfl⟩ | ⟨b,off,cap,e,hb,_,hc⟩
 ·exact absurd h0 (by simp)
 ·exact⟨b,off,cap,e,hb,hc⟩
end
section
open Go.RowKit
theorem nG(W:World)(v:Value)(t:TypeId):∀j u,[v][j]?=some u->(W.alloc (.cells #[v] t)).cell? ((⟨W.heap.size,0,none⟩:Addr).add j)=some u:=by
 intro j u hj
 match j,hj with
 | 0,hj=>simp at hj;subst hj;simp [Addr.add]
end
section
open Go.RowKit Go.Shelf
def marks(Ds:List Nat):List Deferred:=Ds.map fun D=>{ target:=.collected D,args:=#[] }
def cW(n:Nat)(W:World)(Ds:List Nat):Prop:=Ds.Nodup/\∀D∈Ds,n<=D/\W.heap[D]?=some (.deferred (some []))
theorem cW.nil(n:Nat)(W:World):cW n W []:=⟨List.nodup_nil,fun D h=>by cases h⟩
theorem cW.lt{n:Nat}{W:World}{Ds:List Nat}(h:cW n W Ds){D:Nat}(hD:D∈Ds):D<W.heap.size:=(Array.getElem?_eq_some_iff.1 (h.2 D hD).2).1
theorem cW.cons{n:Nat}{W:World}{Ds:List Nat}{D:Nat}(h:cW n W Ds)(hD:n<=D)(hK:W.heap[D]?=some (.deferred (some [])))(hlt:∀E∈Ds,E<D):cW n W (D :: Ds) :=
 ⟨List.nodup_cons.2 ⟨fun hm=>Nat.lt_irrefl _ (hlt D hm),h.1⟩,fun E hE=>by
  rcases List.mem_cons.1 hE with rfl | hE
  ·exact⟨hD,hK⟩
  ·exact h.2 E hE⟩
theorem cW.keeps{n:Nat}{W W':World}{Ds:List Nat}(h:cW n W Ds)(k:KeepsOthers W W'):cW n W' Ds:=⟨h.1,fun D hD=>⟨(h.2 D hD).1,k.same D _ (h.2 D hD).2 rfl⟩⟩
theorem cW.drewN{n:Nat}{W:World}{Ds:List Nat}(h:cW n W Ds)(d:Nat):cW n (W.drewN d) Ds:=h
theorem mp{β:Type}(n B:Nat)(Ds:List Nat)(hB:∀D∈Ds,D<B):OwnFrom B (fun(_:β) W=>cW n W Ds) :=
 fun _ _ _ _ hs hg hr=>⟨hs.1,fun D hD=>⟨(hs.2 D hD).1,(hg.block D (hs.lt hD) (fun e=>by have h1:=(hr D e.symm).1;have h2:=hB D hD;omega)).trans (hs.2 D hD).2⟩⟩
theorem dP{F:Fence}{m:Nat}{P:Program}{fn:Func}{tmps:Array Value}{R:Ending->World->Prop}{b:Nat}:∀(Ds:List Nat) (W:World),b<=W.heap.size->cW b W Ds ->
 (∀W',(∀p v,W.cell? p=some v->W'.cell? p=some v)->Below b W W'->LeavesIn F m P fn tmps R [] .returning W')->LeavesInM F m P fn tmps R (marks Ds) .returning W:=by
 intro Ds
 induction Ds with
 | nil=>intro W _ _ h;exact h W (fun _ _ h=>h) (Below.refl b W)
 | cons D Ds ih =>
   intro W hb hm h
   have hK:=(hm.2 D (by simp)).2
   have hbD:=(hm.2 D (by simp)).1
   have hB:Below b W (W.putObj D (.deferred none)):=(Below.refl b W).grown (grownBy_putObj' W D _) hb (fun k e=>by cases e;exact hbD)
   refine⟨by simp,.inl ⟨D,W.putObj D (.deferred none),rfl,run_takeDeferred hK,ih _ (Nat.le_trans hb hB.size) ⟨(List.nodup_cons.1 hm.1).2,fun E hE=>⟨(hm.2 E (by simp [hE])).1,?_⟩⟩ fun W' hc hB'=>h W' (fun p v hp=>?_) (hB.trans hB')⟩⟩
   ·have hne:E≠D:=fun e=>(List.nodup_cons.1 hm.1).1 (e ▸ hE)
    exact(World.putObj_heap_other (fun e=>hne e)).trans (hm.2 E (by simp [hE])).2
   ·exact hc p v (cell_kept hp (grownBy_putObj' W D (.deferred none)) (fun r e=>(by cases e;exact⟨_,hK,rfl⟩)))
theorem cell_lt{W:World}{p:Addr}{v:Value}(h:W.cell? p=some v):p.block<W.heap.size:=by
 rcases Nat.lt_or_ge p.block W.heap.size with h1 | h1
 ·exact h1
 ·simp [World.cell?,Array.getElem?_eq_none h1] at h
def gU(Q:Exit->Act->World->Prop):Exit->Act->World->Prop
 | .panic _,_,_=>False
 | .normal,a,w=>Q .normal a w
 | .ret,a,w=>Q .ret a w
 | .exit i,a,w=>Q (.exit i) a w
 | .goto l,a,w=>Q (.goto l) a w
 | .outgrown,a,w=>Q .outgrown a w
theorem eE{Q:Exit->Act->World->Prop}:∀e a w,gU Q e a w->Q e a w
 | .panic _,_,_,h=>h.elim
 | .normal,_,_,h=>h
 | .ret,_,_,h=>h
 | .exit _,_,_,h=>h
 | .goto _,_,_,h=>h
 | .outgrown,_,_,h=>h
end
section
open Go.RowKit Go.Shelf
theorem wide_fn(f:FuncId):Fence.wide.fn f=True:=eq_true trivial
theorem iq(l:Nat)(f:FuncId):(Fence.wide.inRound l).fn f=True:=eq_true trivial
section
variable {F:Fence} {n:Nat} {P:Program} {ops:Array Oper} {md:Region.Mode} {C:World->Prop}
def fM(o:Oper):Bool:=match o.op with | .defer _=>false | _=>true
theorem qJ{o:Oper}(h:fM o=true):∀c,o.op≠.defer c:=by
 intro c e
 unfold fM at h
 rw[e] at h
 cases h
theorem qK{o:Oper}{a:Act}{K:Act->Prop}{K':Act->World->Prop}{Q':Exit->Act->World->Prop}{w:World}(hnd:fM o=true)(hw:C w)(h:∀a w',C w'->K a->K' a w')
 (ha:o.askedIn F P a C) (hh:o.quietIn F n P a C K):o.wpIn F n P a w K' Q':=by
 obtain⟨v,h1,h2⟩:=hh
 have h3:=h1 w hw
 unfold Oper.quietAtIn at h3
 unfold Oper.wpIn
 refine⟨ha w hw,?_⟩
 rw[Oper.semAt_eq _ _ _ (qJ hnd)]
 generalize (execOp a.eval o).run P w=r at *
 cases r with
 | ok x w' =>
   cases x <;> simp only[Oper.quietUponIn] at h3 <;> simp only[Oper.uponIn]
   case value u =>
    obtain⟨e1,e2⟩:=h3
    rw[e1,e2]
    exact h _ _ hw h2
   case skip =>
    obtain⟨e1,e2⟩:=h3
    rw[e1,<-e2]
    exact h _ _ hw h2
   case enter f args =>
    obtain⟨e1,hd,hc⟩:=h3
    rw[e1]
    exact⟨hd,hc.mono fun e w'' ⟨he,hw''⟩=>by subst he;exact h _ _ hw'' h2⟩
 | halt x w'=>simp only[Oper.quietUponIn] at h3
theorem op_round(hops:∀(i:Nat) o,ops[i]?=some o->fM o=true){i:Nat}{a:Act}{K:Act->Prop}{K':Act->World->Prop}{Q':Exit->Act->World->Prop}{w:World}(hC:C w)(h:∀a w',C w'->K a->K' a w')
 (hh:qOpIn F n P ops C i K a):wpOpIn F n P ops Q' i K' a w:=by
 unfold qOpIn at hh
 unfold wpOpIn
 split
 ·rename_i ho;simp only[ho] at hh;exact h _ _ hC hh
 ·rename_i o ho
  simp only[ho] at hh
  obtain⟨ha,hh⟩:=hh
  split
  ·rename_i hw;simp only[hw,if_true] at hh;exact qK (hops i o ho) hC h ha hh
  ·rename_i hw;simp only[hw] at hh;exact⟨ha w hC,h _ _ hC hh⟩
theorem jH(hops:∀(i:Nat) o,ops[i]?=some o->fM o=true){Q:Act->Prop}{Q':Exit->Act->World->Prop}(hQ:∀a w,C w->Q a->Q' .normal a w):∀(fuel:Nat) (listed:Array Bool) (a:Act) (w:World),C w ->
 wpAnyQIn F n P md ops C Q fuel listed a->wpAnyIn F n P md ops Q' fuel listed a w
 | 0,_,_,_,hw,h=>⟨h.1,hQ _ _ hw h.2⟩
 | fuel+1,_,_,_,hw,h=>⟨fun h0=>hQ _ _ hw (h.1 h0),fun i hi=>op_round hops hw (fun a' w' hw'=>jH hops hQ fuel _ a' w' hw') (h.2 i hi)⟩
theorem bT{id:Nat}{Q:Exit->Act->World->Prop}{a:Act}{w:World}{l:List Oper}(hnd:l.all fM=true)(hm:P.follows .mixedOrders=true)(hB:Region.lexB .any l.toArray=true)
 (h:wpQuietIn F n P l.toArray (fun w'=>∃n,w'=w.drewN n) (fun a'=>∀w',(∃n,w'=w.drewN n)->Q .normal a' w') l a):(Code.region id l.toArray true).wpIn F n P Q a w:=by
 simp only[Region.lexB,Bool.and_eq_true] at hB
 refine wpIn_region_any hm (jH (C:=fun w'=>∃n,w'=w.drewN n) (fun i o ho=>?_) (Q:=fun a'=>∀w',(∃n,w'=w.drewN n)->Q .normal a' w') (fun _ w' hw' h=>h w' hw') _ _ _ _ ⟨1,rfl⟩ ?_)
 ·rw[List.all_eq_true] at hnd
  exact hnd o (List.mem_of_getElem? (by simpa using ho))
 ·have:=wpAnyQIn_lex (F:=F) (n:=n) (C:=fun w'=>∃n,w'=w.drewN n) (md:=.any) hB.1 l 0 (Array.replicate l.length false) a (by simp) (by simpa using hB.2) h
  simpa using this
end
end
section
open Go.RowKit Go.Shelf
attribute [local go_sem] Oper.semAt_some
def ov0:OpV:=⟨0,0,0,0,0,none,0,0,none,0,0,0,0⟩
def lsAt(ls:List (List OpV))(i:Nat):List OpV:=ls[i]?.getD []
def bt(ls:List (List OpV))(y:Nat × Nat):OpV:=(lsAt ls y.1)[y.2]?.getD ov0
def gy(i k:Nat):List (Nat × Nat):=(List.range k).map fun j=>(i,j)
def aE(ls:List (List OpV))(i k:Nat):List (Nat × Nat):=((List.range i).flatMap fun a=>gy a (lsAt ls a).length) ++ gy i k
def bQ(ls:List (List OpV)):List (Nat × Nat):=aE ls ls.length 0
theorem cH(ls:List (List OpV))(i k:Nat):aE ls i (k+1)=aE ls i k ++ [(i,k)]:=by
 unfold aE gy
 rw[List.range_succ,List.map_append,List.append_assoc]
 rfl
theorem dc(ls:List (List OpV))(i:Nat):aE ls i (lsAt ls i).length=aE ls (i+1) 0:=by
 unfold aE
 rw[List.range_succ,List.flatMap_append]
 simp [gy]
theorem nH(ls:List (List OpV))(i d:Nat):aE ls i 0 <+: aE ls (i+d) 0:=by
 induction d with
 | zero=>exact List.prefix_rfl
 | succ d ih =>
   refine ih.trans ?_
   show aE ls (i+d) 0 <+: aE ls (i+d+1) 0
   rw[<-dc]
   unfold aE
   exact⟨gy (i+d) (lsAt ls (i+d)).length,by simp [gy]⟩
theorem rowIt_pre(i k d:Nat):gy i k <+: gy i (k+d):=by
 unfold gy
 rw[List.range_add,List.map_append]
 exact List.prefix_append _ _
theorem eQ(ls:List (List OpV)){i k:Nat}(hi:i<ls.length)(hk:k<=(lsAt ls i).length):aE ls i k <+: bQ ls:=by
 have h1:aE ls i k <+: aE ls i (lsAt ls i).length:=by
  obtain⟨d,hd⟩:=Nat.exists_eq_add_of_le hk
  rw[hd]
  unfold aE
  obtain⟨t,ht⟩:=rowIt_pre i k d
  exact⟨t,by rw[List.append_assoc,ht]⟩
 rw[dc] at h1
 obtain⟨d,hd⟩:=Nat.exists_eq_add_of_le (show i+1<=ls.length from hi)
 unfold bQ
 rw[hd]
 exact h1.trans (nH ls (i+1) d)
def ItOk(ls:List (List OpV))(y:Nat × Nat):Prop:=y.1<ls.length/\y.2<(lsAt ls y.1).length
abbrev It (ls:List (List OpV)):={ y:Nat × Nat // ItOk ls y }
def encI(ls:List (List OpV))(y:It ls):Array Value:=#[.agg #[.int .i64 y.1.1,.int .i64 y.1.2],.agg (aF (bt ls y.1)).toArray]
def bu(n₀ Bs:Nat)(A B:World):Prop:=A.heap.size<=B.heap.size/\∀k,k<n₀∨k=Bs->B.heap[k]?=A.heap[k]?
theorem bu.refl(n₀ Bs:Nat)(A:World):bu n₀ Bs A A:=⟨Nat.le_refl _,fun _ _=>rfl⟩
theorem bu.trans{n₀ Bs:Nat}{A B C:World}(h:bu n₀ Bs A B)(k:bu n₀ Bs B C):bu n₀ Bs A C:=⟨Nat.le_trans h.1 k.1,fun i hi=>(k.2 i hi).trans (h.2 i hi)⟩
theorem bu.alloc{n₀ Bs:Nat}{A B:World}(h:bu n₀ Bs A B)(o:Obj)(hn:n₀<=B.heap.size)(hB:Bs<B.heap.size):bu n₀ Bs A (B.alloc o) :=
 ⟨Nat.le_trans h.1 (by simp),fun i hi=>(Below.heap_alloc B o i (by omega)).trans (h.2 i hi)⟩
def mkIt{ls:List (List OpV)}{i k:Nat}(hi:i<ls.length)(hk:k<(lsAt ls i).length):It ls:=⟨(i,k),hi,hk⟩
theorem mq(b:Value)(w:World)(pa va:Int)(ba:Option Addr)(n bc:Nat)(hb:b=.agg #[.int .i64 pa,.int .i64 va,.slice ba n bc]) :
 Calls Tryz.prog 141 #[b] w fun e w'=>e=.returned (.func (.func 184) #[] #[.pointer (some ⟨w.heap.size,0,none⟩)])/\w'=w.alloc (.cells #[.int .i64 pa,.int .i64 va,.slice ba n bc] 52):=by
 subst hb
 go_enter Tryz.func141,Tryz.ntmps141
 go_wp2
 go_ret
 exact⟨rfl,rfl⟩
theorem lS{n₀:Nat}{W:World}{a:Option Addr}{n cap:Nat}{ls:List (List OpV)}(h:bS n₀ W (.slice a n cap) ls){i:Nat}(hi:i<ls.length) :
 ∃b off a' cap',a=some ⟨b,off,none⟩/\b<n₀/\W.cell? ⟨b,off+i,none⟩=some (.slice a' (lsAt ls i).length cap')/\∀k,k<(lsAt ls i).length->∃blk o,a'=some ⟨blk,o,none⟩/\blk<n₀/\∀c u,(aF (bt ls (i,k)))[c]?=some u->W.cell? ⟨blk,o+k*9+c,none⟩=some u:=by
 obtain⟨b,off,a',cap',e,hb,hc,ho⟩:=h.at hi
 refine⟨b,off,a',cap',e,hb,hc,fun k hk=>?_⟩
 rcases ho with⟨_,e0⟩ | ⟨blk,o,c2,e2,hb2,hc2⟩
 ·have:(lsAt ls i).length=0:=by unfold lsAt;rw[e0];rfl
  omega
 ·cases e2
  have hx:(ls[i]?.getD [])[k]?=some (bt ls (i,k)):=by
   unfold bt lsAt
   unfold lsAt at hk
   simp only
   rw[List.getElem?_eq_getElem hk]
   rfl
  exact⟨blk,o,rfl,hb2,fun c u hu=>hc2 k _ hx c u hu⟩
set_option maxRecDepth 100000 in
set_option maxHeartbeats 4000000 in
theorem instr1_in(ls:List (List OpV))(n₀ l Bs:Nat)(pa va:Int)(ba:Option Addr)(bc N:Nat)(n:Nat)(hn:1<=n)(J Jx:List (It ls)->World->Prop)(W0:World)
 (hY:∀pre x W,J pre W->pre.length<N->YieldAt Fence.wide (n-1) Tryz.prog l (encI ls x) W fun e W' =>
  (e=.returned (.bool true)/\J (pre ++ [x]) W'/\bu n₀ Bs W W')∨(e=.returned (.bool false)/\Jx (pre ++ [x]) W'))
 (W:World) (hJ:AbidesFrom W.heap.size J) (hs:n₀<=W.heap.size) (hBs:W.heap[Bs]?=some (.cells #[.int .i64 pa,.int .i64 va,.slice ba ls.length bc] 52)) (hM:bS n₀ W (.slice ba ls.length bc) ls) (hl1:ls.length<=4096) (hl2:∀i,i<ls.length->(lsAt ls i).length<=4096) (hN:∀i k,i<ls.length->k<(lsAt ls i).length->(aE ls i k).length<N) (h0:J [] W) :
 CallsIn Fence.wide n Tryz.prog 184 #[.func (.yield l) #[] #[],.pointer (some ⟨Bs,0,none⟩)] W fun e W'=>(∃v,e=.returned v) /\
  ((∃ys:List (It ls),ys.map (·.1)=bQ ls/\J ys W')∨(∃pre:List (It ls),(pre.map (·.1) <+: bQ ls)/\Jx pre W')):=by
 have HM:=zH hM
 have HBS:=zH hBs
 have hb2:W.cell? ⟨Bs,2,none⟩=some (.slice ba ls.length bc):=cell_of_row _ _ 2 _ _ _ hBs
 have HN:=zH hN
 have HL2:=zH hl2
 have hBl:Bs<W.heap.size:=(Array.getElem?_eq_some_iff.1 hBs).1
 have i0:(ls.length:Int)<=4096:=by omega
 clear hM hBs hN hl2
 refine callsIn_of_wp Tryz.func184 rfl trivial ?_ rfl
 simp only[Tryz.ntmps184,List.size_toArray,List.length_cons,List.length_nil,Nat.reduceAdd,Nat.reduceSub,Array.replicate_succ,Array.replicate_zero,List.push_toArray,List.append_toArray,List.nil_append,List.cons_append]
 gi_wp2
 gi_loopw [10] (fun k wr=>∃(i:Nat) (ys:List (It ls)),i<=ls.length/\k=.int .i64 (i:Int)/\RowKit.Hid (ys.map (·.1)=aE ls i 0/\J ys wr/\bu n₀ Bs W wr)) (fun k _=>ls.length-(intOf k).toNat)
 case atStart=>exact⟨0,[],Nat.zero_le _,rfl,zH ⟨rfl,h0,bu.refl _ _ _⟩⟩
 case round =>
  clear hb2
  obtain⟨w4,rfl⟩:∃w4,w4=wr:=⟨_,rfl⟩
  obtain⟨i,ys,hi,rfl,HI⟩:=hrel
  by_cases hlt:i<ls.length
  ·obtain⟨bb,bo,la,lc,eba,hbb,hrow,hrows⟩:=lS HM.out hlt
   subst eba
   have HROWS:=zH hrows
   have HLT:=zH hlt
   have hr1:w4.cell? ⟨bb,bo+i,none⟩=some (.slice la (lsAt ls i).length lc):=(World.cell?_of_block (a:=⟨bb,bo+i,none⟩) (HI.out.2.2.2 bb (.inl hbb))).trans hrow
   have i1:(0:Int)<=i/\(i:Int)<ls.length:=by omega
   have i2:((lsAt ls i).length:Int)<=4096:=by have:=HL2.out i hlt;omega
   clear hrows hrow hlt
   gi_wp2
   gi_loopw [17] (fun k wr=>∃(k':Nat) (zs:List (It ls)),k'<=(lsAt ls i).length/\k=.int .i64 (k':Int)/\RowKit.Hid (zs.map (·.1)=aE ls i k'/\J zs wr/\bu n₀ Bs W wr)) (fun k _=>(lsAt ls i).length-(intOf k).toNat)
   case atStart=>exact⟨0,ys,Nat.zero_le _,rfl,HI⟩
   case round =>
    clear hr1
    obtain⟨w5,rfl⟩:∃w5,w5=wr:=⟨_,rfl⟩
    obtain⟨k,zs,hk,rfl,HK⟩:=hrel
    by_cases hkt:k<(lsAt ls i).length
    ·obtain⟨blk,o,ela,hblk,hcs⟩:=HROWS.out k hkt
     subst ela
     have HKT:=zH hkt
     have i3:(0:Int)<=k/\(k:Int)<(lsAt ls i).length:=by omega
     obtain⟨x,ex⟩:∃x,x=bt ls (i,k):=⟨_,rfl⟩
     have HX:=zH ex
     rw[<-ex] at hcs
     have hcc:∀c u,(aF x)[c]?=some u->w5.cell? ⟨blk,o+k*9+c,none⟩=some u:=fun c u hu=>(World.cell?_of_block (a:=⟨blk,o+k*9+c,none⟩) (HK.out.2.2.2 blk (.inl hblk))).trans (hcs c u hu)
     have hx0:=hcc 0 _ rfl
     have hx1:=hcc 1 _ rfl
     have hx2:=hcc 2 _ rfl
     have hx3:=hcc 3 _ rfl
     have hx4:=hcc 4 _ rfl
     have hx5:=hcc 5 _ rfl
     have hx6:=hcc 6 _ rfl
     have hx7:=hcc 7 _ rfl
     have hx8:=hcc 8 _ rfl
     rw[Nat.add_zero] at hx0
     obtain⟨w6,ew6⟩:∃w6,w6=w5.alloc (.cells #[.int .u8 x.k,.int .u8 x.o,.int .i64 x.d,.int .i64 x.r,.int .i64 x.a,.slice x.xa x.xl x.xc,.slice x.ya x.yl x.yc,.int .i64 x.n,.int .i64 x.t] 56):=⟨_,rfl⟩
     have HJ6:=zH (show J zs w6 by rw[ew6];exact hJ zs w5 _ none HK.out.2.1 (World.grownBy_alloc w5 _ none) (fun r e=>by cases e))
     have HK6:=zH (show bu n₀ Bs W w6 by rw[ew6];exact HK.out.2.2.alloc _ (by have:=HK.out.2.2.1;omega) (by have:=HK.out.2.2.1;omega))
     have hlen:zs.length<N:=by
      have h1:=congrArg List.length HK.out.1
      rw[List.length_map] at h1
      rw[h1]
      exact HN.out i k HLT.out hkt
     obtain⟨fn,tmps,assign,body,hy,hR⟩:=hY zs (mkIt HLT.out HKT.out) w6 HJ6.out hlen
     have hy2:(Instr.yield l #[.agg #[.int .i64 (i:Int),.int .i64 (k:Int)],.agg #[.int .u8 x.k,.int .u8 x.o,.int .i64 x.d,.int .i64 x.r,.int .i64 x.a,.slice x.xa x.xl x.xc,.slice x.ya x.yl x.yc,.int .i64 x.n,.int .i64 x.t]]).run Tryz.prog w6=.ok (.round l fn tmps assign body) w6:=by
      rw[ex];exact hy
     rw[ew6] at hy2
     clear hcs hcc ex hkt hy hlen
     gi_wp2
     rw[<-ew6]
     refine hR.mono ?_
     rintro e W3 (⟨rfl,hJ3,hk3⟩ | ⟨rfl,hJx3⟩)
     ·have HN3:=zH (show (zs ++ [mkIt HLT.out HKT.out]).map (·.1)=aE ls i (k+1)/\J (zs ++ [mkIt HLT.out HKT.out]) W3/\bu n₀ Bs W W3 from
       ⟨by rw[List.map_append,HK.out.1,cH];rfl,hJ3,HK6.out.trans hk3⟩)
      clear hJ3
      gi_wp2
      go_roundw
      case rel=>exact⟨k+1,_,HKT.out,by go_num,HN3⟩
      case measure=>have:=HKT.out;simp [intOf];omega
     ·have HN3:=zH (show (zs ++ [mkIt HLT.out HKT.out]).map (·.1) <+: bQ ls from by
       rw[List.map_append,HK.out.1]
       show aE ls i k ++ [(i,k)] <+: _
       rw[<-cH]
       exact eQ ls HLT.out HKT.out)
      gi_wp2
      refine bodyPost_ret (results_none rfl _ _ _) rfl ?_
      exact⟨⟨_,rfl⟩,.inr ⟨_,HN3.out,hJx3⟩⟩
    ·have e0:k=(lsAt ls i).length:=by omega
     subst e0
     gi_wp2
     go_roundw
     case rel=>exact⟨i+1,zs,HLT.out,by go_num,zH ⟨by rw[HK.out.1,dc],HK.out.2⟩⟩
     case measure=>have:=HLT.out;simp [intOf];omega
  ·have e0:i=ls.length:=by omega
   subst e0
   gi_wp2
   go_end0
   exact⟨⟨_,rfl⟩,.inl ⟨ys,HI.out.1,HI.out.2.1⟩⟩
end
end Go.Proofs.YtjngffgkllakaaaGreatDoor
namespace Go.Proofs.YtjngffgkllakaaaGreatDoor.DD
open List renaming getElem_toArray → zA, getElem_cons_succ → zB, getElem_cons_zero → zC, setIfInBounds_toArray → zD, set_cons_zero → zE, set_cons_succ → zF
open Lib renaming hid → zH
section
open GG
def cut(adj:Nat->List Nat)(a:Nat)(x:Nat):List Nat:=(adj x).filter fun j=>decide (j≠a)
theorem nI{adj:Nat->List Nat}{a x j:Nat}:j∈cut adj a x↔j∈adj x/\j≠a:=by
 unfold cut;rw[List.mem_filter,decide_eq_true_eq]
def Av(adj:Nat->List Nat)(a k:Nat):Prop:=a≠0/\GG.Reach (cut adj a) 0 k
theorem Av.ne{adj:Nat->List Nat}{a k:Nat}(h:Av adj a k):k≠a:=by
 obtain⟨h0,h⟩:=h
 cases h with
 | refl=>exact fun e=>h0 e.symm
 | step _ hk=>exact(nI.1 hk).2
theorem Av.step{adj:Nat->List Nat}{a u k:Nat}(h:Av adj a u)(hk:k∈adj u)(hn:k≠a):Av adj a k:=⟨h.1,.step h.2 (nI.2 ⟨hk,hn⟩)⟩
theorem Av.of{adj:Nat->List Nat}{a:Nat}{P:Nat->Prop}(h0:a≠0->P 0)(hs:∀u k,Av adj a u->P u->k∈adj u->k≠a->P k){k:Nat}(h:Av adj a k):P k:=by
 obtain⟨ha,h⟩:=h
 have:Av adj a k/\P k:=by
  induction h with
  | refl=>exact⟨⟨ha,.refl _⟩,h0 ha⟩
  | step _ hk ih =>
    obtain⟨h1,h2⟩:=nI.1 hk
    exact⟨ih.1.step h1 h2,hs _ _ ih.1 ih.2 h1 h2⟩
 exact this.2
inductive Up (T:Nat->Int):Nat->Nat->Prop
 | refl (k:Nat):Up T k k
 | step {k j a:Nat} (h:T k=(j:Int)) (g:Up T j a):Up T k a
theorem Up.trans{T:Nat->Int}{x y z:Nat}(h:Up T x y)(g:Up T y z):Up T x z:=by
 induction h with
 | refl=>exact g
 | step h _ ih=>exact .step h (ih g)
theorem Up.one{T:Nat->Int}{x y:Nat}(h:T x=(y:Int)):Up T x y:=.step h (.refl _)
theorem Up.head{T:Nat->Int}{k a:Nat}(h:Up T k a):a=k∨∃j:Nat,T k=(j:Int)/\Up T j a:=by
 cases h with
 | refl=>exact .inl rfl
 | step h g=>exact .inr ⟨_,h,g⟩
theorem Up.head_of{T:Nat->Int}{k j a:Nat}(h:Up T k a)(hj:T k=(j:Int))(hn:a≠k):Up T j a:=by
 rcases h.head with e | ⟨i,hi,g⟩
 ·exact absurd e hn
 ·have:i=j:=by rw[hj] at hi;omega
  rwa [this] at g
theorem Up.end_{T:Nat->Int}{k a:Nat}(h:Up T k a)(hk:T k = -1):a=k:=by
 rcases h.head with e | ⟨j,hj,_⟩
 ·exact e
 ·omega
def Kn(T:Nat->Int)(k:Nat):Prop:=k=0∨∃j:Nat,T k=(j:Int)
structure Gr (n:Nat) (adj:Nat->List Nat) (pl:Nat->Nat):Prop where
 pos:0<n
 lt:∀x,∀j∈adj x,j<n
 first:pl 0=0
 inj:∀x y,x<n->y<n->pl x=pl y->x=y
 plt:∀x,x<n->pl x<n
 ahead:∀k,k<n->k≠0->∃u,u<n/\k∈adj u/\pl u<pl k
def far(adj:Nat->List Nat)(pl:Nat->Nat)(m:Nat)(x:Nat):List Nat:=(adj x).filter fun j=>decide (m<=pl j)
theorem kr{adj:Nat->List Nat}{pl:Nat->Nat}{m x j:Nat}:j∈far adj pl m x↔j∈adj x/\m<=pl j:=by
 unfold far;rw[List.mem_filter,decide_eq_true_eq]
theorem far_mono{adj:Nat->List Nat}{pl:Nat->Nat}{m m' i k:Nat}(hm:m<=m')(h:GG.Reach (far adj pl m') i k):GG.Reach (far adj pl m) i k:=by
 induction h with
 | refl=>exact .refl _
 | step _ hk ih =>
   obtain⟨h1,h2⟩:=kr.1 hk
   exact .step ih (kr.2 ⟨h1,by omega⟩)
theorem far_av{adj:Nat->List Nat}{pl:Nat->Nat}{m i k a:Nat}(ha:pl a<m)(h:GG.Reach (far adj pl m) i k)(hi:Av adj a i):Av adj a k:=by
 induction h with
 | refl=>exact hi
 | step _ hk ih =>
   obtain⟨h1,h2⟩:=kr.1 hk
   exact ih.step h1 (fun e=>by subst e;omega)
structure Inv (n:Nat) (adj:Nat->List Nat) (pl:Nat->Nat) (T:Nat->Int):Prop where
 root:T 0 = -1
 out:∀k,n<=k->T k = -1
 num:∀k,T k = -1∨∃j:Nat,T k=(j:Int)
 ok:∀k j:Nat,T k=(j:Int)->k<n/\j<n/\pl j<pl k/\Kn T j/\GG.Reach (far adj pl (pl j)) j k
 avoid:∀k a,k<n->Kn T k->¬Up T k a->Av adj a k
section
variable {n r m:Nat} {adj:Nat->List Nat} {pl:Nat->Nat} {T:Nat->Int}
theorem Inv.up_pl(I:Inv n adj pl T){k a:Nat}(h:Up T k a):a=k∨pl a<pl k:=by
 induction h with
 | refl=>exact .inl rfl
 | step h _ ih =>
   have:=(I.ok _ _ h).2.2.1
   rcases ih with rfl | h'
   ·exact .inr this
   ·exact .inr (by omega)
theorem Inv.up_le(I:Inv n adj pl T){k a:Nat}(h:Up T k a):pl a<=pl k:=by
 rcases I.up_pl h with rfl | h'
 ·exact Nat.le_refl _
 ·omega
theorem Inv.up_lt(I:Inv n adj pl T){k a:Nat}(h:Up T k a)(hk:k<n):a<n:=by
 induction h with
 | refl=>exact hk
 | step h _ ih=>exact ih (I.ok _ _ h).2.1
theorem Inv.up_kn(I:Inv n adj pl T){k a:Nat}(h:Up T k a)(hk:Kn T k):Kn T a:=by
 induction h with
 | refl=>exact hk
 | step h _ ih=>exact ih (I.ok _ _ h).2.2.2.1
theorem Inv.up_far(I:Inv n adj pl T){k a:Nat}(h:Up T k a):GG.Reach (far adj pl (pl a)) a k:=by
 induction h with
 | refl=>exact .refl _
 | step h g ih =>
   have h1:=(I.ok _ _ h).2.2.2.2
   exact ih.trans (far_mono (I.up_le g) h1)
theorem Inv.anti(I:Inv n adj pl T){k a:Nat}(h:Up T k a)(g:Up T a k):a=k:=by
 rcases I.up_pl h with e | e
 ·exact e
 ·have:=I.up_le g;omega
theorem Inv.root_up(I:Inv n adj pl T){a:Nat}(h:Up T 0 a):a=0:=h.end_ I.root
theorem Inv.to_root(I:Inv n adj pl T):∀(m k:Nat),pl k<=m->Kn T k->Up T k 0:=by
 intro m
 induction m with
 | zero =>
   intro k hk hn
   rcases hn with rfl | ⟨j,hj⟩
   ·exact .refl _
   ·have:=(I.ok _ _ hj).2.2.1;omega
 | succ m ih =>
   intro k hk hn
   rcases hn with rfl | ⟨j,hj⟩
   ·exact .refl _
   ·obtain⟨_,_,h1,h2,_⟩:=I.ok _ _ hj
    exact .step hj (ih j (by omega) h2)
def setI(T:Nat->Int)(i:Nat)(c:Int):Nat->Int:=fun x=>if x=i then c else T x
theorem dq(T:Nat->Int)(i:Nat)(c:Int):setI T i c i=c:=by simp [setI]
theorem cP(T:Nat->Int){i x:Nat}(c:Int)(h:x≠i):setI T i c x=T x:=by simp [setI,h]
theorem kN{i k:Nat}{c:Nat}(h:Kn T k):Kn (setI T i c) k:=by
 rcases h with rfl | ⟨j,hj⟩
 ·exact .inl rfl
 ·by_cases e:k=i
  ·subst e;exact .inr ⟨c,dq _ _ _⟩
  ·exact .inr ⟨j,by rw[cP _ _ e];exact hj⟩
theorem Inv.up_set(I:Inv n adj pl T){i x a:Nat}{c:Int}(hx:pl x<pl i):Up (setI T i c) x a↔Up T x a:=by
 constructor
 ·intro h
  induction h with
  | refl=>exact .refl _
  | @step k j a h _ ih =>
    have hk:k≠i:=fun e=>by subst e;omega
    rw[cP _ _ hk] at h
    have:=(I.ok _ _ h).2.2.1
    exact .step h (ih (by omega))
 ·intro h
  induction h with
  | refl=>exact .refl _
  | @step k j a h _ ih =>
    have hk:k≠i:=fun e=>by subst e;omega
    have:=(I.ok _ _ h).2.2.1
    exact .step (by rw[cP _ _ hk];exact h) (ih (by omega))
theorem Inv.upd(I:Inv n adj pl T)(G:Gr n adj pl){i c u:Nat}(hi:i<n)(h0:i≠0)(hu:i∈adj u)(hun:u<n)(hpl:pl u<pl i)(hk:Kn T u)(huc:Up T u c)
 (h1:∀a,(∀j,j<n->i∈adj j->Kn T j->Up T j a)->Up T c a):Inv n adj pl (setI T i c):=by
 have hcn:c<n:=I.up_lt huc hun
 have hcp:pl c<=pl u:=I.up_le huc
 have hci:c≠i:=fun e=>by subst e;omega
 refine⟨by rw[cP _ _ (fun e=>h0 e.symm)];exact I.root,fun k hk=>by rw[cP _ _ (fun e=>by omega)];exact I.out k hk,fun k=>?_,fun k j hkj=>?_,?_⟩
 ·by_cases e:k=i
  ·subst e;exact .inr ⟨c,dq _ _ _⟩
  ·rw[cP _ _ e];exact I.num k
 ·by_cases e:k=i
  ·subst e
   rw[dq] at hkj
   have:j=c:=by omega
   subst this
   exact⟨hi,hcn,by omega,kN (I.up_kn huc hk),.step (I.up_far huc) (kr.2 ⟨hu,by omega⟩)⟩
  ·rw[cP _ _ e] at hkj
   obtain⟨a1,a2,a3,a4,a5⟩:=I.ok k j hkj
   exact⟨a1,a2,a3,kN a4,a5⟩
 ·have key:∀(m k a:Nat),pl k<=m->k<n->Kn (setI T i c) k->¬Up (setI T i c) k a->Av adj a k:=by
   intro m
   induction m with
   | zero =>
     intro k a hm hkn _ hna
     have hk0:k=0:=G.inj k 0 hkn G.pos (by rw[G.first];omega)
     subst hk0
     exact⟨fun e=>hna (by rw[e];exact .refl _),.refl _⟩
   | succ m ih =>
     intro k a hm hkn hkk hna
     by_cases e0:k=0
     ·subst e0
      exact⟨fun e=>hna (by rw[e];exact .refl _),.refl _⟩
     ·have hak:a≠k:=fun e=>hna (by rw[e];exact .refl _)
      by_cases e:k=i
      ·subst e
       have hnc:¬Up T c a:=fun h=>hna (.step (dq _ _ _) ((I.up_set (by omega)).2 h))
       have:∃j,j<n/\k∈adj j/\Kn T j/\¬Up T j a:=by
        apply Classical.byContradiction
        intro hno
        refine hnc (h1 a (fun j b1 b2 b3=>?_))
        apply Classical.byContradiction
        intro h'
        exact hno ⟨j,b1,b2,b3,h'⟩
       obtain⟨j,b1,b2,b3,b4⟩:=this
       exact(I.avoid j a b1 b3 b4).step b2 (fun e=>hak e.symm)
      ·obtain⟨j,hj⟩:∃j:Nat,T k=(j:Int):=by
        rcases hkk with h | ⟨j,hj⟩
        ·exact absurd h e0
        ·rw[cP _ _ e] at hj;exact⟨j,hj⟩
       obtain⟨_,b2,b3,b4,b5⟩:=I.ok k j hj
       have hnj:¬Up (setI T i c) j a:=fun h=>hna (.step (by rw[cP _ _ e];exact hj) h)
       by_cases hp:pl a<pl j
       ·exact far_av hp b5 (ih j a (by omega) b2 (kN b4) hnj)
       ·refine I.avoid k a hkn (.inr ⟨j,hj⟩) (fun h=>?_)
        have h2:=h.head_of hj hak
        rcases I.up_pl h2 with e2 | e2
        ·subst e2;exact hnj (.refl _)
        ·exact hp e2
  exact fun k a hkn hkk hna=>key _ k a (Nat.le_refl _) hkn hkk hna
inductive RP (adj:Nat->List Nat) (pl:Nat->Nat) (a:Nat):Nat->Nat->Prop
 | base {s:Nat} (h:0≠a):RP adj pl a s 0
 | on {s u k:Nat} (h:RP adj pl a s u) (hk:k∈adj u) (hn:k≠a) (hp:pl u<pl k):RP adj pl a s k
 | back {s u k:Nat} (h:RP adj pl a s u) (hk:k∈adj u) (hn:k≠a):RP adj pl a (s+1) k
theorem RP.mono{a s k:Nat}(h:RP adj pl a s k):∀s',s<=s'->RP adj pl a s' k:=by
 induction h with
 | base h=>exact fun _ _=>.base h
 | on _ hk hn hp ih=>exact fun s' hs=>.on (ih s' hs) hk hn hp
 | back _ hk hn ih =>
   intro s' hs
   cases s' with
   | zero=>omega
   | succ s'=>exact .back (ih s' (by omega)) hk hn
theorem RP.ne{a s k:Nat}(h:RP adj pl a s k):k≠a:=by
 cases h with
 | base h=>exact h
 | on _ _ hn _=>exact hn
 | back _ _ hn=>exact hn
theorem RP.or{a s k:Nat}(h:RP adj pl a s k)(w:Nat):RP adj pl w s k∨RP adj pl a s w:=by
 induction h with
 | base h =>
   by_cases e:0=w
   ·subst e;exact .inr (.base h)
   ·exact .inl (.base e)
 | @on s u k h hk hn hp ih =>
   by_cases e:k=w
   ·subst e;exact .inr (.on h hk hn hp)
   ·rcases ih with h' | h'
    ·exact .inl (.on h' hk e hp)
    ·exact .inr h'
 | @back s u k h hk hn ih =>
   by_cases e:k=w
   ·subst e;exact .inr (.back h hk hn)
   ·rcases ih with h' | h'
    ·exact .inl (.back h' hk e)
    ·exact .inr (h'.mono _ (Nat.le_succ _))
theorem RP.of_av{a k:Nat}(h:Av adj a k):∃s,RP adj pl a s k :=
 Av.of (P:=fun k=>∃s,RP adj pl a s k) (fun h=>⟨0,.base (fun e=>h e.symm)⟩) (fun u k _ ⟨s,hs⟩ hk hn=>⟨s+1,.back hs hk hn⟩) h
theorem bound(P:Nat->Nat->Prop)(hm:∀k s s',P k s->s<=s'->P k s'):∀n,∃R,∀k,k<n->(∃s,P k s)->P k R:=by
 intro n
 induction n with
 | zero=>exact⟨0,fun k hk=>absurd hk (Nat.not_lt_zero _)⟩
 | succ n ih =>
   obtain⟨R,hR⟩:=ih
   by_cases h:∃s,P n s
   ·obtain⟨s,hs⟩:=h
    refine⟨max R s,fun k hk he=>?_⟩
    by_cases e:k=n
    ·subst e;exact hm _ _ _ hs (Nat.le_max_right _ _)
    ·exact hm _ _ _ (hR k (by omega) he) (Nat.le_max_left _ _)
   ·refine⟨R,fun k hk he=>?_⟩
    by_cases e:k=n
    ·subst e;exact absurd he h
    ·exact hR k (by omega) he
theorem RP.all(adj:Nat->List Nat)(pl:Nat->Nat)(n:Nat):∃R,∀a k,a<n->k<n->Av adj a k->RP adj pl a R k:=by
 obtain⟨R,hR⟩:=bound (fun a s=>∀k,k<n->Av adj a k->RP adj pl a s k) (fun a s s' h hs k hk ha=>(h k hk ha).mono _ hs) n
 refine⟨R,fun a k ha hk h=>hR a ha ?_ k hk h⟩
 obtain⟨S,hS⟩:=bound (fun k s=>RP adj pl a s k) (fun k s s' h hs=>h.mono _ hs) n
 exact⟨S,fun k hk ha=>hS k hk (RP.of_av ha)⟩
def Meet(T:Nat->Int)(l:List Nat)(near:Int):Prop :=
 (near = -1/\∀j∈l,¬Kn T j)∨∃c:Nat,near=(c:Int)/\(∃j∈l,Kn T j)/\(∀j∈l,Kn T j->Up T j c)/\∀z,(∀j∈l,Kn T j->Up T j z)->Up T c z
def Com(T:Nat->Int)(a b c:Nat):Prop:=Up T a c/\Up T b c/\∀z,Up T a z->Up T b z->Up T c z
theorem meet_nil(T:Nat->Int):Meet T [] (-1):=.inl ⟨rfl,fun j hj=>by cases hj⟩
theorem Meet.skip{l:List Nat}{near:Int}{j:Nat}(h:Meet T l near)(hj:¬Kn T j):Meet T (l ++ [j]) near:=by
 rcases h with⟨e,h⟩ | ⟨c,e,⟨x,hx,hk⟩,h1,h2⟩
 ·refine .inl ⟨e,fun x hx=>?_⟩
  rcases List.mem_append.1 hx with h' | h'
  ·exact h x h'
  ·rw[List.mem_singleton.1 h'];exact hj
 ·refine .inr ⟨c,e,⟨x,List.mem_append_left _ hx,hk⟩,fun y hy hky=>?_,fun z hz=>h2 z (fun y hy hky=>hz y (List.mem_append_left _ hy) hky)⟩
  rcases List.mem_append.1 hy with h' | h'
  ·exact h1 y h' hky
  ·rw[List.mem_singleton.1 h'] at hky;exact absurd hky hj
theorem Meet.first{l:List Nat}{j:Nat}(h:Meet T l (-1))(hj:Kn T j):Meet T (l ++ [j]) (j:Int):=by
 rcases h with⟨_,h⟩ | ⟨c,e,_⟩
 ·refine .inr ⟨j,rfl,⟨j,List.mem_append_right _ (List.mem_singleton.2 rfl),hj⟩,fun y hy hky=>?_,fun z hz=>hz j (List.mem_append_right _ (List.mem_singleton.2 rfl)) hj⟩
  rcases List.mem_append.1 hy with h' | h'
  ·exact absurd hky (h y h')
  ·rw[List.mem_singleton.1 h'];exact .refl _
 ·omega
theorem Meet.more{l:List Nat}{a j c:Nat}(h:Meet T l (a:Int))(hj:Kn T j)(hc:Com T a j c):Meet T (l ++ [j]) (c:Int):=by
 rcases h with⟨e,_⟩ | ⟨b,e,⟨x,hx,hk⟩,h1,h2⟩
 ·omega
 ·have:b=a:=by omega
  subst this
  refine .inr ⟨c,rfl,⟨j,List.mem_append_right _ (List.mem_singleton.2 rfl),hj⟩,fun y hy hky=>?_,fun z hz=>?_⟩
  ·rcases List.mem_append.1 hy with h' | h'
   ·exact(h1 y h' hky).trans hc.1
   ·rw[List.mem_singleton.1 h'];exact hc.2.1
  ·exact hc.2.2 z (h2 z (fun y hy hky=>hz y (List.mem_append_left _ hy) hky)) (hz j (List.mem_append_right _ (List.mem_singleton.2 rfl)) hj)
theorem Meet.known{l:List Nat}{a:Nat}(h:Meet T l (a:Int))(I:Inv n adj pl T)(hl:∀j∈l,j<n):a<n/\Kn T a:=by
 rcases h with⟨e,_⟩ | ⟨b,e,⟨x,hx,hk⟩,h1,h2⟩
 ·omega
 ·have:b=a:=by omega
  subst this
  exact⟨I.up_lt (h1 x hx hk) (hl x hx),I.up_kn (h1 x hx hk) hk⟩
def Mid(T:Nat->Int)(a b x y:Nat):Prop:=Up T a x/\Up T b y/\∀z,Up T a z->Up T b z->Up T x z/\Up T y z
theorem mid_new(T:Nat->Int)(a b:Nat):Mid T a b a b:=⟨.refl _,.refl _,fun z h1 h2=>⟨h1,h2⟩⟩
theorem Mid.left{a b x y j:Nat}(h:Mid T a b x y)(I:Inv n adj pl T)(hp:pl y<pl x)(hj:T x=(j:Int)):Mid T a b j y :=
 ⟨h.1.trans (.one hj),h.2.1,fun z h1 h2=>by
  obtain⟨g1,g2⟩:=h.2.2 z h1 h2
  refine⟨g1.head_of hj (fun e=>?_),g2⟩
  subst e
  have:=I.up_le g2;omega⟩
theorem Mid.right{a b x y j:Nat}(h:Mid T a b x y)(I:Inv n adj pl T)(hp:pl x<pl y)(hj:T y=(j:Int)):Mid T a b x j :=
 ⟨h.1,h.2.1.trans (.one hj),fun z h1 h2=>by
  obtain⟨g1,g2⟩:=h.2.2 z h1 h2
  refine⟨g1,g2.head_of hj (fun e=>?_)⟩
  subst e
  have:=I.up_le g1;omega⟩
theorem Mid.com{a b x:Nat}(h:Mid T a b x x):Com T a b x:=⟨h.1,h.2.1,fun z h1 h2=>(h.2.2 z h1 h2).1⟩
structure St (n:Nat) (adj:Nat->List Nat) (pl:Nat->Nat) (r m:Nat) (T:Nat->Int):Prop where
 inv:Inv n adj pl T
 done:∀k,k<n->pl k<m->Kn T k
 all:0<r->∀k,k<n->Kn T k
 lo:∀k,k<n->pl k<m->∀a s,s<=r->RP adj pl a s k->¬Up T k a
 hi:∀k,k<n->m<=pl k->∀a s,s<r->RP adj pl a s k->¬Up T k a
theorem st_first(G:Gr n adj pl)(hT:∀k,T k = -1):St n adj pl 0 1 T:=by
 have hup:∀k a,Up T k a->a=k:=fun k a h=>h.end_ (hT k)
 refine⟨⟨hT 0,fun k _=>hT k,fun k=>.inl (hT k),fun k j h=>?_,fun k a hk hkn hna=>?_⟩,fun k hk hp=>?_,fun h=>absurd h (Nat.lt_irrefl _),fun k hk hp a s hs hr hu=>?_,fun k hk hp a s hs hr hu=>?_⟩
 ·have:=hT k;omega
 ·rcases hkn with rfl | ⟨j,hj⟩
  ·exact⟨fun e=>hna (by rw[e];exact .refl _),.refl _⟩
  ·have:=hT k;omega
 ·exact .inl (G.inj k 0 hk G.pos (by rw[G.first];omega))
 ·exact hr.ne (hup k a hu).symm
 ·exact hr.ne (hup k a hu).symm
theorem St.next(h:St n adj pl r m T)(G:Gr n adj pl)(hm:n<=m):St n adj pl (r+1) 1 T:=by
 refine⟨h.inv,fun k hk hp=>.inl (G.inj k 0 hk G.pos (by rw[G.first];omega)),fun _ k hk=>h.done k hk (by have:=G.plt k hk;omega),fun k hk hp a s hs hr hu=>?_,fun k hk hp a s hs hr=>h.lo k hk (by have:=G.plt k hk;omega) a s (by omega) hr⟩
 have hk0:k=0:=G.inj k 0 hk G.pos (by rw[G.first];omega)
 subst hk0
 exact hr.ne (h.inv.root_up hu).symm
theorem St.meet(h:St n adj pl r m T)(G:Gr n adj pl){i:Nat}(hi:i<n)(h0:i≠0)(hp:pl i=m){l:List Nat}(hl:∀j,j∈l↔j<n/\i∈adj j){near:Int}(hm:Meet T l near) :
 ∃c u:Nat,near=(c:Int)/\u<n/\i∈adj u/\pl u<pl i/\Kn T u/\Up T u c/\(∀j,j<n->i∈adj j->Kn T j->Up T j c)/\∀a,(∀j,j<n->i∈adj j->Kn T j->Up T j a)->Up T c a:=by
 obtain⟨u,hu,hui,hup⟩:=G.ahead i hi h0
 have hk:=h.done u hu (by omega)
 rcases hm with⟨_,hno⟩ | ⟨c,e,_,h1,h2⟩
 ·exact absurd hk (hno u ((hl u).2 ⟨hu,hui⟩))
 ·exact⟨c,u,e,hu,hui,hup,hk,h1 u ((hl u).2 ⟨hu,hui⟩) hk,fun j a1 a2 a3=>h1 j ((hl j).2 ⟨a1,a2⟩) a3,fun a ha=>h2 a (fun j hj hkj=>ha j ((hl j).1 hj).1 ((hl j).1 hj).2 hkj)⟩
theorem St.step(h:St n adj pl r m T)(G:Gr n adj pl){i:Nat}(hi:i<n)(h0:i≠0)(hp:pl i=m){l:List Nat}(hl:∀j,j∈l↔j<n/\i∈adj j){near:Int}(hm:Meet T l near) :
 St n adj pl r (m+1) (setI T i near):=by
 obtain⟨c,u,rfl,hu,hui,hup,hk,huc,h1,h2⟩:=h.meet G hi h0 hp hl hm
 have I:=h.inv
 have I':=I.upd G hi h0 hui hu hup hk huc h2
 have hlo:∀k,k<n->pl k<m+1->∀a s,s<=r->RP adj pl a s k->¬Up (setI T i c) k a:=by
  intro k hkn hkp a s hs hr hua
  by_cases e:k=i
  ·subst e
   have hna:a≠k:=fun e=>hr.ne e.symm
   have hca:Up T c a:=by
    have:=hua.head_of (dq _ _ _) hna
    exact(I.up_set (by have:=I.up_le huc;omega)).1 this
   cases hr with
   | base=>exact h0 rfl
   | @on s u' k' hr' hk' hn' hp' =>
     have hu':u'<n:=by
      cases hr' with
      | base=>exact G.pos
      | on _ hx _ _=>exact G.lt _ _ hx
      | back _ hx _=>exact G.lt _ _ hx
     exact h.lo u' hu' (by omega) a s hs hr' ((h1 u' hu' hk' (h.done u' hu' (by omega))).trans hca)
   | @back s u' k' hr' hk' hn' =>
     have hu':u'<n:=by
      cases hr' with
      | base=>exact G.pos
      | on _ hx _ _=>exact G.lt _ _ hx
      | back _ hx _=>exact G.lt _ _ hx
     have hku:=h.all (by omega) u' hu'
     by_cases hq:pl u'<m
     ·exact h.lo u' hu' hq a s (by omega) hr' ((h1 u' hu' hk' hku).trans hca)
     ·exact h.hi u' hu' (by omega) a s (by omega) hr' ((h1 u' hu' hk' hku).trans hca)
  ·have hpk:pl k<m:=by
    rcases Nat.lt_or_ge (pl k) m with h' | h'
    ·exact h'
    ·exact absurd (G.inj k i hkn hi (by omega)) e
   exact h.lo k hkn hpk a s hs hr ((I.up_set (by omega)).1 hua)
 refine⟨I',fun k hkn hkp=>?_,fun hr k hkn=>kN (h.all hr k hkn),hlo,?_⟩
 ·by_cases e:k=i
  ·subst e;exact .inr ⟨c,dq _ _ _⟩
  ·refine kN (h.done k hkn ?_)
   rcases Nat.lt_or_ge (pl k) m with h' | h'
   ·exact h'
   ·exact absurd (G.inj k i hkn hi (by omega)) e
 ·have key:∀(q k:Nat),pl k<=q->k<n->m+1<=pl k->∀a s,s<r->RP adj pl a s k->¬Up (setI T i c) k a:=by
   intro q
   induction q with
   | zero=>intro k h1 _ h3;omega
   | succ q ih =>
     intro k hq hkn hkp a s hs hr hua
     have e:k≠i:=fun e=>by subst e;omega
     have hna:a≠k:=fun e=>hr.ne e.symm
     rcases hua.head with e' | ⟨j,hj,hja⟩
     ·exact hna e'
     ·have hj':=hj
      rw[cP _ _ e] at hj
      obtain⟨_,b2,b3,b4,b5⟩:=I.ok k j hj
      rcases hr.or j with hw | hw
      ·exact h.hi k hkn (by omega) j s hs hw (.one hj)
      ·rcases Nat.lt_or_ge (pl j) (m+1) with h' | h'
       ·exact hlo j b2 h' a s (by omega) hw hja
       ·exact ih j (by omega) b2 h' a s hs hw hja
  exact fun k hkn hkp a s hs hr=>key _ k (Nat.le_refl _) hkn hkp a s hs hr
structure Fx (n:Nat) (adj:Nat->List Nat) (pl:Nat->Nat) (T0:Nat->Int) (m:Nat) (T:Nat->Int):Prop where
 rest:∀k,k<n->m<=pl k->T k=T0 k
 fix:(∀k,k<n->T k=T0 k)->∀i,i<n->i≠0->pl i<m->∀j,j<n->i∈adj j->Kn T0 j->∃c:Nat,T0 i=(c:Int)/\Up T0 j c
theorem fx_first(G:Gr n adj pl):Fx n adj pl T 1 T :=
 ⟨fun _ _ _=>rfl,fun _ i hi h0 hp=>absurd (G.inj i 0 hi G.pos (by rw[G.first];omega)) h0⟩
theorem Fx.step{T0:Nat->Int}(f:Fx n adj pl T0 m T)(h:St n adj pl r m T)(h00:∀k,n<=k->T0 k = -1)(G:Gr n adj pl){i:Nat}(hi:i<n)(h0:i≠0)(hp:pl i=m){l:List Nat}(hl:∀j,j∈l↔j<n/\i∈adj j){near:Int}(hm:Meet T l near) :
 Fx n adj pl T0 (m+1) (setI T i near):=by
 obtain⟨c,u,rfl,hu,hui,hup,hk,huc,h1,h2⟩:=h.meet G hi h0 hp hl hm
 refine⟨fun k hkn hkp=>by rw[cP _ _ (fun e=>by subst e;omega)];exact f.rest k hkn (by omega),fun he i' hi' h0' hp' j hj hij hkj=>?_⟩
 have hTT:T=T0:=by
  funext k
  by_cases hkn:k<n
  ·by_cases e:k=i
   ·subst e;exact f.rest k hkn (by omega)
   ·have:=he k hkn;rwa [cP _ _ e] at this
  ·rw[h.inv.out k (by omega),h00 k (by omega)]
 by_cases e:i'=i
 ·subst e
  have h3:=he i' hi'
  rw[dq] at h3
  exact⟨c,h3.symm,by subst hTT;exact h1 j hj hij hkj⟩
 ·refine f.fix (fun k _=>by rw[hTT]) i' hi' h0' ?_ j hj hij hkj
  rcases Nat.lt_or_ge (pl i') m with h' | h'
  ·exact h'
  ·exact absurd (G.inj i' i hi' hi (by omega)) e
structure Fin (n:Nat) (adj:Nat->List Nat) (pl:Nat->Nat) (T:Nat->Int):Prop where
 inv:Inv n adj pl T
 all:∀k,k<n->Kn T k
 dom:∀k a,k<n->(Up T k a↔¬Av adj a k)
theorem fin_of(I:Inv n adj pl T)(ha:∀k,k<n->Kn T k)(h:∀k a,k<n->a<n->Av adj a k->¬Up T k a):Fin n adj pl T :=
 ⟨I,ha,fun k a hk=>⟨fun hu hav=>h k a hk (I.up_lt hu hk) hav hu,fun hn=>Classical.byContradiction fun hu=>hn (I.avoid k a hk (ha k hk) hu)⟩⟩
theorem St.fin_fix(h:St n adj pl r m T)(G:Gr n adj pl)(hm:n<=m)(f:Fx n adj pl T m T):Fin n adj pl T:=by
 have hall:∀k,k<n->Kn T k:=fun k hk=>h.done k hk (by have:=G.plt k hk;omega)
 refine fin_of h.inv hall (fun k a hk _ hav=>?_)
 have:k<n/\¬Up T k a:=by
  refine Av.of (P:=fun k=>k<n/\¬Up T k a) (fun h0=>⟨G.pos,fun hu=>h0 (h.inv.root_up hu)⟩) (fun u k _ ⟨hu,hnu⟩ hk hn=>?_) hav
  have hkn:=G.lt u k hk
  refine⟨hkn,fun hka=>?_⟩
  by_cases e0:k=0
  ·subst e0;exact hn (h.inv.root_up hka).symm
  ·obtain⟨c,hc,huc⟩:=f.fix (fun _ _=>rfl) k hkn e0 (by have:=G.plt k hkn;omega) u hu hk (hall u hu)
   exact hnu (huc.trans (hka.head_of hc (fun e=>hn e.symm)))
 exact this.2
theorem St.fin_far(h:St n adj pl r 1 T)(G:Gr n adj pl){R:Nat}(hR:∀a k,a<n->k<n->Av adj a k->RP adj pl a R k)(hr:R<r):Fin n adj pl T:=by
 refine fin_of h.inv (h.all (by omega)) (fun k a hk ha hav hu=>?_)
 rcases Nat.lt_or_ge (pl k) 1 with h' | h'
 ·exact h.lo k hk h' a R (by omega) (hR a k ha hk hav) hu
 ·exact h.hi k hk h' a R hr (hR a k ha hk hav) hu
theorem Fin.same{T':Nat->Int}(F:Fin n adj pl T)(F':Fin n adj pl T'):T=T':=by
 funext k
 by_cases hkn:k<n
 ·rcases F.all k hkn with rfl | ⟨j,hj⟩
  ·rw[F.inv.root,F'.inv.root]
  ·rcases F'.all k hkn with rfl | ⟨j',hj'⟩
   ·rw[F.inv.root,F'.inv.root]
   ·have n1:j≠k:=fun e=>by have:=(F.inv.ok k j hj).2.2.1;subst e;omega
    have n2:j'≠k:=fun e=>by have:=(F'.inv.ok k j' hj').2.2.1;subst e;omega
    have u1:Up T' k j:=(F'.dom k j hkn).2 ((F.dom k j hkn).1 (.one hj))
    have u2:Up T k j':=(F.dom k j' hkn).2 ((F'.dom k j' hkn).1 (.one hj'))
    have u3:=u1.head_of hj' n1
    have u4:=u2.head_of hj n2
    have e1:=F'.inv.up_le u3
    have e2:=F.inv.up_le u4
    rcases F.inv.up_pl u4 with e | e
    ·rw[hj,hj',e]
    ·omega
 ·rw[F.inv.out k (by omega),F'.inv.out k (by omega)]
end
end
section
open GG
def Par(adj:Nat->List Nat)(fr:Nat->Prop)(new:List Nat):Prop:=∀p x q,new=p ++ x :: q->fr x∨∃y∈q,x∈adj y
theorem par_app{adj:Nat->List Nat}{fr:Nat->Prop}{a b:List Nat}(h:Par adj fr a)(g:Par adj fr b):Par adj fr (a ++ b):=by
 intro p x q e
 rcases dO e with⟨q',h1⟩ | ⟨p',rfl,h2⟩
 ·rcases h p x q' h1 with k | ⟨y,hy,k⟩
  ·exact .inl k
  ·refine .inr ⟨y,?_,k⟩
   subst h1
   have e':p ++ x :: (q' ++ b)=p ++ x :: q:=by rw[<-e];simp
   have:=List.append_cancel_left e'
   simp at this
   rw[<-this];exact List.mem_append_left _ hy
 ·exact g p' x q h2
theorem oZ{adj:Nat->List Nat}{fr fr':Nat->Prop}{a:List Nat}(h:Par adj fr a)(hf:∀x,fr x->fr' x):Par adj fr' a :=
 fun p x q e=>(h p x q e).imp (hf x) id
theorem par_fold{adj:Nat->List Nat}{f:Nat}(ih:∀(i:Nat) (s:GG.St),∃new,(dfs adj f i s).2=s.2 ++ new/\Par adj (· = i) new)(l:List Nat) :
 ∀(s:GG.St),∃new,(l.foldl (fun s j=>dfs adj f j s) s).2=s.2 ++ new/\Par adj (·∈l) new:=by
 induction l with
 | nil=>intro s;exact⟨[],by simp,fun p x q e=>by simp at e⟩
 | cons j l ihl =>
   intro s
   obtain⟨a,ha,hpa⟩:=ih j s
   obtain⟨b,hb,hpb⟩:=ihl (dfs adj f j s)
   exact⟨a ++ b,by rw[List.foldl_cons,hb,ha,List.append_assoc],par_app (oZ hpa (fun x e=>by rw[e];exact List.mem_cons_self)) (oZ hpb (fun x e=>List.mem_cons_of_mem _ e))⟩
theorem par_dfs{adj:Nat->List Nat}(f:Nat):∀(i:Nat) (s:GG.St),∃new,(dfs adj f i s).2=s.2 ++ new/\Par adj (· = i) new:=by
 induction f with
 | zero=>intro i s;exact⟨[],by unfold dfs;simp,fun p x q e=>by simp at e⟩
 | succ f ih =>
   intro i s
   unfold dfs
   by_cases hB:s.1 i=true
   ·rw[if_pos hB];exact⟨[],by simp,fun p x q e=>by simp at e⟩
   ·rw[if_neg hB]
    obtain⟨a,ha,hpa⟩:=par_fold ih (adj i) (setB s.1 i,s.2)
    refine⟨a ++ [i],by show _ ++ [i]=_;rw[ha,List.append_assoc],fun p x q e=>?_⟩
    rcases dO e with⟨q',h1⟩ | ⟨p',rfl,h2⟩
    ·have hq:q=q' ++ [i]:=by
      subst h1
      have e':p ++ x :: (q' ++ [i])=p ++ x :: q:=by rw[<-e];simp
      have:=List.append_cancel_left e'
      simp at this
      exact this.symm
     rcases hpa p x q' h1 with k | ⟨y,hy,k⟩
     ·exact .inr ⟨i,by rw[hq];simp,k⟩
     ·exact .inr ⟨y,by rw[hq];exact List.mem_append_left _ hy,k⟩
    ·cases p' with
     | nil=>simp at h2;exact .inl h2.1.symm
     | cons z p'=>simp at h2
def plOf(to:List (List Int))(x:Nat):Nat:=(br to).idxOf (x:Int)
def allB(to:List (List Int)):Bool:=(List.range to.length).all (reachB to (-1) 0)
theorem all_at{to:List (List Int)}(h:allB to=true){x:Nat}(hx:x<to.length):reachB to (-1) 0 x=true:=List.all_eq_true.1 h x (List.mem_range.2 hx)
theorem gV{to:List (List Int)}(h:am to=true)(ha:allB to=true){x:Nat}:(x:Int)∈br to↔x<to.length:=by
 rw[gR h]
 constructor
 ·rintro ⟨_,h2,_⟩;omega
 ·intro hx;exact⟨by omega,by omega,by rw[Int.toNat_natCast];exact all_at ha hx⟩
theorem gW{to:List (List Int)}(h:am to=true)(ha:allB to=true):(br to).length=to.length:=by
 have h1:((List.range to.length).map Int.ofNat).Nodup:=by
  rw[List.nodup_iff_pairwise_ne,List.pairwise_map]
  exact(List.nodup_iff_pairwise_ne.1 List.nodup_range).imp (fun h e=>h (Int.ofNat.inj e))
 have:=same_len h1 (eO h) (fun x=>by
  rw[gR h,List.mem_map]
  constructor
  ·rintro ⟨y,hy,rfl⟩
   have:=List.mem_range.1 hy
   exact⟨Int.natCast_nonneg _,by show (y:Int)<_;omega,by show reachB to (-1) 0 (y:Int).toNat=true;rw[Int.toNat_natCast];exact all_at ha this⟩
  ·rintro ⟨h1,h2,h3⟩
   exact⟨x.toNat,List.mem_range.2 (by omega),by show ((x.toNat:Nat):Int)=x;omega⟩)
 rw[List.length_map,List.length_range] at this
 exact this.symm
theorem pl_at{to:List (List Int)}(h:am to=true)(ha:allB to=true){x:Nat}(hx:x<to.length):∃h':plOf to x<(br to).length,(br to)[plOf to x]=(x:Int):=by
 have hm:=(gV h ha).2 hx
 exact⟨List.idxOf_lt_length_of_mem hm,List.getElem_idxOf (List.idxOf_lt_length_of_mem hm)⟩
theorem at_pl{to:List (List Int)}(h:am to=true)(ha:allB to=true){q:Nat}(hq:q<to.length):∃x:Nat,x<to.length/\(br to)[q]?.getD 0=(x:Int)/\plOf to x=q:=by
 have hl:=gW h ha
 have hq':q<(br to).length:=by omega
 rw[List.getElem?_eq_getElem hq',Option.getD_some]
 have hm:=List.getElem_mem hq'
 obtain⟨h1,h2,h3⟩:=(gR h _).1 hm
 refine⟨((br to)[q]).toNat,by omega,by omega,?_⟩
 unfold plOf
 rw[Int.toNat_of_nonneg h1]
 have hi:=List.idxOf_lt_length_of_mem hm
 have e:=List.getElem_idxOf hi
 exact(List.getElem_inj (h₀:=hi) (h₁:=hq') (eO h)).1 e
theorem pl_ahead{to:List (List Int)}(h:am to=true)(ha:allB to=true){k:Nat}(hk:k<to.length)(h0:k≠0):∃u,u<to.length/\k∈an to u/\plOf to u<plOf to k:=by
 obtain⟨new,hn,hp⟩:=par_dfs (adj:=an to) 257 0 ((fun _=>false),[])
 have hor:br to=new.reverse.map Int.ofNat:=by
  unfold br runG runF
  show ((dfs (an to) 257 0 ((fun _=>false),[])).2.reverse).map Int.ofNat=_
  rw[hn];simp
 have hkm:=(gV h ha).2 hk
 rw[hor] at hkm
 obtain⟨k',hk',e⟩:=List.mem_map.1 hkm
 have:k'=k:=Int.ofNat.inj e
 subst this
 obtain⟨p,q,e1⟩:=List.append_of_mem (List.mem_reverse.1 hk')
 rcases hp p k' q e1 with e2 | ⟨y,hy,hyk⟩
 ·exact absurd e2 h0
 ·have hnd:=eO h
  have e3:br to=(q.reverse.map Int.ofNat) ++ ((k':Int) :: p.reverse.map Int.ofNat):=by
   rw[hor,e1];simp
  rw[e3] at hnd
  have hnk:(k':Int) ∉ q.reverse.map Int.ofNat:=fun hm=>((List.nodup_append.1 hnd).2.2 _ hm _ List.mem_cons_self) rfl
  have hym:(y:Int)∈q.reverse.map Int.ofNat:=List.mem_map.2 ⟨y,List.mem_reverse.2 hy,rfl⟩
  refine⟨y,(gV h ha).1 (by rw[e3];exact List.mem_append_left _ hym),hyk,?_⟩
  unfold plOf
  rw[e3,List.idxOf_append,if_pos hym,List.idxOf_append,if_neg hnk,List.idxOf_cons_self]
  have:=List.idxOf_lt_length_of_mem hym
  omega
theorem gr_of{to:List (List Int)}(h:am to=true)(ha:allB to=true):Gr to.length (an to) (plOf to):=by
 refine⟨(aB h).1,eZ h,?_,fun x y hx hy e=>?_,fun x hx=>?_,fun k hk h0=>pl_ahead h ha hk h0⟩
 ·obtain⟨l,e⟩:=qw (to:=to)
  unfold plOf
  rw[e];exact List.idxOf_cons_self
 ·obtain⟨h1,e1⟩:=pl_at h ha hx
  obtain⟨h2,e2⟩:=pl_at h ha hy
  have:(br to)[plOf to x]=(br to)[plOf to y]:=by congr 1
  rw[e1,e2] at this
  exact Int.ofNat.inj this
 ·have:=(pl_at h ha hx).1
  rw[gW h ha] at this
  exact this
def ovB(to:List (List Int))(a b:Nat):Bool:=decide (a=b) || !(decide (a≠0) && reachB to a 0 b)
theorem adjN_cut(to:List (List Int))(a:Nat):adjN to (a:Int)=cut (an to) a:=by
 funext x
 unfold adjN cut
 exact List.filter_congr fun j _=>by
  by_cases e:j=a
  ·subst e;simp
  ·have:(j:Int)≠(a:Int):=by omega
   simp [e,this]
theorem av_iff{to:List (List Int)}(h:am to=true)(a k:Nat):Av (an to) a k↔(decide (a≠0) && reachB to a 0 k)=true:=by
 have:=aB h
 rw[Bool.and_eq_true,decide_eq_true_eq,bW h (by omega),adjN_cut]
 rfl
theorem ov_iff{to:List (List Int)}(h:am to=true)(a k:Nat):ovB to a k=true↔¬Av (an to) a k:=by
 unfold ovB
 rw[Bool.or_eq_true,decide_eq_true_eq]
 constructor
 ·rintro (e | e) hav
  ·exact hav.ne e.symm
  ·rw[(av_iff h a k).1 hav] at e;cases e
 ·intro hn
  right
  cases e:(decide (a≠0) && reachB to a 0 k)
  ·rfl
  ·exact absurd ((av_iff h a k).2 e) hn
def isB(to:List (List Int))(b a:Nat):Bool:=(decide (a≠b) && ovB to a b) && (List.range to.length).all fun k=>decide (k=b) || !ovB to k b || ovB to k a
def mr(p:Nat->Bool):Nat->Int
 | 0=>-1
 | n+1=>if p n=true then (n:Int) else mr p n
theorem kO{p:Nat->Bool}:∀ {n:Nat},(∀a,a<n->p a=false)->mr p n = -1
 | 0,_=>rfl
 | n+1,h=>by unfold mr;rw[if_neg (by rw[h n (by omega)];simp)];exact kO (fun a ha=>h a (by omega))
theorem ms{p:Nat->Bool}{j:Nat}:∀ {n:Nat},j<n->p j=true->(∀a,a<n->p a=true->a=j)->mr p n=(j:Int)
 | 0,hj,_,_=>by omega
 | n+1,hj,h,hu=>by
   unfold mr
   by_cases e:p n=true
   ·rw[if_pos e,hu n (by omega) e]
   ·rw[if_neg e]
    have:j≠n:=fun e'=>by subst e';exact e h
    exact ms (by omega) h (fun a ha=>hu a (by omega))
def domI(to:List (List Int))(b:Nat):Int:=mr (isB to b) to.length
theorem fin_at{to:List (List Int)}(h:am to=true){T:Nat->Int}(F:Fin to.length (an to) (plOf to) T){b:Nat}(hb:b<to.length):T b=domI to b:=by
 have ov:∀a k,k<to.length->(ovB to a k=true↔Up T k a):=fun a k hk=>(ov_iff h a k).trans (F.dom k a hk).symm
 rcases F.all b hb with rfl | ⟨j,hj⟩
 ·rw[F.inv.root]
  unfold domI
  rw[kO fun a ha=>?_]
  unfold isB
  rw[Bool.and_eq_false_iff];left
  rw[Bool.and_eq_false_iff]
  by_cases e:a=0
  ·left;simp [e]
  ·right
   cases hc:ovB to a 0
   ·rfl
   ·exact absurd (F.inv.root_up ((ov a 0 hb).1 hc)) e
 ·obtain⟨_,hjn,hjp,hjk,_⟩:=F.inv.ok b j hj
  have hjb:j≠b:=fun e=>by subst e;omega
  rw[hj]
  unfold domI
  refine(ms hjn ?_ ?_).symm
  ·unfold isB
   rw[Bool.and_eq_true,Bool.and_eq_true,decide_eq_true_eq]
   refine⟨⟨hjb,(ov j b hb).2 (.one hj)⟩,List.all_eq_true.2 fun k hk=>?_⟩
   have hkn:=List.mem_range.1 hk
   rw[Bool.or_eq_true,Bool.or_eq_true,decide_eq_true_eq]
   by_cases e:k=b
   ·exact .inl (.inl e)
   ·cases hc:ovB to k b
    ·exact .inl (.inr rfl)
    ·exact .inr ((ov k j hjn).2 (((ov k b hb).1 hc).head_of hj e))
  ·intro a ha hia
   unfold isB at hia
   rw[Bool.and_eq_true,Bool.and_eq_true,decide_eq_true_eq] at hia
   obtain⟨⟨hab,hov⟩,hall⟩:=hia
   have u1:=((ov a b hb).1 hov).head_of hj hab
   have h3:=List.all_eq_true.1 hall j (List.mem_range.2 hjn)
   rw[Bool.or_eq_true,Bool.or_eq_true,decide_eq_true_eq,(ov j b hb).2 (.one hj)] at h3
   have u2:Up T a j:=by
    rcases h3 with(h3 | h3) | h3
    ·exact absurd h3 hjb
    ·cases h3
    ·exact(ov j a ha).1 h3
   exact(F.inv.anti u1 u2)
def domsL(to:List (List Int)):List Int:=(List.range to.length).map (domI to)
def bU(to:List (List Int)):List Int:=if am to=true/\allB to=true then domsL to else []
theorem pd{to:List (List Int)}(h:am to=true)(ha:allB to=true){T:Nat->Int}(F:Fin to.length (an to) (plOf to) T):(List.range to.length).map T=bU to:=by
 unfold bU domsL
 rw[if_pos ⟨h,ha⟩]
 exact List.map_congr_left fun b hb=>fin_at h F (List.mem_range.1 hb)
def preds(to:List (List Int))(i:Nat):List Nat:=(bZ to i to.length).map Int.toNat
theorem mem_preds{to:List (List Int)}(h:am to=true){i:Nat}(hi:i<to.length)(j:Nat):j∈preds to i↔j<to.length/\i∈an to j:=by
 unfold preds
 rw[List.mem_map]
 constructor
 ·rintro ⟨x,hx,rfl⟩
  obtain⟨k,rfl,hk,hm⟩:=di.1 hx
  exact⟨by omega,by rw[Int.toNat_natCast];exact(iU h hk i).2 hm⟩
 ·rintro ⟨hj,hm⟩
  exact⟨(j:Int),di.2 ⟨j,rfl,hj,(iU h hj i).1 hm⟩,by simp⟩
end
end Go.Proofs.YtjngffgkllakaaaGreatDoor.DD
namespace Go.Proofs.YtjngffgkllakaaaGreatDoor
open List renaming getElem_toArray → zA, getElem_cons_succ → zB, getElem_cons_zero → zC, setIfInBounds_toArray → zD, set_cons_zero → zE, set_cons_succ → zF
open Lib renaming hid → zH
section
open Go.RowKit
def Rd(W:World)(b off n:Nat)(f:Nat->Int):Prop:=∀i,i<n->W.cell? ⟨b,off+i,none⟩=some (.int .i64 (f i))
theorem Rd.drewN{W:World}{b off n:Nat}{f:Nat->Int}(h:Rd W b off n f)(d:Nat):Rd (W.drewN d) b off n f:=h
set_option maxHeartbeats 1600000 in
theorem kP{adj:Nat->List Nat}{pl:Nat->Nat}{T:Nat->Int}{n:Nat}(tb so tc pb po pc a b:Nat)(w:World)(HT:Rd w tb so n T)(HP:Rd w pb po n (fun i=>(pl i:Int)))(I:DD.Inv n adj pl T)(G:DD.Gr n adj pl)(hn:n<=256)(ha:a<n)(hb:b<n)(ka:DD.Kn T a)(kb:DD.Kn T b) :
 Calls Tryz.prog 189 #[.slice (some ⟨tb,so,none⟩) n tc,.slice (some ⟨pb,po,none⟩) n pc,.int .i64 a,.int .i64 b] w fun e w'=>(∃c:Nat,e=.returned (.int .i64 c)/\DD.Com T a b c)/\∃d,w'=w.drewN d:=by
 have HTT:=zH HT
 have HPP:=zH HP
 have HI:=zH I
 have HG:=zH G
 have HA:=zH ka
 have HB:=zH kb
 have i1:(0:Int)<=a/\(a:Int)<n:=by omega
 clear HT HP I G ka kb
 go_enter Tryz.func189,Tryz.ntmps189
 go_wp2_with fail
 go_loopw [2,3] (fun s t wr=>∃(x y d:Nat),s=.int .i64 (x:Int)/\t=.int .i64 (y:Int)/\x<n/\y<n/\wr=w.drewN d/\RowKit.Hid (DD.Mid T a b x y)) (fun s t _=>pl (intOf s).toNat+pl (intOf t).toNat)
 case atStart=>exact⟨a,b,0,rfl,rfl,ha,hb,rfl,zH (DD.mid_new T a b)⟩
 case round =>
  obtain⟨x,y,d,rfl,rfl,hx,hy,rfl,HM⟩:=hrel
  by_cases hxy:x=y
  ·subst hxy
   have hne:((x:Int) != (x:Int))=false:=bne_self_eq_false _
   go_wp2_with fail
   go_ret
   exact⟨⟨x,rfl,HM.out.com⟩,d,rfl⟩
  ·have hne:((x:Int) != (y:Int))=true:=by rw[bne_iff_ne];omega
   have hpx:=HPP.out x hx
   have hpy:=HPP.out y hy
   have htx:=HTT.out x hx
   have hty:=HTT.out y hy
   have hpne:pl x≠pl y:=fun e=>hxy (HG.out.inj x y hx hy e)
   have i2:(0:Int)<=x/\(x:Int)<n:=by omega
   have i3:(0:Int)<=y/\(y:Int)<n:=by omega
   by_cases hp:pl y<pl x
   ·have hx0:x≠0:=fun e=>by rw[e,HG.out.first] at hp;omega
    obtain⟨j,hj⟩:∃j:Nat,T x=(j:Int):=by
     rcases HI.out.up_kn HM.out.1 HA.out with h | h
     ·exact absurd h hx0
     ·exact h
    obtain⟨_,hjn,hjp,_⟩:=HI.out.ok x j hj
    rw[hj] at htx
    have HN:=zH (HM.out.left HI.out hp hj)
    have hg:decide ((pl y:Int)<(pl x:Int))=true:=decide_eq_true (by omega)
    have HP2:=zH (show pl j+pl y<pl x+pl y by omega)
    clear hpne hxy hj hjp hty hx0
    go_wp2_with fail
    go_quiet (fail)
    go_wp2_with fail
    go_roundw
    case rel=>exact⟨j,y,_,rfl,rfl,hjn,hy,(by first | rfl | exact World.drewN_drewN _ _ _),HN⟩
    case measure=>have:=HP2.out;simp [intOf];omega
   ·have hp':pl x<pl y:=by omega
    have hy0:y≠0:=fun e=>by rw[e,HG.out.first] at hp';omega
    obtain⟨j,hj⟩:∃j:Nat,T y=(j:Int):=by
     rcases HI.out.up_kn HM.out.2.1 HB.out with h | h
     ·exact absurd h hy0
     ·exact h
    obtain⟨_,hjn,hjp,_⟩:=HI.out.ok y j hj
    rw[hj] at hty
    have HN:=zH (HM.out.right HI.out hp' hj)
    have hg:decide ((pl y:Int)<(pl x:Int))=false:=decide_eq_false (by omega)
    have HP2:=zH (show pl x+pl j<pl x+pl y by omega)
    clear hp' hpne hxy hj hjp htx hy0
    go_wp2_with fail
    go_quiet (fail)
    go_wp2_with fail
    go_roundw
    case rel=>exact⟨x,j,_,rfl,rfl,hx,hjn,(by first | rfl | exact World.drewN_drewN _ _ _),HN⟩
    case measure=>have:=HP2.out;simp [intOf];omega
def fe(l:List Int):List Nat:=l.map Int.toNat
set_option maxHeartbeats 1600000 in
theorem qL{adj:Nat->List Nat}{pl:Nat->Nat}{T:Nat->Int}{n:Nat}(tb so tc pb po pc:Nat)(fa:Option Addr)(fc:Nat)(l:List Int)(w:World)(HT:Rd w tb so n T)(HP:Rd w pb po n (fun i=>(pl i:Int)))(HF:Row w.heap.size w (.slice fa l.length fc) l)(I:DD.Inv n adj pl T)(G:DD.Gr n adj pl)(hn:n<=256)(hll:l.length<=256)(hl:∀x∈l,0<=x/\x<n) :
 Calls Tryz.prog 148 #[.slice (some ⟨tb,so,none⟩) n tc,.slice (some ⟨pb,po,none⟩) n pc,.slice fa l.length fc] w fun e w'=>(∃c:Int,e=.returned (.int .i64 c)/\DD.Meet T (fe l) c)/\∃d,w'=w.drewN d:=by
 have HTT:=zH HT
 have HPP:=zH HP
 have HFF:=zH HF
 have HI:=zH I
 have HG:=zH G
 have HL:=zH hl
 clear HT HP HF I G hl
 go_enter Tryz.func148,Tryz.ntmps148
 go_wp2_with fail
 go_loopw [7,12] (fun s k wr=>∃(q d:Nat) (v:Int),q<=l.length/\s=.int .i64 v/\k=.int .i64 (q:Int)/\wr=w.drewN d/\RowKit.Hid (DD.Meet T (fe (l.take q)) v)) (fun _ k _=>l.length-(intOf k).toNat)
 case atStart=>exact⟨0,0,-1,Nat.zero_le _,rfl,rfl,rfl,zH (DD.meet_nil T)⟩
 case round =>
  obtain⟨q,d,v,hq,rfl,rfl,rfl,HM⟩:=hrel
  by_cases hqt:q<l.length
  ·obtain⟨fb,fo,rfl,hc⟩:=(HFF.out.drewN d).cellAt hqt
   have i1:(0:Int)<=q/\(q:Int)<l.length:=by omega
   have hx:=HL.out _ (GG.bB (d:=(0:Int)) hqt)
   have HTK:=zH (show fe (l.take (q+1))=fe (l.take q) ++ [(l[q]?.getD 0).toNat] by
    unfold fe
    rw[List.take_succ_eq_append_getElem hqt,List.map_append,List.getElem?_eq_getElem hqt];rfl)
   obtain⟨x,ex⟩:∃x,x=l[q]?.getD 0:=⟨_,rfl⟩
   rw[<-ex] at hc hx HTK
   clear ex
   obtain⟨y,rfl⟩:∃y:Nat,x=(y:Int):=⟨x.toNat,by omega⟩
   rw[Int.toNat_natCast] at HTK
   have hyn:y<n:=by omega
   have i2:(0:Int)<=y/\(y:Int)<n:=by omega
   have hty:=(HTT.out.drewN d) y hyn
   clear hx
   by_cases hky:DD.Kn T y
   ·have HK:=zH hky
    have hb:(decide (y≠0) && (T y == -1))=false:=by
     rcases hky with rfl | ⟨j,hj⟩
     ·rfl
     ·have:(T y == -1)=false:=beq_eq_false_iff_ne.2 (by omega)
      rw[this,Bool.and_false]
    by_cases hv:v = -1
    ·subst hv
     have HN:=zH (show DD.Meet T (fe (l.take (q+1))) (y:Int) by rw[HTK.out];exact HM.out.first HK.out)
     clear hky
     by_cases h0:y=0
     ·subst h0
      clear hb
      go_wp2_with fail
      go_roundw
      case rel=>exact⟨q+1,_,_,by omega,rfl,by go_num,rfl,HN⟩
      case measure=>simp [intOf];omega
     ·have h0':((y:Int) != 0)=true:=by rw[bne_iff_ne];omega
      have h1:(T y == -1)=false:=by rw[decide_eq_true h0,Bool.true_and] at hb;exact hb
      clear hb
      go_wp2_with fail
      go_roundw
      case rel=>exact⟨q+1,_,_,by omega,rfl,by go_num,rfl,HN⟩
      case measure=>simp [intOf];omega
    ·obtain⟨c,rfl⟩:∃c:Nat,v=(c:Int):=by
      rcases HM.out with⟨e,_⟩ | ⟨c,e,_⟩
      ·exact absurd e hv
      ·exact⟨c,e⟩
     have hck:=HM.out.known HI.out (fun j hj=>by
      obtain⟨x,hx,rfl⟩:=List.mem_map.1 hj
      have:=HL.out x (List.mem_of_mem_take hx);omega)
     have HCK:=zH hck
     have hv':((c:Int) == -1)=false:=beq_eq_false_iff_ne.2 hv
     have HCM:=zH (fun(e:Nat) (he:DD.Com T c y e)=>(show DD.Meet T (fe (l.take (q+1))) (e:Int) by rw[HTK.out];exact HM.out.more HK.out he))
     clear hky hck hv
     by_cases h0:y=0
     ·subst h0
      clear hb
      go_wp2_with (go_at_call 189;refine(kP tb so tc pb po pc c 0 _ (HTT.out.drewN _) (HPP.out.drewN _) HI.out HG.out hn HCK.out.1 hyn HCK.out.2 HK.out).mono ?_;rintro e w' ⟨⟨c',rfl,hcm⟩,d',rfl⟩;have HN:=zH (HCM.out c' hcm);clear hcm)
      go_roundw
      case rel=>exact⟨q+1,_,_,by omega,rfl,by go_num,(by first | rfl | exact World.drewN_drewN _ _ _),HN⟩
      case measure=>simp [intOf];omega
     ·have h0':((y:Int) != 0)=true:=by rw[bne_iff_ne];omega
      have h1:(T y == -1)=false:=by rw[decide_eq_true h0,Bool.true_and] at hb;exact hb
      clear hb
      go_wp2_with (go_at_call 189;refine(kP tb so tc pb po pc c y _ (HTT.out.drewN _) (HPP.out.drewN _) HI.out HG.out hn HCK.out.1 hyn HCK.out.2 HK.out).mono ?_;rintro e w' ⟨⟨c',rfl,hcm⟩,d',rfl⟩;have HN:=zH (HCM.out c' hcm);clear hcm)
      go_roundw
      case rel=>exact⟨q+1,_,_,by omega,rfl,by go_num,(by first | rfl | exact World.drewN_drewN _ _ _),HN⟩
      case measure=>simp [intOf];omega
   ·have HN:=zH (show DD.Meet T (fe (l.take (q+1))) v by rw[HTK.out];exact HM.out.skip hky)
    have h0:((y:Int) != 0)=true:=by rw[bne_iff_ne];exact fun e=>hky (.inl (by omega))
    have h1:(T y == -1)=true:=by
     rw[beq_iff_eq]
     rcases HI.out.num y with e | e
     ·exact e
     ·exact absurd (.inr e) hky
    clear hky
    go_wp2_with fail
    go_roundw
    case rel=>exact⟨q+1,_,_,by omega,rfl,by go_num,rfl,HN⟩
    case measure=>simp [intOf];omega
  ·have HN:=zH (show DD.Meet T (fe l) v by have h:=HM.out;rwa [List.take_of_length_le (by omega)] at h)
   go_wp2_with fail
   go_ret
   exact⟨⟨v,rfl,HN.out⟩,d,rfl⟩
end
section
open Go.RowKit
def bH(W:World)(g n:Nat)(f:Nat->Int):Prop:=W.rowIs g 3 n (fun i=>.int .i64 (f i))
theorem bH.set{W:World}{g n:Nat}{f:Nat->Int}(h:bH W g n f)(i:Nat)(c:Int):bH (W.setCell ⟨g,i,none⟩ (.int .i64 c)) g n (DD.setI f i c):=by
 refine World.rowIs.congr (World.rowIs.set h i (.int .i64 c)) (fun j _=>?_)
 unfold DD.setI
 by_cases e:j=i <;> simp [e]
theorem bH.congr{W:World}{g n:Nat}{f f':Nat->Int}(h:bH W g n f)(e:∀i,i<n->f i=f' i):bH W g n f':=World.rowIs.congr h (fun i hi=>by rw[e i hi])
theorem bH.rd{W:World}{g n:Nat}{f:Nat->Int}(h:bH W g n f):Rd W g 0 n f:=fun i hi=>by rw[Nat.zero_add];exact World.rowIs.cell h hi
theorem bH.below{W W':World}{g n B:Nat}{f:Nat->Int}(h:bH W g n f)(hb:Below B W W')(hg:g<B):bH W' g n f:=World.rowIs.of_block h (hb.block g hg)
theorem bH.row{W:World}{g n:Nat}{f:Nat->Int}(h:bH W g n f):Row W.heap.size W (.slice (some ⟨g,0,none⟩) n n) ((List.range n).map f):=by
 refine .inr ⟨g,0,n,by rw[aC];simp,World.rowIs.lt h,by rw[aC];simp,fun j u hj=>?_⟩
 have hjn:j<n:=by
  have:=(List.getElem?_eq_some_iff.1 hj).1
  rw[aC] at this;simpa using this
 unfold ao at hj
 rw[List.getElem?_map,List.getElem?_map,List.getElem?_range hjn] at hj
 rw[Nat.zero_add,World.rowIs.cell h hjn]
 exact hj
def plA(l:List Int)(m x:Nat):Int:=if GG.atI l m x<0 then 0 else GG.atI l m x
theorem plA_zero(l:List Int)(x:Nat):0=plA l 0 x:=by unfold plA;rw[GG.atI_zero];rfl
theorem plA_succ{l:List Int}(hn:l.Nodup){m:Nat}(hm:m<l.length)(hp:0<=l[m]?.getD 0)(x:Nat):DD.setI (plA l m) (l[m]?.getD 0).toNat (m:Int) x=plA l (m+1) x:=by
 unfold DD.setI plA
 rw[GG.atI_succ hn hm hp]
 by_cases e:x=(l[m]?.getD 0).toNat
 ·rw[if_pos e,if_pos e,if_neg (by omega)]
 ·rw[if_neg e,if_neg e]
theorem plA_all{l:List Int}{m x:Nat}(hm:l.length<=m)(hx:(x:Int)∈l):plA l m x=(l.idxOf (x:Int):Int):=by
 unfold plA GG.atI
 rw[List.take_of_length_le hm,if_pos hx,if_neg (by omega)]
set_option maxHeartbeats 1600000 in
theorem qM(la:Option Addr)(lc:Nat)(l:List Int)(w:World)(HF:Row w.heap.size w (.slice la l.length lc) l)(hn:l.Nodup)(hll:l.length<=256)(hl:∀x∈l,0<=x/\x<l.length) :
 Calls Tryz.prog 145 #[.slice la l.length lc] w fun e w'=>e=.returned (.slice (some ⟨w.heap.size,0,none⟩) l.length l.length)/\bH w' w.heap.size l.length (plA l l.length)/\Below w.heap.size w w':=by
 have hmk:=run_make_row' (P:=Tryz.prog) 54 3 (.int .i64 0) 8 (by kernel_rfl) Tryz.infoGInt rfl .i64 .i64 l.length (by omega) (by omega)
 have H0:=zH (show bH (w.alloc (.cells (madeCells #[.int .i64 0] l.length) 3)) w.heap.size l.length (fun _=>0) from World.rowIs_made w (.int .i64 0) l.length 3)
 have HFF:=zH HF
 have HL:=zH hl
 have HN:=zH hn
 clear HF hl hn
 go_enter Tryz.func145,Tryz.ntmps145
 go_wp2_with fail
 clear hmk
 go_loopw [11] (fun k wr=>∃q:Nat,q<=l.length/\k=.int .i64 (q:Int)/\bH wr w.heap.size l.length (plA l q)/\Below w.heap.size w wr) (fun k _=>l.length-(intOf k).toNat)
 case atStart=>exact⟨0,Nat.zero_le _,rfl,H0.out.congr (fun x _=>plA_zero l x),(Below.refl _ _).alloc (Nat.le_refl _) _⟩
 case round =>
  obtain⟨q,hq,rfl,hT,hB⟩:=hrel
  have HT:=zH hT
  have HB:=zH hB
  clear hT hB H0
  by_cases hqt:q<l.length
  ·obtain⟨fb,fo,rfl,hc⟩:=(HFF.out.below HB.out).cellAt hqt
   have i1:(0:Int)<=q/\(q:Int)<l.length:=by omega
   have hx:=HL.out _ (GG.bB (d:=(0:Int)) hqt)
   have HS:=zH (fun x=>plA_succ HN.out hqt hx.1 x)
   obtain⟨x,ex⟩:∃x,x=l[q]?.getD 0:=⟨_,rfl⟩
   rw[<-ex] at hc hx HS
   clear ex
   obtain⟨y,rfl⟩:∃y:Nat,x=(y:Int):=⟨x.toNat,by omega⟩
   rw[Int.toNat_natCast] at HS
   have hyn:y<l.length:=by omega
   have i2:(0:Int)<=y/\(y:Int)<l.length:=by omega
   have hcy:=World.rowIs.cell HT.out hyn
   have hfy:=World.rowIs.frozen HT.out y
   clear hx
   go_wp2_with fail
   go_roundw
   case rel=>exact⟨q+1,by omega,by go_num,(HT.out.set y (q:Int)).congr (fun x _=>HS.out x),HB.out.setCell (p:=⟨w.heap.size,y,none⟩) (Nat.le_refl _) _⟩
   case measure=>simp [intOf];omega
  ·have HE:=zH (show bH wr w.heap.size l.length (plA l l.length) by have h:=HT.out;rwa [show q=l.length by omega] at h)
   clear HT
   go_wp2_with fail
   go_ret
   exact⟨rfl,HE.out,HB.out⟩
section
variable {P:Program} {w:World}
theorem mt{ops:Array Oper}{o:Oper}{a:Act}{K:Act->World->Prop}{Q:Exit->Act->World->Prop}{E:Prop}(hg:o.guard=none)(d s:Operand)(dT sT:TypeId)
 (ho:o.op=.call { callee:=.builtin .copy,args:=#[d,s],argTypes:=#[dT,sT] }) (dv sv:Value) (hd:a.eval d=dv) (hs:a.eval s=sv) (m:Nat) (w1:World)
 (hrun:∀ty,(Builtin.copy_ #[dT,sT] ty #[dv,sv]).run P w=.ok (.int .i64 m) w1) (h:K (a.put o.dst (.int .i64 m)) w1) :
 if Region.wanted o (yielded ops a.tmps)=true then Oper.wp P o a w K Q else E:=by
 rw[if_pos (by simp [Region.wanted,hg])]
 have hrun:=hrun o.type
 unfold Oper.wp
 simp [execOp,ho,resolve,invoke,builtin,hd,hs,hrun,Result.andThen]
 exact h
end
theorem bH.setCells{g n:Nat}{v:Int}:∀(m o:Nat) (W:World) (f:Nat->Int),bH W g n f->bH (W.setCells g o (List.replicate m (.int .i64 v))) g n (fun i=>if o<=i/\i<o+m then v else f i)
 | 0,o,W,f,h=>h.congr fun i _=>by rw[if_neg (by omega)]
 | m+1,o,W,f,h=>by
   rw[List.replicate_succ,World.setCells]
   refine(bH.setCells m (o+1) _ _ (h.set o v)).congr fun i _=>?_
   unfold DD.setI
   by_cases e:i=o
   ·subst e;rw[if_neg (by omega),if_pos rfl,if_pos (by omega)]
   ·rw[if_neg e]
    by_cases e2:o+1<=i/\i<o+1+m
    ·rw[if_pos e2,if_pos (by omega)]
    ·rw[if_neg e2,if_neg (by omega)]
theorem cF{g B:Nat}{v:Value}(hB:B<=g):∀(m o:Nat) (W0 W:World),Below B W0 W->Below B W0 (W.setCells g o (List.replicate m v))
 | 0,_,_,_,h=>h
 | m+1,o,W0,W,h=>by
   rw[List.replicate_succ,World.setCells]
   exact cF hB m (o+1) W0 _ (h.setCell (p:=⟨g,o,none⟩) hB v)
theorem ir{W:World}{g n off:Nat}{f:Nat->Int}(h:bH W g n f)(v:Int)(m dLen dCap:Nat)(b so sLen sCap:Nat)(hm:m=Nat.min sLen dLen)(hfit:off+m<=n)(hsrc:∀j,j<m->W.cell? ⟨b,so+j,none⟩=some (.int .i64 v))(ty:TypeId) :
 (Builtin.copy_ #[54,54] ty #[.slice (some ⟨g,off,none⟩) dLen dCap,.slice (some ⟨b,so,none⟩) sLen sCap]).run Tryz.prog W=.ok (.int .i64 m) (W.setCells g off (List.replicate m (.int .i64 v))):=by
 have:=run_copy_cells (P:=Tryz.prog) W 54 54 ty 3 g off dLen dCap ⟨b,so,none⟩ sLen sCap (List.replicate m (.int .i64 v)) Tryz.underlying54 (by kernel_rfl) (by rw[List.length_replicate];exact hm) (fun j u hj=>by
  rw[List.getElem?_replicate] at hj
  split at hj
  ·rename_i hjm
   rw[Addr.add_lit,hsrc j hjm];exact hj
  ·cases hj) (fun j hj=>by
  rw[List.length_replicate] at hj
  rw[World.rowIs.cell h (show off+j<n by omega)];rfl) (fun j hj=>World.rowIs.frozen h _) (fun u hu=>by rw[(List.mem_replicate.1 hu).2];rfl)
 rw[List.length_replicate] at this
 exact this
set_option maxHeartbeats 1600000 in
theorem qN(b off c n:Nat)(v:Int)(w:World)(hc:w.cell? ⟨b,off,none⟩=some (.int .i64 v))(hb:b<w.heap.size)(h1:1<=n)(hn:n<=256) :
 Calls Tryz.prog 146 #[.slice (some ⟨b,off,none⟩) 1 c,.int .i64 n] w fun e w'=>e=.returned (.slice (some ⟨w.heap.size,0,none⟩) n n)/\bH w' w.heap.size n (fun _=>v)/\Below w.heap.size w w':=by
 have hmk:=run_make_row' (P:=Tryz.prog) 54 3 (.int .i64 0) 8 (by kernel_rfl) Tryz.infoGInt rfl .i64 .i64 n (by omega) (by omega)
 have H0:=zH (show bH (w.alloc (.cells (madeCells #[.int .i64 0] n) 3)) w.heap.size n (fun _=>0) from World.rowIs_made w (.int .i64 0) n 3)
 have HB0:=zH ((Below.refl w.heap.size w).alloc (Nat.le_refl _) (.cells (madeCells #[.int .i64 0] n) 3))
 have hc1:(w.alloc (.cells (madeCells #[.int .i64 0] n) 3)).cell? ⟨b,off,none⟩=some (.int .i64 v):=(HB0.out.cell (p:=⟨b,off,none⟩) hb).trans hc
 have HC:=zH (fun ty=>ir H0.out v 1 n n b off 1 c (by show 1=min 1 n;omega) (by omega) (fun j hj=>by rw[show off+j=off by omega];exact hc1) ty)
 have H1:=zH (H0.out.setCells (v:=v) 1 0)
 have HB1:=zH (cF (v:=.int .i64 v) (Nat.le_refl w.heap.size) 1 0 _ _ HB0.out)
 go_enter Tryz.func146,Tryz.ntmps146
 have hcp:=HC.out
 go_wp2_with (go_at_call 183;refine(Tryz.bits_Mul 1 n (by omega) (by omega) _).mono ?_;rintro e w1 ⟨rfl,hw⟩;rw[hw];clear hw w1;rw[show ((1*n / 18446744073709551616:Nat):Int)=0 by omega,show ((1*n % 18446744073709551616:Nat):Int)=(n:Int) by omega])
 clear hcp hmk
 go_loopw [8] (fun k wr=>∃q:Nat,1<=q/\q<=n/\k=.int .i64 (q:Int)/\bH wr w.heap.size n (fun i=>if i<q then v else 0)/\Below w.heap.size w wr) (fun k _=>n-(intOf k).toNat)
 case atStart=>exact⟨1,Nat.le_refl _,h1,rfl,H1.out.congr (fun i _=>by by_cases e:i<1 <;> simp [e]),HB1.out⟩
 case round =>
  obtain⟨q,hq1,hq,rfl,hI,hB⟩:=hrel
  have HI:=zH hI
  have HB:=zH hB
  clear hI hB H1 HB1 H0 HB0 HC hc1
  by_cases hqt:q<n
  ·obtain⟨m,hm⟩:∃m,m=min q (n-q):=⟨_,rfl⟩
   have HMM:=zH hm
   have hm1:m<=q/\q+m<=n/\1<=m:=by omega
   have HC:=zH (fun ty=>ir (W:=wr.drew) (g:=w.heap.size) (n:=n) (f:=fun i=>if i<q then v else 0) HI.out v m (n-q) (n-q) w.heap.size 0 q n (by show m=min q (n-q);exact hm) hm1.2.1 (fun j hj=>by
    rw[Nat.zero_add]
    have:=World.rowIs.cell HI.out (show j<n by omega)
    rw[show (fun i:Nat=>if i<q then v else 0) j=v from if_pos (by omega)] at this;exact this) ty)
   have HN:=zH (bH.setCells (v:=v) m q wr.drew _ HI.out)
   have HBN:=zH (cF (v:=.int .i64 v) (Nat.le_refl w.heap.size) m q _ _ HB.out.drew)
   have b1:(0:Int)<=(q:Int):=by omega
   have b2:(q:Int)<=(n:Int):=by omega
   have b3:((q:Int)).toNat=q:=by omega
   have b4:IntKind.i64.wrap ((q:Int)+(m:Int))=(q:Int)+(m:Int):=IntWalk.i64_in _ (by omega)
   have b5:n≠q:=by omega
   clear hm
   go_wp2_with fail
   go_region_law (refine mt rfl (.tmp 41) (.tmp 44) 54 54 rfl _ _ rfl rfl m _ (by simp only[zA,zB,zC,Act.put,Act.eval,zD,zE,zF];exact HC.out) ?_)
   simp only[zA,zB,zC,Act.put,zD,zE,zF]
   go_wp2_with fail
   go_roundw
   case rel=>exact⟨q+m,by omega,by omega,by go_num,HN.out.congr (fun i _=>by by_cases e:i<q+m <;> by_cases e2:i<q <;> by_cases e3:q<=i <;> simp [e,e2,e3] <;> omega),HBN.out⟩
   case measure=>simp [intOf];omega
  ·go_wp2_with fail
   go_ret
   exact⟨rfl,HI.out.congr (fun i hi=>by rw[if_pos (by omega)]),HB.out⟩
end
section
open CD (OpP BodyP CodeP ae blAt fnAt)
def gX(ls:List (List OpV))(b:BodyP):Prop:=ls.length=b.bs.length/\∀i,(lsAt ls i).length=(blAt b i).length
def fN(b:BodyP)(f:Nat->Int)(y:Nat × Nat):Nat->Int :=
 if (ae (blAt b y.1) y.2).d = -1 then f else DD.setI (DD.setI f ((ae (blAt b y.1) y.2).d.toNat*2) y.1) ((ae (blAt b y.1) y.2).d.toNat*2+1) y.2
def FF(b:BodyP)(ys:List (Nat × Nat)):Nat->Int:=ys.foldl (fN b) (fun _=>-1)
theorem nJ(b:BodyP)(ys:List (Nat × Nat))(y:Nat × Nat):FF b (ys ++ [y])=fN b (FF b ys) y:=by simp [FF]
structure DInv (b:BodyP) (i k:Nat) (f:Nat->Int):Prop where
 lo:∀v,v<b.pa.toNat∨b.pa.toNat+CD.cntB b i+CD.cnt (blAt b i) k<=v->f (v*2) = -1/\f (v*2+1) = -1
 hi:∀v,b.pa.toNat<=v->v<b.pa.toNat+CD.cntB b i+CD.cnt (blAt b i) k->∃i' k',i'<b.bs.length/\k'<(blAt b i').length/\(i'<i∨i'=i/\k'<k)/\(ae (blAt b i') k').d=(v:Nat)/\f (v*2)=(i':Nat)/\f (v*2+1)=(k':Nat)
section
variable {q:CD.Cnt} {c:CodeP} {b:BodyP}
theorem nK(h:CD.aL q c b){i k:Nat}(hi:i<b.bs.length)(hk:k<(blAt b i).length) :
 (CD.Defs (ae (blAt b i) k).k/\(ae (blAt b i) k).d=((b.pa.toNat+CD.cntB b i+CD.cnt (blAt b i) k:Nat):Int))∨(¬CD.Defs (ae (blAt b i) k).k/\(ae (blAt b i) k).d = -1):=by
 have h1:=((h.2.1 i hi).2 k hk).1.2.2.1
 have hpa:=h.1.1.1
 by_cases hd:CD.Defs (ae (blAt b i) k).k
 ·rw[if_pos hd] at h1
  exact .inl ⟨hd,by rw[h1];omega⟩
 ·rw[if_neg hd] at h1
  exact .inr ⟨hd,h1⟩
theorem DInv.step(h:CD.aL q c b){i k:Nat}(hi:i<b.bs.length)(hk:k<(blAt b i).length){f:Nat->Int}(g:DInv b i k f):DInv b i (k+1) (fN b f (i,k)):=by
 unfold fN
 simp only
 rcases nK h hi hk with⟨hd,e⟩ | ⟨hd,e⟩
 ·have hc:=CD.gu hk
  rw[if_pos hd] at hc
  obtain⟨v0,ev0⟩:∃v0,v0=b.pa.toNat+CD.cntB b i+CD.cnt (blAt b i) k:=⟨_,rfl⟩
  rw[<-ev0] at e
  rw[if_neg (by omega),e,Int.toNat_natCast]
  refine⟨fun v hv=>?_,fun v hv1 hv2=>?_⟩
  ·rw[hc] at hv
   have:=g.lo v (by omega)
   unfold DD.setI
   rw[if_neg (by omega),if_neg (by omega),if_neg (by omega),if_neg (by omega)]
   exact this
  ·rw[hc] at hv2
   by_cases ev:v=v0
   ·subst ev
    refine⟨i,k,hi,hk,.inr ⟨rfl,by omega⟩,e,?_,?_⟩
    ·unfold DD.setI
     rw[if_neg (by omega),if_pos rfl]
    ·unfold DD.setI
     rw[if_pos rfl]
   ·obtain⟨i',k',h1,h2,h3,h4,h5,h6⟩:=g.hi v hv1 (by omega)
    refine⟨i',k',h1,h2,by omega,h4,?_,?_⟩
    ·unfold DD.setI
     rw[if_neg (by omega),if_neg (by omega)]
     exact h5
    ·unfold DD.setI
     rw[if_neg (by omega),if_neg (by omega)]
     exact h6
 ·have hc:=CD.gu hk
  rw[if_neg hd] at hc
  rw[if_pos e]
  refine⟨fun v hv=>g.lo v (by omega),fun v hv1 hv2=>?_⟩
  obtain⟨i',k',h1,h2,h3,h4⟩:=g.hi v hv1 (by omega)
  exact⟨i',k',h1,h2,by omega,h4⟩
theorem DInv.next{i:Nat}(hi:i<b.bs.length){f:Nat->Int}(g:DInv b i (blAt b i).length f):DInv b (i+1) 0 f:=by
 have hc:=CD.gS hi
 have h0:=CD.ew (blAt b (i+1))
 refine⟨fun v hv=>g.lo v (by omega),fun v hv1 hv2=>?_⟩
 obtain⟨i',k',h1,h2,h3,h4⟩:=g.hi v hv1 (by omega)
 exact⟨i',k',h1,h2,by omega,h4⟩
theorem qO:DInv b 0 0 (FF b []):=by
 have h0:=CD.ew (blAt b 0)
 have h1:=CD.mh b
 exact⟨fun v _=>⟨rfl,rfl⟩,fun v hv1 hv2=>by omega⟩
theorem pe(h:CD.aL q c b){ls:List (List OpV)}{i:Nat}(hi:i<b.bs.length)(g:DInv b i 0 (FF b (aE ls i 0))):∀k,k<=(blAt b i).length->DInv b i k (FF b (aE ls i k)):=by
 intro k
 induction k with
 | zero=>exact fun _=>g
 | succ k ih =>
   intro hk
   rw[cH,nJ]
   exact(ih (by omega)).step h hi (by omega)
theorem pf(h:CD.aL q c b){ls:List (List OpV)}(hl:gX ls b):∀i,i<=b.bs.length->DInv b i 0 (FF b (aE ls i 0)):=by
 intro i
 induction i with
 | zero=>exact fun _=>qO
 | succ i ih =>
   intro hi
   have h1:=pe h (show i<b.bs.length by omega) (ih (by omega)) (blAt b i).length (Nat.le_refl _)
   rw[<-hl.2 i,dc] at h1
   rw[hl.2 i] at h1
   exact h1.next (by omega)
theorem dinv_at(h:CD.aL q c b){ls:List (List OpV)}(hl:gX ls b){i k:Nat}(hi:i<b.bs.length)(hk:k<=(blAt b i).length):DInv b i k (FF b (aE ls i k)) :=
 pe h hi (pf h hl i (by omega)) k hk
theorem ph(h:CD.aL q c b){ls:List (List OpV)}(hl:gX ls b):DInv b b.bs.length 0 (FF b (bQ ls)):=by
 have h1:=pf h hl b.bs.length (Nat.le_refl _)
 unfold bQ
 rw[hl.1]
 exact h1
theorem pi(ls:List (List OpV))(i k:Nat):∀y∈aE ls i k,y.1<i∨y.1=i/\y.2<k:=by
 intro y hy
 unfold aE at hy
 rcases List.mem_append.1 hy with h | h
 ·obtain⟨a,ha,h2⟩:=List.mem_flatMap.1 h
  unfold gy at h2
  obtain⟨j,hj,rfl⟩:=List.mem_map.1 h2
  exact .inl (List.mem_range.1 ha)
 ·unfold gy at h
  obtain⟨j,hj,rfl⟩:=List.mem_map.1 h
  exact .inr ⟨rfl,List.mem_range.1 hj⟩
theorem items_mem(ls:List (List OpV)){i k:Nat}(hi:i<ls.length)(hk:k<(lsAt ls i).length):(i,k)∈bQ ls:=by
 have h1:=eQ ls hi (show k+1<=(lsAt ls i).length from hk)
 rw[cH] at h1
 exact h1.subset (by simp)
theorem nodup_row{ls:List (List OpV)}{i:Nat}(g:(aE ls i 0).Nodup):∀k,(aE ls i k).Nodup:=by
 intro k
 induction k with
 | zero=>exact g
 | succ k ih =>
   rw[cH]
   refine List.nodup_append.2 ⟨ih,by simp,fun a ha c hc=>?_⟩
   rw[List.mem_singleton.1 hc]
   intro e
   have:=pi ls i k a ha
   rw[e] at this
   simp only at this
   omega
theorem pj(ls:List (List OpV)):∀i,(aE ls i 0).Nodup:=by
 intro i
 induction i with
 | zero=>exact List.nodup_nil
 | succ i ih =>
   rw[<-dc]
   exact nodup_row ih _
theorem pre_at{ls:List (List OpV)}{ys:List (Nat × Nat)}{y:Nat × Nat}(h:ys ++ [y] <+: bQ ls)(hy:ItOk ls y):ys=aE ls y.1 y.2:=by
 have h1:aE ls y.1 (y.2+1) <+: bQ ls:=eQ ls hy.1 hy.2
 rw[cH] at h1
 have h1':aE ls y.1 y.2 ++ [y] <+: bQ ls:=h1
 rcases List.prefix_or_prefix_of_prefix h h1' with h2 | h2
 ·rcases List.prefix_concat_iff.1 h2 with h3 | h3
  ·exact(List.append_inj h3 (by have:=congrArg List.length h3;simpa using this)).1
  ·have:=pi ls y.1 y.2 y (h3.subset (by simp))
   omega
 ·rcases List.prefix_concat_iff.1 h2 with h3 | h3
  ·exact(List.append_inj h3.symm (by have:=congrArg List.length h3;simp at this;omega)).1
  ·have hp:ys <+: bQ ls:=(List.prefix_append ys [y]).trans h
   exfalso
   have hm:y∈ys:=h3.subset (by simp)
   have hn:(ys ++ [y]).Nodup:=h.sublist.nodup (pj ls _)
   exact(List.nodup_append.1 hn).2.2 y hm y (by simp) rfl
end
end
section
open Go.RowKit
def PN(W:World)(g n:Nat)(f:Nat->Int):Prop:=W.rowIs g 242 (n*2) (fun i=>.int .i64 (f i))
theorem PN.congr{W:World}{g n:Nat}{f f':Nat->Int}(h:PN W g n f)(e:∀i,i<n*2->f i=f' i):PN W g n f':=World.rowIs.congr h (fun i hi=>by rw[e i hi])
theorem PN.set{W:World}{g n:Nat}{f:Nat->Int}(h:PN W g n f)(i:Nat)(c:Int):PN (W.setCell ⟨g,i,none⟩ (.int .i64 c)) g n (DD.setI f i c):=by
 refine World.rowIs.congr (World.rowIs.set h i (.int .i64 c)) (fun j _=>?_)
 unfold DD.setI
 by_cases e:j=i
 ·rw[if_pos e,if_pos e]
 ·rw[if_neg e,if_neg e]
theorem PN.setCells{g n:Nat}{v:Int}:∀(m o:Nat) (W:World) (f:Nat->Int),PN W g n f->PN (W.setCells g o (List.replicate m (.int .i64 v))) g n (fun i=>if o<=i/\i<o+m then v else f i)
 | 0,o,W,f,h=>h.congr fun i _=>by rw[if_neg (by omega)]
 | m+1,o,W,f,h=>by
   rw[List.replicate_succ,World.setCells]
   refine(PN.setCells m (o+1) _ _ (h.set o v)).congr fun i _=>?_
   unfold DD.setI
   by_cases e:i=o
   ·subst e;rw[if_neg (by omega),if_pos rfl,if_pos (by omega)]
   ·rw[if_neg e]
    by_cases e2:o+1<=i/\i<o+1+m
    ·rw[if_pos e2,if_pos (by omega)]
    ·rw[if_neg e2,if_neg (by omega)]
theorem nL(w:World)(ty:TypeId)(b o dLen dCap:Nat)(a:Addr)(sLen sCap m:Nat)(cs:List Value)(hm:m=Nat.min sLen dLen)(hn:cs.length=m*2)
 (hsrc:∀j v,cs[j]?=some v->w.cell? (a.add j)=some v) (hc:∀j,j<cs.length->(w.cell? ⟨b,o+j,none⟩).isSome=true) (hf:∀j,j<cs.length->w.frozen? ⟨b,o+j,none⟩=false) (h1:∀v∈cs,v.oneCell'=true) :
 (Builtin.copy_ #[159,159] ty #[.slice (some ⟨b,o,none⟩) dLen dCap,.slice (some a) sLen sCap]).run Tryz.prog w=.ok (goInt m) (w.setCells b o cs):=by
 have hl:=run_loadCells_list (P:=Tryz.prog) w a cs hsrc
 have hst:=run_storeCells_cells (P:=Tryz.prog) b o cs 0 w (by simpa using hc) (by simpa using hf) h1
 have hs:(Tryz.prog.info? 242).map (·.size)=some 2:=by kernel_rfl
 have hu:Tryz.prog.underlying 159=some (.slice 242):=by kernel_rfl
 cases hq:Tryz.prog.info? 242 with
 | none=>simp [hq] at hs
 | some i =>
   have hi:i.size=2:=by simpa [hq] using hs
   simp [Builtin.copy_,run_underlying hu,Builtin.lenOf,Builtin.firstCells,sizeOf,typeInfo,hq,hi,<-hm,<-hn,hl,hst]
theorem jV{W:World}{g n off:Nat}{f:Nat->Int}(h:PN W g n f)(v:Int)(m dLen dCap:Nat)(b so sLen sCap:Nat)(hm:m=Nat.min sLen dLen)(hfit:off+m*2<=n*2)(hsrc:∀j,j<m*2->W.cell? ⟨b,so+j,none⟩=some (.int .i64 v))(ty:TypeId) :
 (Builtin.copy_ #[159,159] ty #[.slice (some ⟨g,off,none⟩) dLen dCap,.slice (some ⟨b,so,none⟩) sLen sCap]).run Tryz.prog W=.ok (.int .i64 m) (W.setCells g off (List.replicate (m*2) (.int .i64 v))) :=
 nL W ty g off dLen dCap ⟨b,so,none⟩ sLen sCap m (List.replicate (m*2) (.int .i64 v)) hm (by rw[List.length_replicate]) (fun j u hj=>by
  rw[List.getElem?_replicate] at hj
  split at hj
  ·rename_i hjm
   rw[Addr.add_lit,hsrc j hjm];exact hj
  ·cases hj) (fun j hj=>by
  rw[List.length_replicate] at hj
  rw[World.rowIs.cell h (show off+j<n*2 by omega)];rfl) (fun j hj=>World.rowIs.frozen h _) (fun u hu=>by rw[(List.mem_replicate.1 hu).2];rfl)
theorem nM(n:Nat)(hn:n<=1000000)(w:World) :
 (Instr.makeSlice 159 (.int .i64 (n:Int)) (.int .i64 (n:Int))).run Tryz.prog w=.ok (.slice (some ⟨w.heap.size,0,none⟩) n n) (w.alloc (.cells (madeCells #[.int .i64 0,.int .i64 0] (n*2)) 242)):=by
 have hinfo:(Tryz.prog.info? 242).map (fun i=>(i.zero,i.size,i.bytes))=some (some (.agg #[.int .i64 0,.int .i64 0]),2,16):=by kernel_rfl
 obtain⟨i,hi,hzz⟩:=Option.map_eq_some_iff.1 hinfo
 simp only[Prod.mk.injEq] at hzz
 obtain⟨hz,hs,hb⟩:=hzz
 have hr:=run_make (P:=Tryz.prog) w 159 242 i _ (by kernel_rfl) hi hz .i64 .i64 n n (by omega) (Int.le_refl _) (by rw[hb];omega) (by omega)
 simp only[Int.toNat_natCast,hs] at hr
 exact hr
theorem made_two(w:World)(n:Nat):PN (w.alloc (.cells (madeCells #[.int .i64 0,.int .i64 0] (n*2)) 242)) w.heap.size n (fun _=>0):=by
 refine⟨madeCells #[.int .i64 0,.int .i64 0] (n*2),heap_alloc_new _ _,size_madeCells _ _,fun i hi=>?_⟩
 simp only[madeCells,Array.getElem?_map,Array.getElem?_range]
 rw[if_pos hi]
 rcases Nat.mod_two_eq_zero_or_one i with e | e <;> simp [e]
set_option maxRecDepth 100000 in
set_option maxHeartbeats 1600000 in
theorem pk(b off c n:Nat)(v:Int)(w:World)(hc0:w.cell? ⟨b,off,none⟩=some (.int .i64 v))(hc1:w.cell? ⟨b,off+1,none⟩=some (.int .i64 v))(hb:b<w.heap.size)(hn:n<=100000) :
 Calls Tryz.prog 140 #[.slice (some ⟨b,off,none⟩) 1 c,.int .i64 n] w fun e w'=>e=.returned (.slice (some ⟨w.heap.size,0,none⟩) n n)/\PN w' w.heap.size n (fun _=>v)/\Below w.heap.size w w':=by
 have hmk:=nM n (by omega)
 have H0:=zH (made_two w n)
 have HB0:=zH ((Below.refl w.heap.size w).alloc (Nat.le_refl _) (.cells (madeCells #[.int .i64 0,.int .i64 0] (n*2)) 242))
 obtain⟨m0,hm0⟩:∃m0,m0=min 1 n:=⟨_,rfl⟩
 have HM0:=zH hm0
 have HC:=zH (fun ty=>jV (off:=0) H0.out v m0 n n b off 1 c hm0 (by omega) (fun j hj=>by
  rcases (show j=0∨j=1 by omega) with rfl | rfl
  ·exact(HB0.out.cell (p:=⟨b,off,none⟩) hb).trans hc0
  ·exact(HB0.out.cell (p:=⟨b,off+1,none⟩) hb).trans hc1) ty)
 have H1:=zH (H0.out.setCells (v:=v) (m0*2) 0)
 have HB1:=zH (cF (v:=.int .i64 v) (Nat.le_refl w.heap.size) (m0*2) 0 _ _ HB0.out)
 go_enter Tryz.func140,Tryz.ntmps140
 have hcp:=HC.out
 clear hm0
 go_wp2_with (go_at_call 183;refine(Tryz.bits_Mul 1 n (by omega) (by omega) _).mono ?_;rintro e w1 ⟨rfl,hw⟩;rw[hw];clear hw w1;rw[show ((1*n / 18446744073709551616:Nat):Int)=0 by omega,show ((1*n % 18446744073709551616:Nat):Int)=(n:Int) by omega])
 clear hcp hmk hc0 hc1
 go_loopw [8] (fun k wr=>∃q:Nat,(1<=q∨n=0)/\q<=n/\k=.int .i64 (q:Int)/\RowKit.Hid (PN wr w.heap.size n (fun i=>if i<q*2 then v else 0)/\Below w.heap.size w wr)) (fun k _=>n-(intOf k).toNat)
 case atStart=>exact⟨m0,by have:=HM0.out;omega,by have:=HM0.out;omega,rfl,zH ⟨H1.out.congr (fun i _=>by by_cases e:i<m0*2 <;> simp [e]),HB1.out⟩⟩
 case round =>
  obtain⟨q,hq1,hq,rfl,HI⟩:=hrel
  clear H1 HB1 H0 HB0 HC
  by_cases hqt:q<n
  ·obtain⟨m,hm⟩:∃m,m=min q (n-q):=⟨_,rfl⟩
   have HMM:=zH hm
   have hm1:m<=q/\q+m<=n/\1<=m:=by omega
   have HC:=zH (fun ty=>jV (W:=wr.drew) (g:=w.heap.size) (n:=n) (off:=q*2) (f:=fun i=>if i<q*2 then v else 0) HI.out.1 v m (n-q) (n-q) w.heap.size 0 q n (by show m=min q (n-q);exact hm) (by omega) (fun j hj=>by
    rw[Nat.zero_add]
    have:=World.rowIs.cell HI.out.1 (show j<n*2 by omega)
    rw[show (fun i:Nat=>if i<q*2 then v else 0) j=v from if_pos (by omega)] at this;exact this) ty)
   have HN:=zH (PN.setCells (v:=v) (m*2) (q*2) wr.drew _ HI.out.1)
   have HBN:=zH (cF (v:=.int .i64 v) (Nat.le_refl w.heap.size) (m*2) (q*2) _ _ HI.out.2.drew)
   have b1:(0:Int)<=(q:Int):=by omega
   have b2:(q:Int)<=(n:Int):=by omega
   have b3:((q:Int)).toNat=q:=by omega
   have b4:IntKind.i64.wrap ((q:Int)+(m:Int))=(q:Int)+(m:Int):=IntWalk.i64_in _ (by omega)
   have b5:n≠q:=by omega
   clear hm
   go_wp2_with fail
   go_region_law (refine mt rfl (.tmp 41) (.tmp 44) 159 159 rfl _ _ rfl rfl m _ (by simp only[zA,zB,zC,Act.put,Act.eval,zD,zE,zF];exact HC.out) ?_)
   simp only[zA,zB,zC,Act.put,zD,zE,zF]
   go_wp2_with fail
   go_roundw
   case rel=>exact⟨q+m,by omega,by omega,by go_num,zH ⟨HN.out.congr (fun i _=>by by_cases e:i<(q+m)*2 <;> by_cases e2:i<q*2 <;> by_cases e3:q*2<=i <;> simp [e,e2,e3] <;> omega),HBN.out⟩⟩
   case measure=>simp [intOf];omega
  ·go_wp2_with fail
   go_ret
   exact⟨rfl,HI.out.1.congr (fun i hi=>by rw[if_pos (by omega)]),HI.out.2⟩
end
section
open Go.RowKit
theorem Tryz.keyIntS:Tryz.prog.plainKey 3=true:=by kernel_rfl
theorem Tryz.cellsIntS:Tryz.prog.cellsOf 3=1:=by kernel_rfl
theorem pm(a b c d:Int)(w:World):(Op.equalIn 10000 242 (.agg #[.int .i64 a,.int .i64 b]) (.agg #[.int .i64 c,.int .i64 d])).run Tryz.prog w=.ok (a == c && b == d) w:=by
 obtain⟨i0,hi,-⟩:=info_parts Tryz.infoGInt
 have q1:(part 3 #[.int .i64 a,.int .i64 b] 0).run Tryz.prog w=.ok (.int .i64 a) w:=run_part_plain (P:=Tryz.prog) w Tryz.keyIntS rfl
 have q2:(part 3 #[.int .i64 a,.int .i64 b] 1).run Tryz.prog w=.ok (.int .i64 b) w:=run_part_plain (P:=Tryz.prog) w Tryz.keyIntS rfl
 have q3:(part 3 #[.int .i64 c,.int .i64 d] 0).run Tryz.prog w=.ok (.int .i64 c) w:=run_part_plain (P:=Tryz.prog) w Tryz.keyIntS rfl
 have q4:(part 3 #[.int .i64 c,.int .i64 d] 1).run Tryz.prog w=.ok (.int .i64 d) w:=run_part_plain (P:=Tryz.prog) w Tryz.keyIntS rfl
 have e1:∀x y,(Op.equalIn 9999 3 (.int .i64 x) (.int .i64 y)).run Tryz.prog w=.ok (x == y) w:=fun x y=>run_equalIn_int (P:=Tryz.prog) w 9998 3 .i64 .i64 x y Tryz.underlying3
 rw[run_equalIn_array w 9999 (n:=2) (e:=3) _ _ Tryz.underlying242 hi,Tryz.cellsIntS,show List.range 2=[0,1] from rfl]
 simp only[Op.eqItems,Nat.zero_mul,Nat.one_mul,Sem.run_bind,q1,q2,q3,q4,e1,Result.andThen_ok]
 cases (a == c) <;> cases h:(b == d) <;> simp only[Bool.not_false,Bool.not_true,Bool.false_eq_true,if_true,if_false,Sem.run_pure,Sem.run_bind,q2,q4,e1,h,Result.andThen_ok,Bool.true_and,Bool.false_and]
def HasP(f:Nat->Int)(n:Nat)(x y:Int):Prop:=∃i,i<n/\f (i*2)=x/\f (i*2+1)=y
set_option maxRecDepth 100000 in
set_option maxHeartbeats 1600000 in
theorem qP(a:Option Addr)(g off n cap:Nat)(f:Nat->Int)(x y:Int)(w:World)(ha:0<n->a=some ⟨g,off,none⟩)(hg:0<n->g<w.heap.size)(hn:n<=100000)(hc:∀i,i<n*2->w.cell? ⟨g,off+i,none⟩=some (.int .i64 (f i))) :
 Calls Tryz.prog 185 #[.slice a n cap,.agg #[.int .i64 x,.int .i64 y]] w fun e w'=>∃r:Int,e=.returned (.int .i64 r)/\(0<=r↔HasP f n x y)/\Below w.heap.size w w':=by
 have HB0:=zH ((Below.refl w.heap.size w).alloc (Nat.le_refl _) (.cells #[.int .i64 x,.int .i64 y] 242))
 have HK:=zH (show (w.alloc (.cells #[.int .i64 x,.int .i64 y] 242)).heap[w.heap.size]?=some (.cells #[.int .i64 x,.int .i64 y] 242) from heap_alloc_new _ _)
 have HC:=zH hc
 have HA:=zH ha
 have HGG:=zH hg
 clear hc ha hg
 go_enter Tryz.func185,Tryz.ntmps185
 go_wp2_with fail
 go_loopw [8] (fun k wr=>∃q:Nat,q<=n/\k=.int .i64 (q:Int)/\RowKit.Hid ((∀i,i<q->¬(f (i*2)=x/\f (i*2+1)=y))/\Below w.heap.size w wr/\wr.heap[w.heap.size]?=some (.cells #[.int .i64 x,.int .i64 y] 242))) (fun k _=>n-(intOf k).toNat)
 case atStart=>exact⟨0,Nat.zero_le _,rfl,zH ⟨fun i hi=>absurd hi (Nat.not_lt_zero _),HB0.out,HK.out⟩⟩
 case round =>
  clear HB0 HK
  obtain⟨w4,rfl⟩:∃w4,w4=wr:=⟨_,rfl⟩
  obtain⟨q,hq,rfl,HI⟩:=hrel
  by_cases hqt:q<n
  ·have ea:=HA.out (by omega)
   subst ea
   have hgg:=HGG.out (by omega)
   have h0:w4.cell? ⟨g,off+q*2,none⟩=some (.int .i64 (f (q*2))):=(HI.out.2.1.cell (p:=⟨g,off+q*2,none⟩) hgg).trans (HC.out (q*2) (by omega))
   have h1:w4.cell? ⟨g,off+q*2+1,none⟩=some (.int .i64 (f (q*2+1))):=(HI.out.2.1.cell (p:=⟨g,off+q*2+1,none⟩) hgg).trans (HC.out (q*2+1) (by omega))
   have h2:w4.cell? ⟨w.heap.size,0,none⟩=some (.int .i64 x):=cell_of_row _ _ 0 _ _ _ HI.out.2.2
   have h3:w4.cell? ⟨w.heap.size,1,none⟩=some (.int .i64 y):=cell_of_row _ _ 1 _ _ _ HI.out.2.2
   obtain⟨p1,e1⟩:∃p1,p1=f (q*2):=⟨_,rfl⟩
   obtain⟨p2,e2⟩:∃p2,p2=f (q*2+1):=⟨_,rfl⟩
   rw[<-e1] at h0
   rw[<-e2] at h1
   have HE1:=zH e1
   have HE2:=zH e2
   have HQT:=zH hqt
   have i1:(0:Int)<=q/\(q:Int)<n:=by omega
   clear e1 e2 hgg
   have hE:∀W,(Op.equalIn 10000 242 (.agg #[.int .i64 x,.int .i64 y]) (.agg #[.int .i64 p1,.int .i64 p2])).run Tryz.prog W=.ok (x == p1 && y == p2) W:=fun W=>pm x y p1 p2 W
   cases ht:(x == p1 && y == p2)
   ·rw[ht] at hE
    have HN:=zH (show ∀i,i<q+1->¬(f (i*2)=x/\f (i*2+1)=y) from fun i hi=>by
     by_cases e:i=q
     ·rw[e,<-HE1.out,<-HE2.out]
      rintro ⟨r1,r2⟩
      rw[r1,r2] at ht
      simp at ht
     ·exact HI.out.1 i (by omega))
    clear ht
    go_wp2_with fail
    go_quiet (fail)
    go_wp2_with fail
    go_roundw
    case rel=>exact⟨q+1,HQT.out,by go_num,zH ⟨HN.out,HI.out.2.1.trans ⟨rfl,rfl,rfl,Nat.le_refl _,fun _ _=>rfl⟩,HI.out.2.2⟩⟩
    case measure=>have:=HQT.out;simp [intOf];omega
   ·rw[ht] at hE
    have HY:=zH (show HasP f n x y from⟨q,HQT.out,by rw[<-HE1.out];simp at ht;exact ht.1.symm,by rw[<-HE2.out];simp at ht;exact ht.2.symm⟩)
    clear ht
    go_wp2_with fail
    go_quiet (fail)
    go_wp2_with fail
    go_ret
    exact⟨_,rfl,⟨fun _=>HY.out,fun _=>by omega⟩,HI.out.2.1.trans ⟨rfl,rfl,rfl,Nat.le_refl _,fun _ _=>rfl⟩⟩
  ·go_wp2_with fail
   go_ret
   exact⟨_,rfl,⟨fun h=>absurd h (by decide),fun⟨i,hi,h⟩=>absurd h (HI.out.1 i (by omega))⟩,HI.out.2.1⟩
set_option maxRecDepth 100000 in
theorem it(a:Option Addr)(g off n cap:Nat)(f:Nat->Int)(x y:Int)(w:World)(ha:0<n->a=some ⟨g,off,none⟩)(hg:0<n->g<w.heap.size)(hn:n<=100000)(hc:∀i,i<n*2->w.cell? ⟨g,off+i,none⟩=some (.int .i64 (f i))) :
 Calls Tryz.prog 142 #[.slice a n cap,.agg #[.int .i64 x,.int .i64 y]] w fun e w'=>e=.returned (.bool (CD.tf (HasP f n x y)))/\Below w.heap.size w w':=by
 have HB0:=zH ((Below.refl w.heap.size w).alloc (Nat.le_refl _) (.cells #[.int .i64 x,.int .i64 y] 242))
 have HIX:=zH (qP a g off n cap f x y (w.alloc (.cells #[.int .i64 x,.int .i64 y] 242)) ha (fun h=>by have:=hg h;simp;omega) hn (fun i hi=>(HB0.out.cell (p:=⟨g,off+i,none⟩) (hg (by omega))).trans (hc i hi)))
 clear ha hg hc
 obtain⟨z,ez⟩:∃z,z=CD.tf (HasP f n x y):=⟨_,rfl⟩
 rw[<-ez]
 have HZ:=zH ez
 clear ez
 go_enter Tryz.func142,Tryz.ntmps142
 go_upto_region 1 with fail
 go_wp2_with fail
 refine HIX.out.mono ?_
 rintro e w2 ⟨r,rfl,hr,hb⟩
 have HBB:=zH (HB0.out.trans (hb.mono HB0.out.size))
 have e1:z=decide (0<=r):=by
  rw[HZ.out]
  exact CD.tf_eq (by rw[<-hr];simp)
 clear hb hr HZ HIX
 subst e1
 go_wp2_with fail
 go_ret
 exact⟨by first | rfl | simp,HBB.out⟩
end
end Go.Proofs.YtjngffgkllakaaaGreatDoor
