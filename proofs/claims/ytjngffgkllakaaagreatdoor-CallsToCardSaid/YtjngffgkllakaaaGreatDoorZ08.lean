/- A part of a proof: laws that the last text uses. -/
import Derived.Test.YtjngffgkllakaaaGreatDoorZ01
import Derived.Test.YtjngffgkllakaaaGreatDoorZ02
import Derived.Test.YtjngffgkllakaaaGreatDoorZ07
import Derived.Lib.DecodeN
import Derived.Lib.TrimU
import Derived.Deep.QuietTactic
import Derived.BigQuiet
import Derived.Lib.OthersKept
import Derived.Deep.RegionHeld3
import Derived.Deep.DrawnRows
import Derived.Deep.RegionLaw
import Derived.Lib.ItoaLen
import Derived.Lib.ParseIntBTie
import Derived.Lib.ParseIntBCases
import Derived.Lib.AtoiErrMem
set_option linter.unusedSimpArgs false
set_option linter.unusedVariables false
namespace Go.Proofs.YtjngffgkllakaaaGreatDoor.TM
open Go.Lib
def fN(n c b1 b2 b3:Nat):Nat × Nat:=if decodeN n c b1 b2 b3=(65533,1) then (0,0) else decodeN n c b1 b2 b3
theorem pL(n c b1 b2 b3 v k:Nat)(h:decodeN n c b1 b2 b3=(v,k))(hk:k≠1∨v≠65533):fN n c b1 b2 b3=(v,k):=by
 unfold fN;rw[h,if_neg];intro e;cases e;omega
theorem fN_no(n c b1 b2 b3:Nat)(h:decodeN n c b1 b2 b3=(65533,1)):fN n c b1 b2 b3=(0,0):=by unfold fN;rw[h,if_pos rfl]
theorem fN_1(n c b1 b2 b3:Nat)(h:c<128):fN n c b1 b2 b3=(c,1):=by
 apply pL
 ·unfold decodeN;rw[if_pos h]
 ·omega
set_option maxRecDepth 100000 in
set_option maxHeartbeats 2000000 in
theorem fN_0(n c b1 b2 b3:Nat)(h:128<=c/\c<194∨245<=c/\c<256):fN n c b1 b2 b3=(0,0):=by
 apply fN_no;unfold decodeN
 repeat' split
 all_goals first | (exfalso;omega) | rfl
set_option maxRecDepth 100000 in
set_option maxHeartbeats 2000000 in
theorem fN_2(n c b1 b2 b3:Nat)(h:194<=c/\c<=223)(h1:1<n/\128<=b1/\b1<=191):fN n c b1 b2 b3=(c % 32*64+b1 % 64,2):=by
 apply pL
 ·unfold decodeN
  repeat' split
  all_goals first | (exfalso;omega) | rfl
 ·omega
set_option maxRecDepth 100000 in
set_option maxHeartbeats 2000000 in
theorem fN_2n(n c b1 b2 b3:Nat)(h:194<=c/\c<=223)(h1:¬(1<n/\128<=b1/\b1<=191))(hb:b1<256):fN n c b1 b2 b3=(0,0):=by
 apply fN_no;unfold decodeN
 repeat' split
 all_goals first | (exfalso;omega) | rfl
set_option maxRecDepth 100000 in
set_option maxHeartbeats 2000000 in
theorem fN_3(n c b1 b2 b3:Nat)(h:224<=c/\c<=239)(h1:1<n/\128<=b1/\b1<=191)(he:c=224->160<=b1)(hd:c=237->b1<=159)(h2:2<n/\128<=b2/\b2<=191) :
 fN n c b1 b2 b3=(c % 16*4096+b1 % 64*64+b2 % 64,3):=by
 apply pL
 ·unfold decodeN
  repeat' split
  all_goals first | (exfalso;omega) | rfl
 ·omega
set_option maxRecDepth 100000 in
set_option maxHeartbeats 2000000 in
theorem fN_3n(n c b1 b2 b3:Nat)(h:224<=c/\c<=239)(hn:¬(1<n/\128<=b1/\b1<=191)∨(c=224/\b1<160)∨(c=237/\159<b1)∨¬(2<n/\128<=b2/\b2<=191))(hb1:b1<256)(hb2:b2<256) :
 fN n c b1 b2 b3=(0,0):=by
 apply fN_no;unfold decodeN
 repeat' split
 all_goals first | (exfalso;omega) | rfl
set_option maxRecDepth 100000 in
set_option maxHeartbeats 4000000 in
theorem fN_4(n c b1 b2 b3:Nat)(h:240<=c/\c<=244)(h1:1<n/\128<=b1/\b1<=191)(he:c=240->144<=b1)(hd:c=244->b1<=143)(h2:2<n/\128<=b2/\b2<=191)(h3:3<n/\128<=b3/\b3<=191) :
 fN n c b1 b2 b3=(c % 8*262144+b1 % 64*4096+b2 % 64*64+b3 % 64,4):=by
 apply pL
 ·unfold decodeN
  repeat' split
  all_goals first | (exfalso;omega) | rfl
 ·omega
set_option maxRecDepth 100000 in
set_option maxHeartbeats 4000000 in
theorem fN_4n(n c b1 b2 b3:Nat)(h:240<=c/\c<=244)
 (hn:¬(1<n/\128<=b1/\b1<=191)∨(c=240/\b1<144)∨(c=244/\143<b1)∨¬(2<n/\128<=b2/\b2<=191)∨¬(3<n/\128<=b3/\b3<=191)) (hb1:b1<256) (hb2:b2<256) (hb3:b3<256) :
 fN n c b1 b2 b3=(0,0):=by
 apply fN_no;unfold decodeN
 repeat' split
 all_goals first | (exfalso;omega) | rfl
end Go.Proofs.YtjngffgkllakaaaGreatDoor.TM
namespace Go.Proofs.YtjngffgkllakaaaGreatDoor
open List renaming getElem_toArray → zA, getElem_cons_succ → zB, getElem_cons_zero → zC, setIfInBounds_toArray → zD, set_cons_zero → zE, set_cons_succ → zF
open Lib renaming hid → zH
section
open Go.RowKit
def ae(s:ByteArray)(i:Nat):Int:=((s.get! i).toNat:Int)
def aG(s:ByteArray)(i:Int)(l m:Int):Bool:=decide (i<s.size) && (decide (l<=ae s i.toNat) && decide (ae s i.toNat<=m))
theorem an(s:ByteArray)(i:Nat)(h:i<s.size):((s[i]'h).toNat:Int)=ae s i:=by
 unfold ae
 rw[show s.get! i=s[i]'h by simp [ByteArray.get!,getElem!_pos,h];rfl]
theorem ag(s:ByteArray)(i:Nat):0<=ae s i/\ae s i<=255:=by
 unfold ae;have:=(s.get! i).toNat_lt;omega
set_option maxHeartbeats 400000 in
theorem aQ(s:ByteArray)(i l m:Int)(w:World)(h0:0<=i) :
 Calls Tryz.prog 225 #[.string s,.int .i64 i,.int .u8 l,.int .u8 m] w fun e w'=>e=.returned (.bool (aG s i l m))/\w=w':=by
 obtain⟨k,rfl⟩:=Int.eq_ofNat_of_zero_le h0
 by_cases h1:k<s.size
 ·have hg:=zH (an s k h1)
  by_cases h2:l<=ae s k
  ·have hv:=zH (show decide (ae s k<=m)=aG s k l m by unfold aG;rw[Int.toNat_natCast,decide_eq_true (show (k:Int)<s.size by omega),decide_eq_true h2];rfl)
   have h2':l<=((s[k]'h1).toNat:Int):=by rw[hg.out];exact h2
   go_enter Tryz.func225,Tryz.ntmps225
   go_wp2
   go_ret
   exact⟨af (by rw[hg.out];exact hv.out),rfl⟩
  ·have hv:=zH (show false=aG s k l m by unfold aG;rw[Int.toNat_natCast,decide_eq_true (show (k:Int)<s.size by omega),decide_eq_false h2];rfl)
   have h2':((s[k]'h1).toNat:Int)<l:=by rw[hg.out];omega
   go_enter Tryz.func225,Tryz.ntmps225
   go_wp2
   go_ret
   exact⟨af hv.out,rfl⟩
 ·have hv:=zH (show false=aG s k l m by unfold aG;rw[decide_eq_false (show ¬(k:Int)<s.size by omega)];rfl)
  have h1':(s.size:Int)<=k:=by omega
  go_enter Tryz.func225,Tryz.ntmps225
  go_wp2
  go_ret
  exact⟨af hv.out,rfl⟩
def au(s:ByteArray)(i:Int):Int × Int :=
 if 0<=i/\i<s.size then (((TM.fN (s.size-i.toNat) (s.get! i.toNat).toNat (s.get! (i.toNat+1)).toNat (s.get! (i.toNat+2)).toNat (s.get! (i.toNat+3)).toNat).1:Int),
  ((TM.fN (s.size-i.toNat) (s.get! i.toNat).toNat (s.get! (i.toNat+1)).toNat (s.get! (i.toNat+2)).toNat (s.get! (i.toNat+3)).toNat).2:Int)) else (0,0)
theorem formI_out(s:ByteArray)(i:Int)(h:¬(0<=i/\i<s.size)):au s i=(0,0):=by unfold au;rw[if_neg h]
theorem aL(s:ByteArray)(k:Nat)(h:k<s.size)(v j:Nat)
 (e:TM.fN (s.size-k) (s.get! k).toNat (s.get! (k+1)).toNat (s.get! (k+2)).toNat (s.get! (k+3)).toNat=(v,j)):au s k=((v:Int),(j:Int)):=by
 unfold au;rw[if_pos (by omega),Int.toNat_natCast,e]
theorem aM(s:ByteArray)(k j:Nat)(l m:Int)(h:aG s ((k:Int)+j) l m=true):j<s.size-k/\l<=ae s (k+j)/\ae s (k+j)<=m:=by
 unfold aG at h
 simp only[Bool.and_eq_true,decide_eq_true_eq] at h
 rw[show ((k:Int)+j).toNat=k+j by omega] at h
 exact⟨by omega,h.2.1,h.2.2⟩
theorem cC(s:ByteArray)(k j:Nat)(l m:Int)(h:aG s ((k:Int)+j) l m=false):¬(j<s.size-k/\l<=ae s (k+j)/\ae s (k+j)<=m):=by
 intro ⟨h1,h2,h3⟩
 unfold aG at h
 rw[show ((k:Int)+j).toNat=k+j by omega,decide_eq_true (show (k:Int)+j<s.size by omega),decide_eq_true h2,decide_eq_true h3] at h
 cases h
theorem aN{s:ByteArray}{i a b:Int}(h:au s i=(a,b)):Ending.returned (.tuple #[.int .i64 a,.int .i64 b])=.returned (.tuple #[.int .i64 (au s i).1,.int .i64 (au s i).2]):=by rw[h]
theorem and63(b:Int)(h0:0<=b)(h1:b<=255):bits .and .u8 b 63=b % 64:=by
 rw[u8_and b 63 h0 (by omega) (by omega) (by omega),show (63:Int).toNat=63 from rfl,nat_mask6];omega
theorem and15(b:Int)(h0:0<=b)(h1:b<=255):bits .and .u8 b 15=b % 16:=by
 rw[u8_and b 15 h0 (by omega) (by omega) (by omega),show (15:Int).toNat=15 from rfl,nat_mask4];omega
theorem and31(b:Int)(h0:0<=b)(h1:b<=255):bits .and .u8 b 31=b % 32:=by
 rw[u8_and b 31 h0 (by omega) (by omega) (by omega),show (31:Int).toNat=31 from rfl,nat_mask5];omega
theorem and7(b:Int)(h0:0<=b)(h1:b<=255):bits .and .u8 b 7=b % 8:=by
 rw[u8_and b 7 h0 (by omega) (by omega) (by omega),show (7:Int).toNat=7 from rfl,nat_mask3];omega
end
section
open Go.RowKit
def wd(s:ByteArray)(k:Nat):Nat:=(Utf8.decode s k).2
def rn(s:ByteArray)(k:Nat):Nat:=(Utf8.decode s k).1
def badB(s:ByteArray)(k:Nat):Bool:=decide (rn s k=65533) && decide (wd s k=1)
theorem iJ(s:ByteArray)(k:Nat):1<=wd s k:=Lib.width_pos s k
theorem pM(s:ByteArray)(k:Nat):wd s k<=4:=by
 unfold wd;rw[Lib.decode_at];unfold Lib.decodeN
 repeat' split
 all_goals (simp only;omega)
theorem od(s:ByteArray)(k:Nat)(h:k<s.size)(hb:badB s k=true):au s k=(0,0):=by
 unfold badB rn wd at hb
 simp only[Bool.and_eq_true,decide_eq_true_eq] at hb
 refine aL s k h 0 0 (TM.fN_no _ _ _ _ _ ?_)
 rw[<-Lib.decode_at];exact Prod.ext hb.1 hb.2
theorem jy(s:ByteArray)(k:Nat)(h:k<s.size)(hb:badB s k=false):au s k=((rn s k:Int),(wd s k:Int)):=by
 refine aL s k h (rn s k) (wd s k) ?_
 unfold TM.fN
 rw[<-Lib.decode_at,if_neg]
 ·rfl
 ·intro e
  unfold badB rn wd at hb
  rw[e] at hb
  simp at hb
def poss(s:ByteArray):Nat->Nat->List Nat
 | 0,_=>[]
 | fuel+1,pos=>if pos<s.size then pos :: poss s fuel (pos+wd s pos) else []
def allP(s:ByteArray):List Nat:=poss s s.size 0
theorem qZ(s:ByteArray)(fuel pos:Nat)(h:¬pos<s.size):poss s fuel pos=[]:=by cases fuel <;> simp [poss,h]
theorem kI(s:ByteArray)(fuel pos:Nat)(h:pos<s.size)(hf:s.size<=pos+fuel):∃f',fuel=f'+1/\poss s fuel pos=pos :: poss s f' (pos+wd s pos)/\s.size<=pos+wd s pos+f':=by
 cases fuel with
 | zero=>omega
 | succ f=>exact⟨f,rfl,by simp [poss,h],by have:=iJ s pos;omega⟩
def fe(s:ByteArray)(pre:List Nat)(pos:Nat):Prop:=(∃fuel,s.size<=pos+fuel/\allP s=pre ++ poss s fuel pos)/\pre.length<=pos/\(pre=[]↔pos=0)/\∀p∈pre,p<pos
theorem fe.start(s:ByteArray):fe s [] 0:=⟨⟨s.size,by omega,rfl⟩,Nat.le_refl _,by simp,by simp⟩
theorem fe.next{s:ByteArray}{pre:List Nat}{pos:Nat}(h:fe s pre pos)(hlt:pos<s.size):fe s (pre ++ [pos]) (pos+wd s pos):=by
 obtain⟨⟨fuel,hf,e⟩,hl,h0,hp⟩:=h
 obtain⟨f',rfl,e2,hf'⟩:=kI s fuel pos hlt hf
 have:=iJ s pos
 refine⟨⟨f',hf',by rw[e,e2];simp⟩,by simp;omega,?_,?_⟩
 ·constructor
  ·intro h;simp at h
  ·intro h;omega
 ·intro p hm
  rcases List.mem_append.1 hm with hm | hm
  ·have:=hp p hm;omega
  ·simp at hm;omega
theorem fe.stop{s:ByteArray}{pre:List Nat}{pos:Nat}(h:fe s pre pos)(hge:¬pos<s.size):allP s=pre:=by
 obtain⟨⟨fuel,_,e⟩,_⟩:=h
 rw[e,qZ s fuel pos hge,List.append_nil]
theorem fe.mem{s:ByteArray}{pre:List Nat}{pos:Nat}(h:fe s pre pos)(hlt:pos<s.size):∃t,allP s=pre ++ pos :: t:=by
 obtain⟨⟨fuel,hf,e⟩,_⟩:=h
 obtain⟨f',rfl,e2,_⟩:=kI s fuel pos hlt hf
 exact⟨_,by rw[e,e2]⟩
end
section
open Go.RowKit
set_option maxRecDepth 100000 in
set_option maxHeartbeats 1000000 in
theorem form_a(s:ByteArray)(k:Nat)(w:World)(hs:s.size<=140737488351232)(h1:k<s.size)(c0:0<=ae s k)(c1:ae s k<=127) :
 Calls Tryz.prog 197 #[.string s,.int .i64 k] w fun e w'=>e=.returned (.tuple #[.int .i64 (au s k).1,.int .i64 (au s k).2])/\∃n,w'=w.drewN n:=by
 have b0:=ag s k
 have b1:=ag s (k+1)
 have b2:=ag s (k+2)
 have b3:=ag s (k+3)
 have g0:=an s k h1
 have hv:Hid (au s k=(ae s k,1)):=by
  unfold ae at b0 b1 b2 b3 c0 c1
  rw[aL s k h1 _ _ (TM.fN_1 _ _ _ _ _ (by omega))]
  exact zH (by first | rfl | (unfold ae;first | rfl | (apply Prod.ext <;> simp)))
 go_enter Tryz.func197,Tryz.ntmps197
 go_wp2_with (go_at_call 225;refine(aQ _ _ _ _ _ (by omega)).mono ?_;rintro e w' ⟨rfl,rfl⟩)
 go_ret2
 exact⟨aN hv.out,0,rfl⟩
set_option maxRecDepth 100000 in
set_option maxHeartbeats 1000000 in
theorem form_b(s:ByteArray)(k:Nat)(w:World)(hs:s.size<=140737488351232)(h1:k<s.size)(c0:128<=ae s k)(c1:ae s k<=193) :
 Calls Tryz.prog 197 #[.string s,.int .i64 k] w fun e w'=>e=.returned (.tuple #[.int .i64 (au s k).1,.int .i64 (au s k).2])/\∃n,w'=w.drewN n:=by
 have b0:=ag s k
 have b1:=ag s (k+1)
 have b2:=ag s (k+2)
 have b3:=ag s (k+3)
 have g0:=an s k h1
 have hv:Hid (au s k=(0,0)):=by
  unfold ae at b0 b1 b2 b3 c0 c1
  rw[aL s k h1 _ _ (TM.fN_0 _ _ _ _ _ (by omega))]
  exact zH (by first | rfl | (unfold ae;first | rfl | (apply Prod.ext <;> simp)))
 go_enter Tryz.func197,Tryz.ntmps197
 go_wp2_with (go_at_call 225;refine(aQ _ _ _ _ _ (by omega)).mono ?_;rintro e w' ⟨rfl,rfl⟩)
 go_ret2
 exact⟨aN hv.out,0,rfl⟩
set_option maxRecDepth 100000 in
set_option maxHeartbeats 1000000 in
theorem form_c(s:ByteArray)(k:Nat)(w:World)(hs:s.size<=140737488351232)(h1:k<s.size)(c0:194<=ae s k)(c1:ae s k<=223)(m0:aG s ((k:Int)+1) 128 191=true) :
 Calls Tryz.prog 197 #[.string s,.int .i64 k] w fun e w'=>e=.returned (.tuple #[.int .i64 (au s k).1,.int .i64 (au s k).2])/\∃n,w'=w.drewN n:=by
 have b0:=ag s k
 have b1:=ag s (k+1)
 have b2:=ag s (k+2)
 have b3:=ag s (k+3)
 have n0:=aM s k 1 128 191 m0
 have g0:=an s k h1
 have l1:k+1<s.size:=by omega
 have g1:=an s (k+1) l1
 have x1:=and63 (ae s (k+1)) b1.1 b1.2
 have x0:=and31 (ae s k) b0.1 b0.2
 have hv:Hid (au s k=(ae s k % 32*64+ae s (k+1) % 64,2)):=by
  unfold ae at b0 b1 b2 b3 c0 c1 n0
  rw[aL s k h1 _ _ (TM.fN_2 _ _ _ _ _ (by omega) (by omega))]
  exact zH (by first | rfl | (unfold ae;first | rfl | (apply Prod.ext <;> simp)))
 clear n0
 go_enter Tryz.func197,Tryz.ntmps197
 go_wp2_with (go_at_call 225;refine(aQ _ _ _ _ _ (by omega)).mono ?_;rintro e w' ⟨rfl,rfl⟩)
 go_ret2
 exact⟨aN hv.out,0,rfl⟩
set_option maxRecDepth 100000 in
set_option maxHeartbeats 1000000 in
theorem form_cn(s:ByteArray)(k:Nat)(w:World)(hs:s.size<=140737488351232)(h1:k<s.size)(c0:194<=ae s k)(c1:ae s k<=223)(m0:aG s ((k:Int)+1) 128 191=false) :
 Calls Tryz.prog 197 #[.string s,.int .i64 k] w fun e w'=>e=.returned (.tuple #[.int .i64 (au s k).1,.int .i64 (au s k).2])/\∃n,w'=w.drewN n:=by
 have b0:=ag s k
 have b1:=ag s (k+1)
 have b2:=ag s (k+2)
 have b3:=ag s (k+3)
 have n0:=cC s k 1 128 191 m0
 have g0:=an s k h1
 have hv:Hid (au s k=(0,0)):=by
  unfold ae at b0 b1 b2 b3 c0 c1 n0
  rw[aL s k h1 _ _ (TM.fN_2n _ _ _ _ _ (by omega) (by omega) (by omega))]
  exact zH (by first | rfl | (unfold ae;first | rfl | (apply Prod.ext <;> simp)))
 clear n0
 go_enter Tryz.func197,Tryz.ntmps197
 go_wp2_with (go_at_call 225;refine(aQ _ _ _ _ _ (by omega)).mono ?_;rintro e w' ⟨rfl,rfl⟩)
 go_ret2
 exact⟨aN hv.out,0,rfl⟩
set_option maxRecDepth 100000 in
set_option maxHeartbeats 1000000 in
theorem form_z(s:ByteArray)(k:Nat)(w:World)(hs:s.size<=140737488351232)(h1:k<s.size)(c0:245<=ae s k)(c1:ae s k<=255) :
 Calls Tryz.prog 197 #[.string s,.int .i64 k] w fun e w'=>e=.returned (.tuple #[.int .i64 (au s k).1,.int .i64 (au s k).2])/\∃n,w'=w.drewN n:=by
 have b0:=ag s k
 have b1:=ag s (k+1)
 have b2:=ag s (k+2)
 have b3:=ag s (k+3)
 have g0:=an s k h1
 have hv:Hid (au s k=(0,0)):=by
  unfold ae at b0 b1 b2 b3 c0 c1
  rw[aL s k h1 _ _ (TM.fN_0 _ _ _ _ _ (by omega))]
  exact zH (by first | rfl | (unfold ae;first | rfl | (apply Prod.ext <;> simp)))
 go_enter Tryz.func197,Tryz.ntmps197
 go_wp2_with (go_at_call 225;refine(aQ _ _ _ _ _ (by omega)).mono ?_;rintro e w' ⟨rfl,rfl⟩)
 go_ret2
 exact⟨aN hv.out,0,rfl⟩
end
section
open Go.RowKit
set_option maxRecDepth 100000 in
set_option maxHeartbeats 1000000 in
theorem form_d(s:ByteArray)(k:Nat)(w:World)(hs:s.size<=140737488351232)(h1:k<s.size)(c0:224<=ae s k)(c1:ae s k<=224)(m0:aG s ((k:Int)+1) 160 191=true)(m1:aG s ((k:Int)+2) 128 191=true) :
 Calls Tryz.prog 197 #[.string s,.int .i64 k] w fun e w'=>e=.returned (.tuple #[.int .i64 (au s k).1,.int .i64 (au s k).2])/\∃n,w'=w.drewN n:=by
 have b0:=ag s k
 have b1:=ag s (k+1)
 have b2:=ag s (k+2)
 have b3:=ag s (k+3)
 have n0:=aM s k 1 160 191 m0
 have n1:=aM s k 2 128 191 m1
 have g0:=an s k h1
 have l1:k+1<s.size:=by omega
 have g1:=an s (k+1) l1
 have x1:=and63 (ae s (k+1)) b1.1 b1.2
 have l2:k+2<s.size:=by omega
 have g2:=an s (k+2) l2
 have x2:=and63 (ae s (k+2)) b2.1 b2.2
 have x0:=and15 (ae s k) b0.1 b0.2
 have hv:Hid (au s k=(ae s k % 16*4096+ae s (k+1) % 64*64+ae s (k+2) % 64,3)):=by
  unfold ae at b0 b1 b2 b3 c0 c1 n0 n1
  rw[aL s k h1 _ _ (TM.fN_3 _ _ _ _ _ (by omega) (by omega) (by omega) (by omega) (by omega))]
  exact zH (by first | rfl | (unfold ae;first | rfl | (apply Prod.ext <;> simp)))
 have q0:(ae s k == 224)=true:=by rw[beq_iff_eq];omega
 have q1:(ae s k == 237)=false:=by rw[beq_eq_false_iff_ne];omega
 clear n0 n1
 go_enter Tryz.func197,Tryz.ntmps197
 go_wp2_with (go_at_call 225;refine(aQ _ _ _ _ _ (by omega)).mono ?_;rintro e w' ⟨rfl,rfl⟩)
 have y1:IntKind.i64.wrap ((k:Int)+1)=(k:Int)+1:=IntWalk.i64_in _ (by omega)
 have y2:IntKind.i64.wrap ((k:Int)+2)=(k:Int)+2:=IntWalk.i64_in _ (by omega)
 have z1:(0:Int)<=(k:Int)+1/\(k:Int)+1<s.size:=by omega
 have z2:(0:Int)<=(k:Int)+2/\(k:Int)+2<s.size:=by omega
 have t1:((k:Int)+1).toNat=k+1:=by omega
 have t2:((k:Int)+2).toNat=k+2:=by omega
 go_quiet (fail)
 clear y1 z1 t1 y2 z2 t2
 go_wp2
 go_ret2
 exact⟨aN hv.out,_,rfl⟩
set_option maxRecDepth 100000 in
set_option maxHeartbeats 1000000 in
theorem form_dn1(s:ByteArray)(k:Nat)(w:World)(hs:s.size<=140737488351232)(h1:k<s.size)(c0:224<=ae s k)(c1:ae s k<=224)(m0:aG s ((k:Int)+1) 160 191=false) :
 Calls Tryz.prog 197 #[.string s,.int .i64 k] w fun e w'=>e=.returned (.tuple #[.int .i64 (au s k).1,.int .i64 (au s k).2])/\∃n,w'=w.drewN n:=by
 have b0:=ag s k
 have b1:=ag s (k+1)
 have b2:=ag s (k+2)
 have b3:=ag s (k+3)
 have n0:=cC s k 1 160 191 m0
 have g0:=an s k h1
 have hv:Hid (au s k=(0,0)):=by
  unfold ae at b0 b1 b2 b3 c0 c1 n0
  rw[aL s k h1 _ _ (TM.fN_3n _ _ _ _ _ (by omega) (by omega) (by omega) (by omega))]
  exact zH (by first | rfl | (unfold ae;first | rfl | (apply Prod.ext <;> simp)))
 have q0:(ae s k == 224)=true:=by rw[beq_iff_eq];omega
 have q1:(ae s k == 237)=false:=by rw[beq_eq_false_iff_ne];omega
 clear n0
 go_enter Tryz.func197,Tryz.ntmps197
 go_wp2_with (go_at_call 225;refine(aQ _ _ _ _ _ (by omega)).mono ?_;rintro e w' ⟨rfl,rfl⟩)
 go_ret2
 exact⟨aN hv.out,0,rfl⟩
set_option maxRecDepth 100000 in
set_option maxHeartbeats 1000000 in
theorem form_dn2(s:ByteArray)(k:Nat)(w:World)(hs:s.size<=140737488351232)(h1:k<s.size)(c0:224<=ae s k)(c1:ae s k<=224)(m0:aG s ((k:Int)+1) 160 191=true)(m1:aG s ((k:Int)+2) 128 191=false) :
 Calls Tryz.prog 197 #[.string s,.int .i64 k] w fun e w'=>e=.returned (.tuple #[.int .i64 (au s k).1,.int .i64 (au s k).2])/\∃n,w'=w.drewN n:=by
 have b0:=ag s k
 have b1:=ag s (k+1)
 have b2:=ag s (k+2)
 have b3:=ag s (k+3)
 have n0:=aM s k 1 160 191 m0
 have n1:=cC s k 2 128 191 m1
 have g0:=an s k h1
 have hv:Hid (au s k=(0,0)):=by
  unfold ae at b0 b1 b2 b3 c0 c1 n0 n1
  rw[aL s k h1 _ _ (TM.fN_3n _ _ _ _ _ (by omega) (by omega) (by omega) (by omega))]
  exact zH (by first | rfl | (unfold ae;first | rfl | (apply Prod.ext <;> simp)))
 have q0:(ae s k == 224)=true:=by rw[beq_iff_eq];omega
 have q1:(ae s k == 237)=false:=by rw[beq_eq_false_iff_ne];omega
 clear n0 n1
 go_enter Tryz.func197,Tryz.ntmps197
 go_wp2_with (go_at_call 225;refine(aQ _ _ _ _ _ (by omega)).mono ?_;rintro e w' ⟨rfl,rfl⟩)
 go_ret2
 exact⟨aN hv.out,0,rfl⟩
set_option maxRecDepth 100000 in
set_option maxHeartbeats 1000000 in
theorem form_e(s:ByteArray)(k:Nat)(w:World)(hs:s.size<=140737488351232)(h1:k<s.size)(c0:225<=ae s k)(c1:ae s k<=236)(m0:aG s ((k:Int)+1) 128 191=true)(m1:aG s ((k:Int)+2) 128 191=true) :
 Calls Tryz.prog 197 #[.string s,.int .i64 k] w fun e w'=>e=.returned (.tuple #[.int .i64 (au s k).1,.int .i64 (au s k).2])/\∃n,w'=w.drewN n:=by
 have b0:=ag s k
 have b1:=ag s (k+1)
 have b2:=ag s (k+2)
 have b3:=ag s (k+3)
 have n0:=aM s k 1 128 191 m0
 have n1:=aM s k 2 128 191 m1
 have g0:=an s k h1
 have l1:k+1<s.size:=by omega
 have g1:=an s (k+1) l1
 have x1:=and63 (ae s (k+1)) b1.1 b1.2
 have l2:k+2<s.size:=by omega
 have g2:=an s (k+2) l2
 have x2:=and63 (ae s (k+2)) b2.1 b2.2
 have x0:=and15 (ae s k) b0.1 b0.2
 have hv:Hid (au s k=(ae s k % 16*4096+ae s (k+1) % 64*64+ae s (k+2) % 64,3)):=by
  unfold ae at b0 b1 b2 b3 c0 c1 n0 n1
  rw[aL s k h1 _ _ (TM.fN_3 _ _ _ _ _ (by omega) (by omega) (by omega) (by omega) (by omega))]
  exact zH (by first | rfl | (unfold ae;first | rfl | (apply Prod.ext <;> simp)))
 have q0:(ae s k == 224)=false:=by rw[beq_eq_false_iff_ne];omega
 have q1:(ae s k == 237)=false:=by rw[beq_eq_false_iff_ne];omega
 clear n0 n1
 go_enter Tryz.func197,Tryz.ntmps197
 go_wp2_with (go_at_call 225;refine(aQ _ _ _ _ _ (by omega)).mono ?_;rintro e w' ⟨rfl,rfl⟩)
 have y1:IntKind.i64.wrap ((k:Int)+1)=(k:Int)+1:=IntWalk.i64_in _ (by omega)
 have y2:IntKind.i64.wrap ((k:Int)+2)=(k:Int)+2:=IntWalk.i64_in _ (by omega)
 have z1:(0:Int)<=(k:Int)+1/\(k:Int)+1<s.size:=by omega
 have z2:(0:Int)<=(k:Int)+2/\(k:Int)+2<s.size:=by omega
 have t1:((k:Int)+1).toNat=k+1:=by omega
 have t2:((k:Int)+2).toNat=k+2:=by omega
 go_quiet (fail)
 clear y1 z1 t1 y2 z2 t2
 go_wp2
 go_ret2
 exact⟨aN hv.out,_,rfl⟩
set_option maxRecDepth 100000 in
set_option maxHeartbeats 1000000 in
theorem form_en1(s:ByteArray)(k:Nat)(w:World)(hs:s.size<=140737488351232)(h1:k<s.size)(c0:225<=ae s k)(c1:ae s k<=236)(m0:aG s ((k:Int)+1) 128 191=false) :
 Calls Tryz.prog 197 #[.string s,.int .i64 k] w fun e w'=>e=.returned (.tuple #[.int .i64 (au s k).1,.int .i64 (au s k).2])/\∃n,w'=w.drewN n:=by
 have b0:=ag s k
 have b1:=ag s (k+1)
 have b2:=ag s (k+2)
 have b3:=ag s (k+3)
 have n0:=cC s k 1 128 191 m0
 have g0:=an s k h1
 have hv:Hid (au s k=(0,0)):=by
  unfold ae at b0 b1 b2 b3 c0 c1 n0
  rw[aL s k h1 _ _ (TM.fN_3n _ _ _ _ _ (by omega) (by omega) (by omega) (by omega))]
  exact zH (by first | rfl | (unfold ae;first | rfl | (apply Prod.ext <;> simp)))
 have q0:(ae s k == 224)=false:=by rw[beq_eq_false_iff_ne];omega
 have q1:(ae s k == 237)=false:=by rw[beq_eq_false_iff_ne];omega
 clear n0
 go_enter Tryz.func197,Tryz.ntmps197
 go_wp2_with (go_at_call 225;refine(aQ _ _ _ _ _ (by omega)).mono ?_;rintro e w' ⟨rfl,rfl⟩)
 go_ret2
 exact⟨aN hv.out,0,rfl⟩
set_option maxRecDepth 100000 in
set_option maxHeartbeats 1000000 in
theorem form_en2(s:ByteArray)(k:Nat)(w:World)(hs:s.size<=140737488351232)(h1:k<s.size)(c0:225<=ae s k)(c1:ae s k<=236)(m0:aG s ((k:Int)+1) 128 191=true)(m1:aG s ((k:Int)+2) 128 191=false) :
 Calls Tryz.prog 197 #[.string s,.int .i64 k] w fun e w'=>e=.returned (.tuple #[.int .i64 (au s k).1,.int .i64 (au s k).2])/\∃n,w'=w.drewN n:=by
 have b0:=ag s k
 have b1:=ag s (k+1)
 have b2:=ag s (k+2)
 have b3:=ag s (k+3)
 have n0:=aM s k 1 128 191 m0
 have n1:=cC s k 2 128 191 m1
 have g0:=an s k h1
 have hv:Hid (au s k=(0,0)):=by
  unfold ae at b0 b1 b2 b3 c0 c1 n0 n1
  rw[aL s k h1 _ _ (TM.fN_3n _ _ _ _ _ (by omega) (by omega) (by omega) (by omega))]
  exact zH (by first | rfl | (unfold ae;first | rfl | (apply Prod.ext <;> simp)))
 have q0:(ae s k == 224)=false:=by rw[beq_eq_false_iff_ne];omega
 have q1:(ae s k == 237)=false:=by rw[beq_eq_false_iff_ne];omega
 clear n0 n1
 go_enter Tryz.func197,Tryz.ntmps197
 go_wp2_with (go_at_call 225;refine(aQ _ _ _ _ _ (by omega)).mono ?_;rintro e w' ⟨rfl,rfl⟩)
 go_ret2
 exact⟨aN hv.out,0,rfl⟩
set_option maxRecDepth 100000 in
set_option maxHeartbeats 1000000 in
theorem form_f(s:ByteArray)(k:Nat)(w:World)(hs:s.size<=140737488351232)(h1:k<s.size)(c0:237<=ae s k)(c1:ae s k<=237)(m0:aG s ((k:Int)+1) 128 159=true)(m1:aG s ((k:Int)+2) 128 191=true) :
 Calls Tryz.prog 197 #[.string s,.int .i64 k] w fun e w'=>e=.returned (.tuple #[.int .i64 (au s k).1,.int .i64 (au s k).2])/\∃n,w'=w.drewN n:=by
 have b0:=ag s k
 have b1:=ag s (k+1)
 have b2:=ag s (k+2)
 have b3:=ag s (k+3)
 have n0:=aM s k 1 128 159 m0
 have n1:=aM s k 2 128 191 m1
 have g0:=an s k h1
 have l1:k+1<s.size:=by omega
 have g1:=an s (k+1) l1
 have x1:=and63 (ae s (k+1)) b1.1 b1.2
 have l2:k+2<s.size:=by omega
 have g2:=an s (k+2) l2
 have x2:=and63 (ae s (k+2)) b2.1 b2.2
 have x0:=and15 (ae s k) b0.1 b0.2
 have hv:Hid (au s k=(ae s k % 16*4096+ae s (k+1) % 64*64+ae s (k+2) % 64,3)):=by
  unfold ae at b0 b1 b2 b3 c0 c1 n0 n1
  rw[aL s k h1 _ _ (TM.fN_3 _ _ _ _ _ (by omega) (by omega) (by omega) (by omega) (by omega))]
  exact zH (by first | rfl | (unfold ae;first | rfl | (apply Prod.ext <;> simp)))
 have q0:(ae s k == 224)=false:=by rw[beq_eq_false_iff_ne];omega
 have q1:(ae s k == 237)=true:=by rw[beq_iff_eq];omega
 clear n0 n1
 go_enter Tryz.func197,Tryz.ntmps197
 go_wp2_with (go_at_call 225;refine(aQ _ _ _ _ _ (by omega)).mono ?_;rintro e w' ⟨rfl,rfl⟩)
 have y1:IntKind.i64.wrap ((k:Int)+1)=(k:Int)+1:=IntWalk.i64_in _ (by omega)
 have y2:IntKind.i64.wrap ((k:Int)+2)=(k:Int)+2:=IntWalk.i64_in _ (by omega)
 have z1:(0:Int)<=(k:Int)+1/\(k:Int)+1<s.size:=by omega
 have z2:(0:Int)<=(k:Int)+2/\(k:Int)+2<s.size:=by omega
 have t1:((k:Int)+1).toNat=k+1:=by omega
 have t2:((k:Int)+2).toNat=k+2:=by omega
 go_quiet (fail)
 clear y1 z1 t1 y2 z2 t2
 go_wp2
 go_ret2
 exact⟨aN hv.out,_,rfl⟩
set_option maxRecDepth 100000 in
set_option maxHeartbeats 1000000 in
theorem form_fn1(s:ByteArray)(k:Nat)(w:World)(hs:s.size<=140737488351232)(h1:k<s.size)(c0:237<=ae s k)(c1:ae s k<=237)(m0:aG s ((k:Int)+1) 128 159=false) :
 Calls Tryz.prog 197 #[.string s,.int .i64 k] w fun e w'=>e=.returned (.tuple #[.int .i64 (au s k).1,.int .i64 (au s k).2])/\∃n,w'=w.drewN n:=by
 have b0:=ag s k
 have b1:=ag s (k+1)
 have b2:=ag s (k+2)
 have b3:=ag s (k+3)
 have n0:=cC s k 1 128 159 m0
 have g0:=an s k h1
 have hv:Hid (au s k=(0,0)):=by
  unfold ae at b0 b1 b2 b3 c0 c1 n0
  rw[aL s k h1 _ _ (TM.fN_3n _ _ _ _ _ (by omega) (by omega) (by omega) (by omega))]
  exact zH (by first | rfl | (unfold ae;first | rfl | (apply Prod.ext <;> simp)))
 have q0:(ae s k == 224)=false:=by rw[beq_eq_false_iff_ne];omega
 have q1:(ae s k == 237)=true:=by rw[beq_iff_eq];omega
 clear n0
 go_enter Tryz.func197,Tryz.ntmps197
 go_wp2_with (go_at_call 225;refine(aQ _ _ _ _ _ (by omega)).mono ?_;rintro e w' ⟨rfl,rfl⟩)
 go_ret2
 exact⟨aN hv.out,0,rfl⟩
set_option maxRecDepth 100000 in
set_option maxHeartbeats 1000000 in
theorem form_fn2(s:ByteArray)(k:Nat)(w:World)(hs:s.size<=140737488351232)(h1:k<s.size)(c0:237<=ae s k)(c1:ae s k<=237)(m0:aG s ((k:Int)+1) 128 159=true)(m1:aG s ((k:Int)+2) 128 191=false) :
 Calls Tryz.prog 197 #[.string s,.int .i64 k] w fun e w'=>e=.returned (.tuple #[.int .i64 (au s k).1,.int .i64 (au s k).2])/\∃n,w'=w.drewN n:=by
 have b0:=ag s k
 have b1:=ag s (k+1)
 have b2:=ag s (k+2)
 have b3:=ag s (k+3)
 have n0:=aM s k 1 128 159 m0
 have n1:=cC s k 2 128 191 m1
 have g0:=an s k h1
 have hv:Hid (au s k=(0,0)):=by
  unfold ae at b0 b1 b2 b3 c0 c1 n0 n1
  rw[aL s k h1 _ _ (TM.fN_3n _ _ _ _ _ (by omega) (by omega) (by omega) (by omega))]
  exact zH (by first | rfl | (unfold ae;first | rfl | (apply Prod.ext <;> simp)))
 have q0:(ae s k == 224)=false:=by rw[beq_eq_false_iff_ne];omega
 have q1:(ae s k == 237)=true:=by rw[beq_iff_eq];omega
 clear n0 n1
 go_enter Tryz.func197,Tryz.ntmps197
 go_wp2_with (go_at_call 225;refine(aQ _ _ _ _ _ (by omega)).mono ?_;rintro e w' ⟨rfl,rfl⟩)
 go_ret2
 exact⟨aN hv.out,0,rfl⟩
set_option maxRecDepth 100000 in
set_option maxHeartbeats 1000000 in
theorem form_g(s:ByteArray)(k:Nat)(w:World)(hs:s.size<=140737488351232)(h1:k<s.size)(c0:238<=ae s k)(c1:ae s k<=239)(m0:aG s ((k:Int)+1) 128 191=true)(m1:aG s ((k:Int)+2) 128 191=true) :
 Calls Tryz.prog 197 #[.string s,.int .i64 k] w fun e w'=>e=.returned (.tuple #[.int .i64 (au s k).1,.int .i64 (au s k).2])/\∃n,w'=w.drewN n:=by
 have b0:=ag s k
 have b1:=ag s (k+1)
 have b2:=ag s (k+2)
 have b3:=ag s (k+3)
 have n0:=aM s k 1 128 191 m0
 have n1:=aM s k 2 128 191 m1
 have g0:=an s k h1
 have l1:k+1<s.size:=by omega
 have g1:=an s (k+1) l1
 have x1:=and63 (ae s (k+1)) b1.1 b1.2
 have l2:k+2<s.size:=by omega
 have g2:=an s (k+2) l2
 have x2:=and63 (ae s (k+2)) b2.1 b2.2
 have x0:=and15 (ae s k) b0.1 b0.2
 have hv:Hid (au s k=(ae s k % 16*4096+ae s (k+1) % 64*64+ae s (k+2) % 64,3)):=by
  unfold ae at b0 b1 b2 b3 c0 c1 n0 n1
  rw[aL s k h1 _ _ (TM.fN_3 _ _ _ _ _ (by omega) (by omega) (by omega) (by omega) (by omega))]
  exact zH (by first | rfl | (unfold ae;first | rfl | (apply Prod.ext <;> simp)))
 have q0:(ae s k == 224)=false:=by rw[beq_eq_false_iff_ne];omega
 have q1:(ae s k == 237)=false:=by rw[beq_eq_false_iff_ne];omega
 clear n0 n1
 go_enter Tryz.func197,Tryz.ntmps197
 go_wp2_with (go_at_call 225;refine(aQ _ _ _ _ _ (by omega)).mono ?_;rintro e w' ⟨rfl,rfl⟩)
 have y1:IntKind.i64.wrap ((k:Int)+1)=(k:Int)+1:=IntWalk.i64_in _ (by omega)
 have y2:IntKind.i64.wrap ((k:Int)+2)=(k:Int)+2:=IntWalk.i64_in _ (by omega)
 have z1:(0:Int)<=(k:Int)+1/\(k:Int)+1<s.size:=by omega
 have z2:(0:Int)<=(k:Int)+2/\(k:Int)+2<s.size:=by omega
 have t1:((k:Int)+1).toNat=k+1:=by omega
 have t2:((k:Int)+2).toNat=k+2:=by omega
 go_quiet (fail)
 clear y1 z1 t1 y2 z2 t2
 go_wp2
 go_ret2
 exact⟨aN hv.out,_,rfl⟩
set_option maxRecDepth 100000 in
set_option maxHeartbeats 1000000 in
theorem form_gn1(s:ByteArray)(k:Nat)(w:World)(hs:s.size<=140737488351232)(h1:k<s.size)(c0:238<=ae s k)(c1:ae s k<=239)(m0:aG s ((k:Int)+1) 128 191=false) :
 Calls Tryz.prog 197 #[.string s,.int .i64 k] w fun e w'=>e=.returned (.tuple #[.int .i64 (au s k).1,.int .i64 (au s k).2])/\∃n,w'=w.drewN n:=by
 have b0:=ag s k
 have b1:=ag s (k+1)
 have b2:=ag s (k+2)
 have b3:=ag s (k+3)
 have n0:=cC s k 1 128 191 m0
 have g0:=an s k h1
 have hv:Hid (au s k=(0,0)):=by
  unfold ae at b0 b1 b2 b3 c0 c1 n0
  rw[aL s k h1 _ _ (TM.fN_3n _ _ _ _ _ (by omega) (by omega) (by omega) (by omega))]
  exact zH (by first | rfl | (unfold ae;first | rfl | (apply Prod.ext <;> simp)))
 have q0:(ae s k == 224)=false:=by rw[beq_eq_false_iff_ne];omega
 have q1:(ae s k == 237)=false:=by rw[beq_eq_false_iff_ne];omega
 clear n0
 go_enter Tryz.func197,Tryz.ntmps197
 go_wp2_with (go_at_call 225;refine(aQ _ _ _ _ _ (by omega)).mono ?_;rintro e w' ⟨rfl,rfl⟩)
 go_ret2
 exact⟨aN hv.out,0,rfl⟩
set_option maxRecDepth 100000 in
set_option maxHeartbeats 1000000 in
theorem form_gn2(s:ByteArray)(k:Nat)(w:World)(hs:s.size<=140737488351232)(h1:k<s.size)(c0:238<=ae s k)(c1:ae s k<=239)(m0:aG s ((k:Int)+1) 128 191=true)(m1:aG s ((k:Int)+2) 128 191=false) :
 Calls Tryz.prog 197 #[.string s,.int .i64 k] w fun e w'=>e=.returned (.tuple #[.int .i64 (au s k).1,.int .i64 (au s k).2])/\∃n,w'=w.drewN n:=by
 have b0:=ag s k
 have b1:=ag s (k+1)
 have b2:=ag s (k+2)
 have b3:=ag s (k+3)
 have n0:=aM s k 1 128 191 m0
 have n1:=cC s k 2 128 191 m1
 have g0:=an s k h1
 have hv:Hid (au s k=(0,0)):=by
  unfold ae at b0 b1 b2 b3 c0 c1 n0 n1
  rw[aL s k h1 _ _ (TM.fN_3n _ _ _ _ _ (by omega) (by omega) (by omega) (by omega))]
  exact zH (by first | rfl | (unfold ae;first | rfl | (apply Prod.ext <;> simp)))
 have q0:(ae s k == 224)=false:=by rw[beq_eq_false_iff_ne];omega
 have q1:(ae s k == 237)=false:=by rw[beq_eq_false_iff_ne];omega
 clear n0 n1
 go_enter Tryz.func197,Tryz.ntmps197
 go_wp2_with (go_at_call 225;refine(aQ _ _ _ _ _ (by omega)).mono ?_;rintro e w' ⟨rfl,rfl⟩)
 go_ret2
 exact⟨aN hv.out,0,rfl⟩
end
section
open Go.RowKit
set_option maxRecDepth 100000 in
set_option maxHeartbeats 1000000 in
theorem form_h(s:ByteArray)(k:Nat)(w:World)(hs:s.size<=140737488351232)(h1:k<s.size)(c0:240<=ae s k)(c1:ae s k<=240)(m0:aG s ((k:Int)+1) 144 191=true)(m1:aG s ((k:Int)+2) 128 191=true)(m2:aG s ((k:Int)+3) 128 191=true) :
 Calls Tryz.prog 197 #[.string s,.int .i64 k] w fun e w'=>e=.returned (.tuple #[.int .i64 (au s k).1,.int .i64 (au s k).2])/\∃n,w'=w.drewN n:=by
 have b0:=ag s k
 have b1:=ag s (k+1)
 have b2:=ag s (k+2)
 have b3:=ag s (k+3)
 have n0:=aM s k 1 144 191 m0
 have n1:=aM s k 2 128 191 m1
 have n2:=aM s k 3 128 191 m2
 have g0:=an s k h1
 have l1:k+1<s.size:=by omega
 have g1:=an s (k+1) l1
 have x1:=and63 (ae s (k+1)) b1.1 b1.2
 have l2:k+2<s.size:=by omega
 have g2:=an s (k+2) l2
 have x2:=and63 (ae s (k+2)) b2.1 b2.2
 have l3:k+3<s.size:=by omega
 have g3:=an s (k+3) l3
 have x3:=and63 (ae s (k+3)) b3.1 b3.2
 have x0:=and7 (ae s k) b0.1 b0.2
 have hv:Hid (au s k=(ae s k % 8*262144+ae s (k+1) % 64*4096+ae s (k+2) % 64*64+ae s (k+3) % 64,4)):=by
  unfold ae at b0 b1 b2 b3 c0 c1 n0 n1 n2
  rw[aL s k h1 _ _ (TM.fN_4 _ _ _ _ _ (by omega) (by omega) (by omega) (by omega) (by omega) (by omega))]
  exact zH (by first | rfl | (unfold ae;first | rfl | (apply Prod.ext <;> simp)))
 have q0:(ae s k == 240)=true:=by rw[beq_iff_eq];omega
 have q1:(ae s k == 244)=false:=by rw[beq_eq_false_iff_ne];omega
 clear n0 n1 n2
 go_enter Tryz.func197,Tryz.ntmps197
 go_wp2_with (go_at_call 225;refine(aQ _ _ _ _ _ (by omega)).mono ?_;rintro e w' ⟨rfl,rfl⟩)
 have y1:IntKind.i64.wrap ((k:Int)+1)=(k:Int)+1:=IntWalk.i64_in _ (by omega)
 have y2:IntKind.i64.wrap ((k:Int)+2)=(k:Int)+2:=IntWalk.i64_in _ (by omega)
 have y3:IntKind.i64.wrap ((k:Int)+3)=(k:Int)+3:=IntWalk.i64_in _ (by omega)
 have z1:(0:Int)<=(k:Int)+1/\(k:Int)+1<s.size:=by omega
 have z2:(0:Int)<=(k:Int)+2/\(k:Int)+2<s.size:=by omega
 have z3:(0:Int)<=(k:Int)+3/\(k:Int)+3<s.size:=by omega
 have t1:((k:Int)+1).toNat=k+1:=by omega
 have t2:((k:Int)+2).toNat=k+2:=by omega
 have t3:((k:Int)+3).toNat=k+3:=by omega
 go_quiet (fail)
 clear y1 z1 t1 y2 z2 t2 y3 z3 t3
 go_wp2
 go_ret2
 exact⟨aN hv.out,_,rfl⟩
set_option maxRecDepth 100000 in
set_option maxHeartbeats 1000000 in
theorem form_hn1(s:ByteArray)(k:Nat)(w:World)(hs:s.size<=140737488351232)(h1:k<s.size)(c0:240<=ae s k)(c1:ae s k<=240)(m0:aG s ((k:Int)+1) 144 191=false) :
 Calls Tryz.prog 197 #[.string s,.int .i64 k] w fun e w'=>e=.returned (.tuple #[.int .i64 (au s k).1,.int .i64 (au s k).2])/\∃n,w'=w.drewN n:=by
 have b0:=ag s k
 have b1:=ag s (k+1)
 have b2:=ag s (k+2)
 have b3:=ag s (k+3)
 have n0:=cC s k 1 144 191 m0
 have g0:=an s k h1
 have hv:Hid (au s k=(0,0)):=by
  unfold ae at b0 b1 b2 b3 c0 c1 n0
  rw[aL s k h1 _ _ (TM.fN_4n _ _ _ _ _ (by omega) (by omega) (by omega) (by omega) (by omega))]
  exact zH (by first | rfl | (unfold ae;first | rfl | (apply Prod.ext <;> simp)))
 have q0:(ae s k == 240)=true:=by rw[beq_iff_eq];omega
 have q1:(ae s k == 244)=false:=by rw[beq_eq_false_iff_ne];omega
 clear n0
 go_enter Tryz.func197,Tryz.ntmps197
 go_wp2_with (go_at_call 225;refine(aQ _ _ _ _ _ (by omega)).mono ?_;rintro e w' ⟨rfl,rfl⟩)
 go_ret2
 exact⟨aN hv.out,0,rfl⟩
set_option maxRecDepth 100000 in
set_option maxHeartbeats 1000000 in
theorem form_hn2(s:ByteArray)(k:Nat)(w:World)(hs:s.size<=140737488351232)(h1:k<s.size)(c0:240<=ae s k)(c1:ae s k<=240)(m0:aG s ((k:Int)+1) 144 191=true)(m1:aG s ((k:Int)+2) 128 191=false) :
 Calls Tryz.prog 197 #[.string s,.int .i64 k] w fun e w'=>e=.returned (.tuple #[.int .i64 (au s k).1,.int .i64 (au s k).2])/\∃n,w'=w.drewN n:=by
 have b0:=ag s k
 have b1:=ag s (k+1)
 have b2:=ag s (k+2)
 have b3:=ag s (k+3)
 have n0:=aM s k 1 144 191 m0
 have n1:=cC s k 2 128 191 m1
 have g0:=an s k h1
 have hv:Hid (au s k=(0,0)):=by
  unfold ae at b0 b1 b2 b3 c0 c1 n0 n1
  rw[aL s k h1 _ _ (TM.fN_4n _ _ _ _ _ (by omega) (by omega) (by omega) (by omega) (by omega))]
  exact zH (by first | rfl | (unfold ae;first | rfl | (apply Prod.ext <;> simp)))
 have q0:(ae s k == 240)=true:=by rw[beq_iff_eq];omega
 have q1:(ae s k == 244)=false:=by rw[beq_eq_false_iff_ne];omega
 clear n0 n1
 go_enter Tryz.func197,Tryz.ntmps197
 go_wp2_with (go_at_call 225;refine(aQ _ _ _ _ _ (by omega)).mono ?_;rintro e w' ⟨rfl,rfl⟩)
 go_ret2
 exact⟨aN hv.out,0,rfl⟩
set_option maxRecDepth 100000 in
set_option maxHeartbeats 1000000 in
theorem form_hn3(s:ByteArray)(k:Nat)(w:World)(hs:s.size<=140737488351232)(h1:k<s.size)(c0:240<=ae s k)(c1:ae s k<=240)(m0:aG s ((k:Int)+1) 144 191=true)(m1:aG s ((k:Int)+2) 128 191=true)(m2:aG s ((k:Int)+3) 128 191=false) :
 Calls Tryz.prog 197 #[.string s,.int .i64 k] w fun e w'=>e=.returned (.tuple #[.int .i64 (au s k).1,.int .i64 (au s k).2])/\∃n,w'=w.drewN n:=by
 have b0:=ag s k
 have b1:=ag s (k+1)
 have b2:=ag s (k+2)
 have b3:=ag s (k+3)
 have n0:=aM s k 1 144 191 m0
 have n1:=aM s k 2 128 191 m1
 have n2:=cC s k 3 128 191 m2
 have g0:=an s k h1
 have hv:Hid (au s k=(0,0)):=by
  unfold ae at b0 b1 b2 b3 c0 c1 n0 n1 n2
  rw[aL s k h1 _ _ (TM.fN_4n _ _ _ _ _ (by omega) (by omega) (by omega) (by omega) (by omega))]
  exact zH (by first | rfl | (unfold ae;first | rfl | (apply Prod.ext <;> simp)))
 have q0:(ae s k == 240)=true:=by rw[beq_iff_eq];omega
 have q1:(ae s k == 244)=false:=by rw[beq_eq_false_iff_ne];omega
 clear n0 n1 n2
 go_enter Tryz.func197,Tryz.ntmps197
 go_wp2_with (go_at_call 225;refine(aQ _ _ _ _ _ (by omega)).mono ?_;rintro e w' ⟨rfl,rfl⟩)
 go_ret2
 exact⟨aN hv.out,0,rfl⟩
set_option maxRecDepth 100000 in
set_option maxHeartbeats 1000000 in
theorem form_i(s:ByteArray)(k:Nat)(w:World)(hs:s.size<=140737488351232)(h1:k<s.size)(c0:241<=ae s k)(c1:ae s k<=243)(m0:aG s ((k:Int)+1) 128 191=true)(m1:aG s ((k:Int)+2) 128 191=true)(m2:aG s ((k:Int)+3) 128 191=true) :
 Calls Tryz.prog 197 #[.string s,.int .i64 k] w fun e w'=>e=.returned (.tuple #[.int .i64 (au s k).1,.int .i64 (au s k).2])/\∃n,w'=w.drewN n:=by
 have b0:=ag s k
 have b1:=ag s (k+1)
 have b2:=ag s (k+2)
 have b3:=ag s (k+3)
 have n0:=aM s k 1 128 191 m0
 have n1:=aM s k 2 128 191 m1
 have n2:=aM s k 3 128 191 m2
 have g0:=an s k h1
 have l1:k+1<s.size:=by omega
 have g1:=an s (k+1) l1
 have x1:=and63 (ae s (k+1)) b1.1 b1.2
 have l2:k+2<s.size:=by omega
 have g2:=an s (k+2) l2
 have x2:=and63 (ae s (k+2)) b2.1 b2.2
 have l3:k+3<s.size:=by omega
 have g3:=an s (k+3) l3
 have x3:=and63 (ae s (k+3)) b3.1 b3.2
 have x0:=and7 (ae s k) b0.1 b0.2
 have hv:Hid (au s k=(ae s k % 8*262144+ae s (k+1) % 64*4096+ae s (k+2) % 64*64+ae s (k+3) % 64,4)):=by
  unfold ae at b0 b1 b2 b3 c0 c1 n0 n1 n2
  rw[aL s k h1 _ _ (TM.fN_4 _ _ _ _ _ (by omega) (by omega) (by omega) (by omega) (by omega) (by omega))]
  exact zH (by first | rfl | (unfold ae;first | rfl | (apply Prod.ext <;> simp)))
 have q0:(ae s k == 240)=false:=by rw[beq_eq_false_iff_ne];omega
 have q1:(ae s k == 244)=false:=by rw[beq_eq_false_iff_ne];omega
 clear n0 n1 n2
 go_enter Tryz.func197,Tryz.ntmps197
 go_wp2_with (go_at_call 225;refine(aQ _ _ _ _ _ (by omega)).mono ?_;rintro e w' ⟨rfl,rfl⟩)
 have y1:IntKind.i64.wrap ((k:Int)+1)=(k:Int)+1:=IntWalk.i64_in _ (by omega)
 have y2:IntKind.i64.wrap ((k:Int)+2)=(k:Int)+2:=IntWalk.i64_in _ (by omega)
 have y3:IntKind.i64.wrap ((k:Int)+3)=(k:Int)+3:=IntWalk.i64_in _ (by omega)
 have z1:(0:Int)<=(k:Int)+1/\(k:Int)+1<s.size:=by omega
 have z2:(0:Int)<=(k:Int)+2/\(k:Int)+2<s.size:=by omega
 have z3:(0:Int)<=(k:Int)+3/\(k:Int)+3<s.size:=by omega
 have t1:((k:Int)+1).toNat=k+1:=by omega
 have t2:((k:Int)+2).toNat=k+2:=by omega
 have t3:((k:Int)+3).toNat=k+3:=by omega
 go_quiet (fail)
 clear y1 z1 t1 y2 z2 t2 y3 z3 t3
 go_wp2
 go_ret2
 exact⟨aN hv.out,_,rfl⟩
set_option maxRecDepth 100000 in
set_option maxHeartbeats 1000000 in
theorem form_in1(s:ByteArray)(k:Nat)(w:World)(hs:s.size<=140737488351232)(h1:k<s.size)(c0:241<=ae s k)(c1:ae s k<=243)(m0:aG s ((k:Int)+1) 128 191=false) :
 Calls Tryz.prog 197 #[.string s,.int .i64 k] w fun e w'=>e=.returned (.tuple #[.int .i64 (au s k).1,.int .i64 (au s k).2])/\∃n,w'=w.drewN n:=by
 have b0:=ag s k
 have b1:=ag s (k+1)
 have b2:=ag s (k+2)
 have b3:=ag s (k+3)
 have n0:=cC s k 1 128 191 m0
 have g0:=an s k h1
 have hv:Hid (au s k=(0,0)):=by
  unfold ae at b0 b1 b2 b3 c0 c1 n0
  rw[aL s k h1 _ _ (TM.fN_4n _ _ _ _ _ (by omega) (by omega) (by omega) (by omega) (by omega))]
  exact zH (by first | rfl | (unfold ae;first | rfl | (apply Prod.ext <;> simp)))
 have q0:(ae s k == 240)=false:=by rw[beq_eq_false_iff_ne];omega
 have q1:(ae s k == 244)=false:=by rw[beq_eq_false_iff_ne];omega
 clear n0
 go_enter Tryz.func197,Tryz.ntmps197
 go_wp2_with (go_at_call 225;refine(aQ _ _ _ _ _ (by omega)).mono ?_;rintro e w' ⟨rfl,rfl⟩)
 go_ret2
 exact⟨aN hv.out,0,rfl⟩
set_option maxRecDepth 100000 in
set_option maxHeartbeats 1000000 in
theorem form_in2(s:ByteArray)(k:Nat)(w:World)(hs:s.size<=140737488351232)(h1:k<s.size)(c0:241<=ae s k)(c1:ae s k<=243)(m0:aG s ((k:Int)+1) 128 191=true)(m1:aG s ((k:Int)+2) 128 191=false) :
 Calls Tryz.prog 197 #[.string s,.int .i64 k] w fun e w'=>e=.returned (.tuple #[.int .i64 (au s k).1,.int .i64 (au s k).2])/\∃n,w'=w.drewN n:=by
 have b0:=ag s k
 have b1:=ag s (k+1)
 have b2:=ag s (k+2)
 have b3:=ag s (k+3)
 have n0:=aM s k 1 128 191 m0
 have n1:=cC s k 2 128 191 m1
 have g0:=an s k h1
 have hv:Hid (au s k=(0,0)):=by
  unfold ae at b0 b1 b2 b3 c0 c1 n0 n1
  rw[aL s k h1 _ _ (TM.fN_4n _ _ _ _ _ (by omega) (by omega) (by omega) (by omega) (by omega))]
  exact zH (by first | rfl | (unfold ae;first | rfl | (apply Prod.ext <;> simp)))
 have q0:(ae s k == 240)=false:=by rw[beq_eq_false_iff_ne];omega
 have q1:(ae s k == 244)=false:=by rw[beq_eq_false_iff_ne];omega
 clear n0 n1
 go_enter Tryz.func197,Tryz.ntmps197
 go_wp2_with (go_at_call 225;refine(aQ _ _ _ _ _ (by omega)).mono ?_;rintro e w' ⟨rfl,rfl⟩)
 go_ret2
 exact⟨aN hv.out,0,rfl⟩
set_option maxRecDepth 100000 in
set_option maxHeartbeats 1000000 in
theorem form_in3(s:ByteArray)(k:Nat)(w:World)(hs:s.size<=140737488351232)(h1:k<s.size)(c0:241<=ae s k)(c1:ae s k<=243)(m0:aG s ((k:Int)+1) 128 191=true)(m1:aG s ((k:Int)+2) 128 191=true)(m2:aG s ((k:Int)+3) 128 191=false) :
 Calls Tryz.prog 197 #[.string s,.int .i64 k] w fun e w'=>e=.returned (.tuple #[.int .i64 (au s k).1,.int .i64 (au s k).2])/\∃n,w'=w.drewN n:=by
 have b0:=ag s k
 have b1:=ag s (k+1)
 have b2:=ag s (k+2)
 have b3:=ag s (k+3)
 have n0:=aM s k 1 128 191 m0
 have n1:=aM s k 2 128 191 m1
 have n2:=cC s k 3 128 191 m2
 have g0:=an s k h1
 have hv:Hid (au s k=(0,0)):=by
  unfold ae at b0 b1 b2 b3 c0 c1 n0 n1 n2
  rw[aL s k h1 _ _ (TM.fN_4n _ _ _ _ _ (by omega) (by omega) (by omega) (by omega) (by omega))]
  exact zH (by first | rfl | (unfold ae;first | rfl | (apply Prod.ext <;> simp)))
 have q0:(ae s k == 240)=false:=by rw[beq_eq_false_iff_ne];omega
 have q1:(ae s k == 244)=false:=by rw[beq_eq_false_iff_ne];omega
 clear n0 n1 n2
 go_enter Tryz.func197,Tryz.ntmps197
 go_wp2_with (go_at_call 225;refine(aQ _ _ _ _ _ (by omega)).mono ?_;rintro e w' ⟨rfl,rfl⟩)
 go_ret2
 exact⟨aN hv.out,0,rfl⟩
set_option maxRecDepth 100000 in
set_option maxHeartbeats 1000000 in
theorem form_j(s:ByteArray)(k:Nat)(w:World)(hs:s.size<=140737488351232)(h1:k<s.size)(c0:244<=ae s k)(c1:ae s k<=244)(m0:aG s ((k:Int)+1) 128 143=true)(m1:aG s ((k:Int)+2) 128 191=true)(m2:aG s ((k:Int)+3) 128 191=true) :
 Calls Tryz.prog 197 #[.string s,.int .i64 k] w fun e w'=>e=.returned (.tuple #[.int .i64 (au s k).1,.int .i64 (au s k).2])/\∃n,w'=w.drewN n:=by
 have b0:=ag s k
 have b1:=ag s (k+1)
 have b2:=ag s (k+2)
 have b3:=ag s (k+3)
 have n0:=aM s k 1 128 143 m0
 have n1:=aM s k 2 128 191 m1
 have n2:=aM s k 3 128 191 m2
 have g0:=an s k h1
 have l1:k+1<s.size:=by omega
 have g1:=an s (k+1) l1
 have x1:=and63 (ae s (k+1)) b1.1 b1.2
 have l2:k+2<s.size:=by omega
 have g2:=an s (k+2) l2
 have x2:=and63 (ae s (k+2)) b2.1 b2.2
 have l3:k+3<s.size:=by omega
 have g3:=an s (k+3) l3
 have x3:=and63 (ae s (k+3)) b3.1 b3.2
 have x0:=and7 (ae s k) b0.1 b0.2
 have hv:Hid (au s k=(ae s k % 8*262144+ae s (k+1) % 64*4096+ae s (k+2) % 64*64+ae s (k+3) % 64,4)):=by
  unfold ae at b0 b1 b2 b3 c0 c1 n0 n1 n2
  rw[aL s k h1 _ _ (TM.fN_4 _ _ _ _ _ (by omega) (by omega) (by omega) (by omega) (by omega) (by omega))]
  exact zH (by first | rfl | (unfold ae;first | rfl | (apply Prod.ext <;> simp)))
 have q0:(ae s k == 240)=false:=by rw[beq_eq_false_iff_ne];omega
 have q1:(ae s k == 244)=true:=by rw[beq_iff_eq];omega
 clear n0 n1 n2
 go_enter Tryz.func197,Tryz.ntmps197
 go_wp2_with (go_at_call 225;refine(aQ _ _ _ _ _ (by omega)).mono ?_;rintro e w' ⟨rfl,rfl⟩)
 have y1:IntKind.i64.wrap ((k:Int)+1)=(k:Int)+1:=IntWalk.i64_in _ (by omega)
 have y2:IntKind.i64.wrap ((k:Int)+2)=(k:Int)+2:=IntWalk.i64_in _ (by omega)
 have y3:IntKind.i64.wrap ((k:Int)+3)=(k:Int)+3:=IntWalk.i64_in _ (by omega)
 have z1:(0:Int)<=(k:Int)+1/\(k:Int)+1<s.size:=by omega
 have z2:(0:Int)<=(k:Int)+2/\(k:Int)+2<s.size:=by omega
 have z3:(0:Int)<=(k:Int)+3/\(k:Int)+3<s.size:=by omega
 have t1:((k:Int)+1).toNat=k+1:=by omega
 have t2:((k:Int)+2).toNat=k+2:=by omega
 have t3:((k:Int)+3).toNat=k+3:=by omega
 go_quiet (fail)
 clear y1 z1 t1 y2 z2 t2 y3 z3 t3
 go_wp2
 go_ret2
 exact⟨aN hv.out,_,rfl⟩
set_option maxRecDepth 100000 in
set_option maxHeartbeats 1000000 in
theorem form_jn1(s:ByteArray)(k:Nat)(w:World)(hs:s.size<=140737488351232)(h1:k<s.size)(c0:244<=ae s k)(c1:ae s k<=244)(m0:aG s ((k:Int)+1) 128 143=false) :
 Calls Tryz.prog 197 #[.string s,.int .i64 k] w fun e w'=>e=.returned (.tuple #[.int .i64 (au s k).1,.int .i64 (au s k).2])/\∃n,w'=w.drewN n:=by
 have b0:=ag s k
 have b1:=ag s (k+1)
 have b2:=ag s (k+2)
 have b3:=ag s (k+3)
 have n0:=cC s k 1 128 143 m0
 have g0:=an s k h1
 have hv:Hid (au s k=(0,0)):=by
  unfold ae at b0 b1 b2 b3 c0 c1 n0
  rw[aL s k h1 _ _ (TM.fN_4n _ _ _ _ _ (by omega) (by omega) (by omega) (by omega) (by omega))]
  exact zH (by first | rfl | (unfold ae;first | rfl | (apply Prod.ext <;> simp)))
 have q0:(ae s k == 240)=false:=by rw[beq_eq_false_iff_ne];omega
 have q1:(ae s k == 244)=true:=by rw[beq_iff_eq];omega
 clear n0
 go_enter Tryz.func197,Tryz.ntmps197
 go_wp2_with (go_at_call 225;refine(aQ _ _ _ _ _ (by omega)).mono ?_;rintro e w' ⟨rfl,rfl⟩)
 go_ret2
 exact⟨aN hv.out,0,rfl⟩
set_option maxRecDepth 100000 in
set_option maxHeartbeats 1000000 in
theorem form_jn2(s:ByteArray)(k:Nat)(w:World)(hs:s.size<=140737488351232)(h1:k<s.size)(c0:244<=ae s k)(c1:ae s k<=244)(m0:aG s ((k:Int)+1) 128 143=true)(m1:aG s ((k:Int)+2) 128 191=false) :
 Calls Tryz.prog 197 #[.string s,.int .i64 k] w fun e w'=>e=.returned (.tuple #[.int .i64 (au s k).1,.int .i64 (au s k).2])/\∃n,w'=w.drewN n:=by
 have b0:=ag s k
 have b1:=ag s (k+1)
 have b2:=ag s (k+2)
 have b3:=ag s (k+3)
 have n0:=aM s k 1 128 143 m0
 have n1:=cC s k 2 128 191 m1
 have g0:=an s k h1
 have hv:Hid (au s k=(0,0)):=by
  unfold ae at b0 b1 b2 b3 c0 c1 n0 n1
  rw[aL s k h1 _ _ (TM.fN_4n _ _ _ _ _ (by omega) (by omega) (by omega) (by omega) (by omega))]
  exact zH (by first | rfl | (unfold ae;first | rfl | (apply Prod.ext <;> simp)))
 have q0:(ae s k == 240)=false:=by rw[beq_eq_false_iff_ne];omega
 have q1:(ae s k == 244)=true:=by rw[beq_iff_eq];omega
 clear n0 n1
 go_enter Tryz.func197,Tryz.ntmps197
 go_wp2_with (go_at_call 225;refine(aQ _ _ _ _ _ (by omega)).mono ?_;rintro e w' ⟨rfl,rfl⟩)
 go_ret2
 exact⟨aN hv.out,0,rfl⟩
set_option maxRecDepth 100000 in
set_option maxHeartbeats 1000000 in
theorem form_jn3(s:ByteArray)(k:Nat)(w:World)(hs:s.size<=140737488351232)(h1:k<s.size)(c0:244<=ae s k)(c1:ae s k<=244)(m0:aG s ((k:Int)+1) 128 143=true)(m1:aG s ((k:Int)+2) 128 191=true)(m2:aG s ((k:Int)+3) 128 191=false) :
 Calls Tryz.prog 197 #[.string s,.int .i64 k] w fun e w'=>e=.returned (.tuple #[.int .i64 (au s k).1,.int .i64 (au s k).2])/\∃n,w'=w.drewN n:=by
 have b0:=ag s k
 have b1:=ag s (k+1)
 have b2:=ag s (k+2)
 have b3:=ag s (k+3)
 have n0:=aM s k 1 128 143 m0
 have n1:=aM s k 2 128 191 m1
 have n2:=cC s k 3 128 191 m2
 have g0:=an s k h1
 have hv:Hid (au s k=(0,0)):=by
  unfold ae at b0 b1 b2 b3 c0 c1 n0 n1 n2
  rw[aL s k h1 _ _ (TM.fN_4n _ _ _ _ _ (by omega) (by omega) (by omega) (by omega) (by omega))]
  exact zH (by first | rfl | (unfold ae;first | rfl | (apply Prod.ext <;> simp)))
 have q0:(ae s k == 240)=false:=by rw[beq_eq_false_iff_ne];omega
 have q1:(ae s k == 244)=true:=by rw[beq_iff_eq];omega
 clear n0 n1 n2
 go_enter Tryz.func197,Tryz.ntmps197
 go_wp2_with (go_at_call 225;refine(aQ _ _ _ _ _ (by omega)).mono ?_;rintro e w' ⟨rfl,rfl⟩)
 go_ret2
 exact⟨aN hv.out,0,rfl⟩
end
section
open Go.RowKit
set_option maxRecDepth 100000 in
set_option maxHeartbeats 400000 in
theorem form_out(s:ByteArray)(i:Int)(w:World)(h:i<0∨(s.size:Int)<=i) :
 Calls Tryz.prog 197 #[.string s,.int .i64 i] w fun e w'=>e=.returned (.tuple #[.int .i64 (au s i).1,.int .i64 (au s i).2])/\∃n,w'=w.drewN n:=by
 have hv:=zH (formI_out s i (by omega))
 rcases h with h | h
 ·go_enter Tryz.func197,Tryz.ntmps197
  go_wp2
  go_ret2
  exact⟨aN hv.out,0,rfl⟩
 ·have h0:0<=i:=by omega
  go_enter Tryz.func197,Tryz.ntmps197
  go_wp2
  go_ret2
  exact⟨aN hv.out,0,rfl⟩
theorem fg(s:ByteArray)(i:Int)(w:World)(hs:s.size<=140737488351232) :
 Calls Tryz.prog 197 #[.string s,.int .i64 i] w fun e w'=>e=.returned (.tuple #[.int .i64 (au s i).1,.int .i64 (au s i).2])/\∃n,w'=w.drewN n:=by
 by_cases h:0<=i/\i<s.size
 ·obtain⟨k,rfl⟩:=Int.eq_ofNat_of_zero_le h.1
  have h1:k<s.size:=by omega
  have hb:=ag s k
  rcases (show ae s k<=127∨(128<=ae s k/\ae s k<=193)∨(194<=ae s k/\ae s k<=223)∨(224<=ae s k/\ae s k<=224)∨(225<=ae s k/\ae s k<=236)∨(237<=ae s k/\ae s k<=237) ∨
   (238<=ae s k/\ae s k<=239)∨(240<=ae s k/\ae s k<=240)∨(241<=ae s k/\ae s k<=243)∨(244<=ae s k/\ae s k<=244)∨245<=ae s k by omega)
   with c | ⟨c,d⟩ | ⟨c,d⟩ | ⟨c,d⟩ | ⟨c,d⟩ | ⟨c,d⟩ | ⟨c,d⟩ | ⟨c,d⟩ | ⟨c,d⟩ | ⟨c,d⟩ | c
  ·exact form_a s k w hs h1 hb.1 c
  ·exact form_b s k w hs h1 c d
  ·cases m:aG s ((k:Int)+1) 128 191
   ·exact form_cn s k w hs h1 c d m
   ·exact form_c s k w hs h1 c d m
  ·cases m:aG s ((k:Int)+1) 160 191
   ·exact form_dn1 s k w hs h1 c d m
   ·cases m2:aG s ((k:Int)+2) 128 191
    ·exact form_dn2 s k w hs h1 c d m m2
    ·exact form_d s k w hs h1 c d m m2
  ·cases m:aG s ((k:Int)+1) 128 191
   ·exact form_en1 s k w hs h1 c d m
   ·cases m2:aG s ((k:Int)+2) 128 191
    ·exact form_en2 s k w hs h1 c d m m2
    ·exact form_e s k w hs h1 c d m m2
  ·cases m:aG s ((k:Int)+1) 128 159
   ·exact form_fn1 s k w hs h1 c d m
   ·cases m2:aG s ((k:Int)+2) 128 191
    ·exact form_fn2 s k w hs h1 c d m m2
    ·exact form_f s k w hs h1 c d m m2
  ·cases m:aG s ((k:Int)+1) 128 191
   ·exact form_gn1 s k w hs h1 c d m
   ·cases m2:aG s ((k:Int)+2) 128 191
    ·exact form_gn2 s k w hs h1 c d m m2
    ·exact form_g s k w hs h1 c d m m2
  ·cases m:aG s ((k:Int)+1) 144 191
   ·exact form_hn1 s k w hs h1 c d m
   ·cases m2:aG s ((k:Int)+2) 128 191
    ·exact form_hn2 s k w hs h1 c d m m2
    ·cases m3:aG s ((k:Int)+3) 128 191
     ·exact form_hn3 s k w hs h1 c d m m2 m3
     ·exact form_h s k w hs h1 c d m m2 m3
  ·cases m:aG s ((k:Int)+1) 128 191
   ·exact form_in1 s k w hs h1 c d m
   ·cases m2:aG s ((k:Int)+2) 128 191
    ·exact form_in2 s k w hs h1 c d m m2
    ·cases m3:aG s ((k:Int)+3) 128 191
     ·exact form_in3 s k w hs h1 c d m m2 m3
     ·exact form_i s k w hs h1 c d m m2 m3
  ·cases m:aG s ((k:Int)+1) 128 143
   ·exact form_jn1 s k w hs h1 c d m
   ·cases m2:aG s ((k:Int)+2) 128 191
    ·exact form_jn2 s k w hs h1 c d m m2
    ·cases m3:aG s ((k:Int)+3) 128 191
     ·exact form_jn3 s k w hs h1 c d m m2 m3
     ·exact form_j s k w hs h1 c d m m2 m3
  ·exact form_z s k w hs h1 c hb.2
 ·exact form_out s i w (by omega)
set_option maxHeartbeats 400000 in
theorem mC(s:ByteArray)(k:Nat)(w:World)(hs:s.size<=140737488351232)(h:k<s.size) :
 Calls Tryz.prog 196 #[.string s,.int .i64 k] w fun e w'=>e=.returned (.int .i64 ((k+wd s k:Nat):Int))/\∃n,w'=w.drewN n:=by
 have h4:=pM s k
 have h1:=iJ s k
 cases hb:badB s k
 ·have hf:=jy s k h hb
  have hz:((wd s k:Int) == 0)=false:=by rw[beq_eq_false_iff_ne];omega
  go_enter Tryz.func196,Tryz.ntmps196
  go_wp2_with fail
  refine(fg s k w hs).mono ?_
  rintro e w1 ⟨rfl,n,rfl⟩
  rw[hf]
  go_wp2_with fail
  go_ret
  exact⟨bL (by omega),_,rfl⟩
 ·have hf:=od s k h hb
  have hw:=zH (show wd s k=1 by unfold badB at hb;simp at hb;exact hb.2)
  go_enter Tryz.func196,Tryz.ntmps196
  go_wp2_with fail
  refine(fg s k w hs).mono ?_
  rintro e w1 ⟨rfl,n,rfl⟩
  rw[hf]
  go_wp2_with fail
  go_ret
  exact⟨bL (by rw[hw.out];omega),_,rfl⟩
end
section
open Go.RowKit
def inB(f t r:Int):Bool:=decide (f<=r) && decide (r<=t)
def cd(r:Int):Bool:=inB 97 122 r || inB 65 90 r || (r == 95) || inB 945 969 r || (inB 913 937 r && r != 930)
def gC(r:Int):Bool:=inB 48 57 r
set_option maxHeartbeats 400000 in
theorem dk(r:Int)(w:World) :
 Calls Tryz.prog 226 #[.int .i32 r] w fun e w'=>e=.returned (.func (.func 232) #[] #[.pointer (some ⟨w.heap.size,0,none⟩)])/\w'=w.alloc (.cells #[.int .i32 r] 21):=by
 go_enter Tryz.func226,Tryz.ntmps226
 go_wp2
 go_ret
 exact⟨rfl,rfl⟩
set_option maxHeartbeats 400000 in
theorem jz(f t r:Int)(B:Nat)(w:World)(hc:w.cell? ⟨B,0,none⟩=some (.int .i32 r)) :
 Calls Tryz.prog 232 #[.int .i32 f,.int .i32 t,.pointer (some ⟨B,0,none⟩)] w fun e w'=>e=.returned (.bool (inB f t r))/\w=w':=by
 by_cases h:f<=r
 ·have hv:=zH (show decide (r<=t)=inB f t r by unfold inB;rw[decide_eq_true h,Bool.true_and])
  go_enter Tryz.func232,Tryz.ntmps232
  go_wp2
  go_ret
  exact⟨af hv.out,rfl⟩
 ·have hv:=zH (show false=inB f t r by unfold inB;rw[decide_eq_false h,Bool.false_and])
  have h:r<f:=by omega
  go_enter Tryz.func232,Tryz.ntmps232
  go_wp2
  go_ret
  exact⟨af hv.out,rfl⟩
theorem re(W:World)(v:Value)(t:TypeId):(W.alloc (.cells #[v] t)).cell? ⟨W.heap.size,0,none⟩=some v:=by
 rw[World.cell?_alloc_at _ _ _ _ rfl];rfl
theorem oe(W:World)(o:Obj):Below W.heap.size W (W.alloc o):=(Below.refl _ _).alloc (Nat.le_refl _) _
set_option maxHeartbeats 800000 in
theorem eP(r:Int)(w:World) :
 Calls Tryz.prog 203 #[.int .i32 r] w fun e w'=>e=.returned (.bool (cd r))/\Below w.heap.size w w':=by
 have hcell:=re w (.int .i32 r) 21
 have hB:=oe w (.cells #[.int .i32 r] 21)
 cases c1:inB 97 122 r
 ·cases c2:inB 65 90 r
  ·cases c3:(r == 95)
   ·cases c4:inB 945 969 r
    ·cases c5:inB 913 937 r
     ·have hv:=zH (show cd r=false by unfold cd;rw[c1,c2,c3,c4,c5];rfl)
      go_enter Tryz.func203,Tryz.ntmps203
      go_wp2_with (first | (go_at_call 226;refine(dk _ _).mono ?_;rintro e w' ⟨rfl,rfl⟩) | (go_at_call 232;refine(jz _ _ _ _ _ hcell).mono ?_;rintro e w' ⟨rfl,rfl⟩))
      go_ret
      exact⟨af hv.out.symm,hB⟩
     ·have hv:=zH (show cd r=(r != 930) by unfold cd;rw[c1,c2,c3,c4,c5];rfl)
      go_enter Tryz.func203,Tryz.ntmps203
      go_wp2_with (first | (go_at_call 226;refine(dk _ _).mono ?_;rintro e w' ⟨rfl,rfl⟩) | (go_at_call 232;refine(jz _ _ _ _ _ hcell).mono ?_;rintro e w' ⟨rfl,rfl⟩))
      go_ret
      exact⟨af hv.out.symm,hB⟩
    ·have hv:=zH (show cd r=true by unfold cd;rw[c1,c2,c3,c4];rfl)
     go_enter Tryz.func203,Tryz.ntmps203
     go_wp2_with (first | (go_at_call 226;refine(dk _ _).mono ?_;rintro e w' ⟨rfl,rfl⟩) | (go_at_call 232;refine(jz _ _ _ _ _ hcell).mono ?_;rintro e w' ⟨rfl,rfl⟩))
     go_ret
     exact⟨af hv.out.symm,hB⟩
   ·have hv:=zH (show cd r=true by unfold cd;rw[c1,c2,c3];rfl)
    go_enter Tryz.func203,Tryz.ntmps203
    go_wp2_with (first | (go_at_call 226;refine(dk _ _).mono ?_;rintro e w' ⟨rfl,rfl⟩) | (go_at_call 232;refine(jz _ _ _ _ _ hcell).mono ?_;rintro e w' ⟨rfl,rfl⟩))
    go_ret
    exact⟨af hv.out.symm,hB⟩
  ·have hv:=zH (show cd r=true by unfold cd;rw[c1,c2];rfl)
   go_enter Tryz.func203,Tryz.ntmps203
   go_wp2_with (first | (go_at_call 226;refine(dk _ _).mono ?_;rintro e w' ⟨rfl,rfl⟩) | (go_at_call 232;refine(jz _ _ _ _ _ hcell).mono ?_;rintro e w' ⟨rfl,rfl⟩))
   go_ret
   exact⟨af hv.out.symm,hB⟩
 ·have hv:=zH (show cd r=true by unfold cd;rw[c1];rfl)
  go_enter Tryz.func203,Tryz.ntmps203
  go_wp2_with (first | (go_at_call 226;refine(dk _ _).mono ?_;rintro e w' ⟨rfl,rfl⟩) | (go_at_call 232;refine(jz _ _ _ _ _ hcell).mono ?_;rintro e w' ⟨rfl,rfl⟩))
  go_ret
  exact⟨af hv.out.symm,hB⟩
set_option maxHeartbeats 400000 in
theorem kJ(r:Int)(w:World) :
 Calls Tryz.prog 204 #[.int .i32 r] w fun e w'=>e=.returned (.bool (gC r))/\Below w.heap.size w w':=by
 have hcell:=re w (.int .i32 r) 21
 have hB:=oe w (.cells #[.int .i32 r] 21)
 go_enter Tryz.func204,Tryz.ntmps204
 go_wp2_with (first | (go_at_call 226;refine(dk _ _).mono ?_;rintro e w' ⟨rfl,rfl⟩) | (go_at_call 232;refine(jz _ _ _ _ _ hcell).mono ?_;rintro e w' ⟨rfl,rfl⟩))
 go_ret
 exact⟨rfl,hB⟩
theorem cu(r:Int)(b:Bool)(h:(97<=r/\r<=122∨65<=r/\r<=90∨r=95∨945<=r/\r<=969∨913<=r/\r<=937/\r≠930)↔b=true):cd r=b:=by
 rw[Bool.eq_iff_iff,<-h]
 unfold cd inB
 simp only[Bool.or_eq_true,Bool.and_eq_true,decide_eq_true_eq,beq_iff_eq,bne_iff_ne]
 omega
set_option maxHeartbeats 800000 in
theorem gw(r:Int)(w:World) :
 Calls Tryz.prog 198 #[.int .i64 r] w fun e w'=>e=.returned (.bool (cd r))/\w=w':=by
 rcases (show (r<=64)∨(65<=r/\r<=90)∨(91<=r/\r<=94)∨(95<=r/\r<=95)∨(96<=r/\r<=96)∨(97<=r/\r<=122)∨(123<=r/\r<=912)∨(913<=r/\r<=929)∨(930<=r/\r<=930)∨(931<=r/\r<=937)∨(938<=r/\r<=944)∨(945<=r/\r<=969)∨(970<=r) by omega) with h | ⟨h,k⟩ | ⟨h,k⟩ | ⟨h,k⟩ | ⟨h,k⟩ | ⟨h,k⟩ | ⟨h,k⟩ | ⟨h,k⟩ | ⟨h,k⟩ | ⟨h,k⟩ | ⟨h,k⟩ | ⟨h,k⟩ | h
 ·have hv:=zH (cu r false (by simp;omega))
  have u0:decide (r<=122)=true:=by simp;omega
  have u1:decide (r<=90)=true:=by simp;omega
  have u2:decide (r<=969)=true:=by simp;omega
  have u3:decide (r<=937)=true:=by simp;omega
  have u4:decide (97<=r)=false:=by simp;omega
  have u5:decide (65<=r)=false:=by simp;omega
  have u6:decide (945<=r)=false:=by simp;omega
  have u7:decide (913<=r)=false:=by simp;omega
  have u8:(r == 95)=false:=by simp;omega
  have u9:(r != 930)=true:=by simp;omega
  go_enter Tryz.func198,Tryz.ntmps198
  go_wp2
  go_ret
  exact⟨af hv.out.symm,rfl⟩
 ·have hv:=zH (cu r true (by simp;omega))
  have u0:decide (r<=122)=true:=by simp;omega
  have u1:decide (r<=90)=true:=by simp;omega
  have u2:decide (r<=969)=true:=by simp;omega
  have u3:decide (r<=937)=true:=by simp;omega
  have u4:decide (97<=r)=false:=by simp;omega
  have u5:decide (65<=r)=true:=by simp;omega
  have u6:decide (945<=r)=false:=by simp;omega
  have u7:decide (913<=r)=false:=by simp;omega
  have u8:(r == 95)=false:=by simp;omega
  have u9:(r != 930)=true:=by simp;omega
  go_enter Tryz.func198,Tryz.ntmps198
  go_wp2
  go_ret
  exact⟨af hv.out.symm,rfl⟩
 ·have hv:=zH (cu r false (by simp;omega))
  have u0:decide (r<=122)=true:=by simp;omega
  have u1:decide (r<=90)=false:=by simp;omega
  have u2:decide (r<=969)=true:=by simp;omega
  have u3:decide (r<=937)=true:=by simp;omega
  have u4:decide (97<=r)=false:=by simp;omega
  have u5:decide (65<=r)=true:=by simp;omega
  have u6:decide (945<=r)=false:=by simp;omega
  have u7:decide (913<=r)=false:=by simp;omega
  have u8:(r == 95)=false:=by simp;omega
  have u9:(r != 930)=true:=by simp;omega
  go_enter Tryz.func198,Tryz.ntmps198
  go_wp2
  go_ret
  exact⟨af hv.out.symm,rfl⟩
 ·have hv:=zH (cu r true (by simp;omega))
  have u0:decide (r<=122)=true:=by simp;omega
  have u1:decide (r<=90)=false:=by simp;omega
  have u2:decide (r<=969)=true:=by simp;omega
  have u3:decide (r<=937)=true:=by simp;omega
  have u4:decide (97<=r)=false:=by simp;omega
  have u5:decide (65<=r)=true:=by simp;omega
  have u6:decide (945<=r)=false:=by simp;omega
  have u7:decide (913<=r)=false:=by simp;omega
  have u8:(r == 95)=true:=by simp;omega
  have u9:(r != 930)=true:=by simp;omega
  go_enter Tryz.func198,Tryz.ntmps198
  go_wp2
  go_ret
  exact⟨af hv.out.symm,rfl⟩
 ·have hv:=zH (cu r false (by simp;omega))
  have u0:decide (r<=122)=true:=by simp;omega
  have u1:decide (r<=90)=false:=by simp;omega
  have u2:decide (r<=969)=true:=by simp;omega
  have u3:decide (r<=937)=true:=by simp;omega
  have u4:decide (97<=r)=false:=by simp;omega
  have u5:decide (65<=r)=true:=by simp;omega
  have u6:decide (945<=r)=false:=by simp;omega
  have u7:decide (913<=r)=false:=by simp;omega
  have u8:(r == 95)=false:=by simp;omega
  have u9:(r != 930)=true:=by simp;omega
  go_enter Tryz.func198,Tryz.ntmps198
  go_wp2
  go_ret
  exact⟨af hv.out.symm,rfl⟩
 ·have hv:=zH (cu r true (by simp;omega))
  have u0:decide (r<=122)=true:=by simp;omega
  have u1:decide (r<=90)=false:=by simp;omega
  have u2:decide (r<=969)=true:=by simp;omega
  have u3:decide (r<=937)=true:=by simp;omega
  have u4:decide (97<=r)=true:=by simp;omega
  have u5:decide (65<=r)=true:=by simp;omega
  have u6:decide (945<=r)=false:=by simp;omega
  have u7:decide (913<=r)=false:=by simp;omega
  have u8:(r == 95)=false:=by simp;omega
  have u9:(r != 930)=true:=by simp;omega
  go_enter Tryz.func198,Tryz.ntmps198
  go_wp2
  go_ret
  exact⟨af hv.out.symm,rfl⟩
 ·have hv:=zH (cu r false (by simp;omega))
  have u0:decide (r<=122)=false:=by simp;omega
  have u1:decide (r<=90)=false:=by simp;omega
  have u2:decide (r<=969)=true:=by simp;omega
  have u3:decide (r<=937)=true:=by simp;omega
  have u4:decide (97<=r)=true:=by simp;omega
  have u5:decide (65<=r)=true:=by simp;omega
  have u6:decide (945<=r)=false:=by simp;omega
  have u7:decide (913<=r)=false:=by simp;omega
  have u8:(r == 95)=false:=by simp;omega
  have u9:(r != 930)=true:=by simp;omega
  go_enter Tryz.func198,Tryz.ntmps198
  go_wp2
  go_ret
  exact⟨af hv.out.symm,rfl⟩
 ·have hv:=zH (cu r true (by simp;omega))
  have u0:decide (r<=122)=false:=by simp;omega
  have u1:decide (r<=90)=false:=by simp;omega
  have u2:decide (r<=969)=true:=by simp;omega
  have u3:decide (r<=937)=true:=by simp;omega
  have u4:decide (97<=r)=true:=by simp;omega
  have u5:decide (65<=r)=true:=by simp;omega
  have u6:decide (945<=r)=false:=by simp;omega
  have u7:decide (913<=r)=true:=by simp;omega
  have u8:(r == 95)=false:=by simp;omega
  have u9:(r != 930)=true:=by simp;omega
  go_enter Tryz.func198,Tryz.ntmps198
  go_wp2
  go_ret
  exact⟨af hv.out.symm,rfl⟩
 ·have hv:=zH (cu r false (by simp;omega))
  have u0:decide (r<=122)=false:=by simp;omega
  have u1:decide (r<=90)=false:=by simp;omega
  have u2:decide (r<=969)=true:=by simp;omega
  have u3:decide (r<=937)=true:=by simp;omega
  have u4:decide (97<=r)=true:=by simp;omega
  have u5:decide (65<=r)=true:=by simp;omega
  have u6:decide (945<=r)=false:=by simp;omega
  have u7:decide (913<=r)=true:=by simp;omega
  have u8:(r == 95)=false:=by simp;omega
  have u9:(r != 930)=false:=by simp;omega
  go_enter Tryz.func198,Tryz.ntmps198
  go_wp2
  go_ret
  exact⟨af hv.out.symm,rfl⟩
 ·have hv:=zH (cu r true (by simp;omega))
  have u0:decide (r<=122)=false:=by simp;omega
  have u1:decide (r<=90)=false:=by simp;omega
  have u2:decide (r<=969)=true:=by simp;omega
  have u3:decide (r<=937)=true:=by simp;omega
  have u4:decide (97<=r)=true:=by simp;omega
  have u5:decide (65<=r)=true:=by simp;omega
  have u6:decide (945<=r)=false:=by simp;omega
  have u7:decide (913<=r)=true:=by simp;omega
  have u8:(r == 95)=false:=by simp;omega
  have u9:(r != 930)=true:=by simp;omega
  go_enter Tryz.func198,Tryz.ntmps198
  go_wp2
  go_ret
  exact⟨af hv.out.symm,rfl⟩
 ·have hv:=zH (cu r false (by simp;omega))
  have u0:decide (r<=122)=false:=by simp;omega
  have u1:decide (r<=90)=false:=by simp;omega
  have u2:decide (r<=969)=true:=by simp;omega
  have u3:decide (r<=937)=false:=by simp;omega
  have u4:decide (97<=r)=true:=by simp;omega
  have u5:decide (65<=r)=true:=by simp;omega
  have u6:decide (945<=r)=false:=by simp;omega
  have u7:decide (913<=r)=true:=by simp;omega
  have u8:(r == 95)=false:=by simp;omega
  have u9:(r != 930)=true:=by simp;omega
  go_enter Tryz.func198,Tryz.ntmps198
  go_wp2
  go_ret
  exact⟨af hv.out.symm,rfl⟩
 ·have hv:=zH (cu r true (by simp;omega))
  have u0:decide (r<=122)=false:=by simp;omega
  have u1:decide (r<=90)=false:=by simp;omega
  have u2:decide (r<=969)=true:=by simp;omega
  have u3:decide (r<=937)=false:=by simp;omega
  have u4:decide (97<=r)=true:=by simp;omega
  have u5:decide (65<=r)=true:=by simp;omega
  have u6:decide (945<=r)=true:=by simp;omega
  have u7:decide (913<=r)=true:=by simp;omega
  have u8:(r == 95)=false:=by simp;omega
  have u9:(r != 930)=true:=by simp;omega
  go_enter Tryz.func198,Tryz.ntmps198
  go_wp2
  go_ret
  exact⟨af hv.out.symm,rfl⟩
 ·have hv:=zH (cu r false (by simp;omega))
  have u0:decide (r<=122)=false:=by simp;omega
  have u1:decide (r<=90)=false:=by simp;omega
  have u2:decide (r<=969)=false:=by simp;omega
  have u3:decide (r<=937)=false:=by simp;omega
  have u4:decide (97<=r)=true:=by simp;omega
  have u5:decide (65<=r)=true:=by simp;omega
  have u6:decide (945<=r)=true:=by simp;omega
  have u7:decide (913<=r)=true:=by simp;omega
  have u8:(r == 95)=false:=by simp;omega
  have u9:(r != 930)=true:=by simp;omega
  go_enter Tryz.func198,Tryz.ntmps198
  go_wp2
  go_ret
  exact⟨af hv.out.symm,rfl⟩
set_option maxHeartbeats 400000 in
theorem ig(r:Int)(w:World) :
 Calls Tryz.prog 199 #[.int .i64 r] w fun e w'=>e=.returned (.bool (gC r))/\w=w':=by
 by_cases h:48<=r
 ·have hv:=zH (show decide (r<=57)=gC r by unfold gC inB;rw[decide_eq_true h,Bool.true_and])
  go_enter Tryz.func199,Tryz.ntmps199
  go_wp2
  go_ret
  exact⟨af hv.out,rfl⟩
 ·have hv:=zH (show false=gC r by unfold gC inB;rw[decide_eq_false h,Bool.false_and])
  have h:r<48:=by omega
  go_enter Tryz.func199,Tryz.ntmps199
  go_wp2
  go_ret
  exact⟨af hv.out,rfl⟩
end
section
open Go.RowKit
def badI(s:ByteArray):Int:=match (allP s).find? (badB s) with | some p=>(p:Int) | none=>-1
theorem badI_hit(s:ByteArray)(pre:List Nat)(pos:Nat)(t:List Nat)(e:allP s=pre ++ pos :: t)(hp:∀p∈pre,badB s p=false)(hb:badB s pos=true):badI s=(pos:Int):=by
 unfold badI
 rw[e,List.find?_append,List.find?_eq_none.2 (by intro x hx;rw[hp x hx];simp)]
 simp [hb]
theorem badI_none(s:ByteArray)(pre:List Nat)(e:allP s=pre)(hp:∀p∈pre,badB s p=false):badI s = -1:=by
 unfold badI
 rw[e,List.find?_eq_none.2 (by intro x hx;rw[hp x hx];simp)]
set_option maxHeartbeats 400000 in
theorem mD(s:ByteArray)(w:World)(hs:s.size<=140737488351232) :
 Calls Tryz.prog 194 #[.string s] w fun e w'=>e=.returned (.int .i64 (badI s))/\∃n,w'=w.drewN n:=by
 go_enter Tryz.func194,Tryz.ntmps194
 go_wp2
 go_loopw [3] (fun i wr=>∃(pre:List Nat) (pos n:Nat),i=.int .i64 pos/\wr=w.drewN n/\fe s pre pos/\Hid (∀p∈pre,badB s p=false)) (fun i _=>s.size-(intOf i).toNat)
 case atStart=>exact⟨[],0,0,rfl,rfl,fe.start s,zH (by simp)⟩
 case round =>
  obtain⟨pre,pos,n,rfl,rfl,hst,hp⟩:=hrel
  have HS:=zH hst
  clear hst
  by_cases hlt:pos<s.size
  ·have h4:=pM s pos
   have h1:=iJ s pos
   cases hb:badB s pos
   ·have hf:=jy s pos hlt hb
    have hz:((wd s pos:Int) == 0)=false:=by rw[beq_eq_false_iff_ne];omega
    have HN:=zH (HS.out.next hlt)
    have HP:=zH (show ∀p∈pre ++ [pos],badB s p=false by
     intro p hm;rcases List.mem_append.1 hm with hm | hm
     ·exact hp.out p hm
     ·simp at hm;subst hm;exact hb)
    go_wp2_with fail
    refine(fg s pos _ hs).mono ?_
    rintro e w1 ⟨rfl,m,rfl⟩
    rw[hf]
    go_wp2_with fail
    go_roundw
    case rel=>exact⟨pre ++ [pos],pos+wd s pos,n+m,by go_num,rfl,HN.out,HP⟩
    case measure=>simp [intOf];omega
   ·have hf:=od s pos hlt hb
    obtain⟨t,ht⟩:=HS.out.mem hlt
    have HB:=zH (badI_hit s pre pos t ht hp.out hb)
    clear ht
    go_wp2_with fail
    refine(fg s pos _ hs).mono ?_
    rintro e w1 ⟨rfl,m,rfl⟩
    rw[hf]
    go_wp2_with fail
    go_ret
    exact⟨bL HB.out.symm,_,rfl⟩
  ·have HB:=zH (badI_none s pre (HS.out.stop hlt) hp.out)
   go_wp2_with fail
   go_ret
   exact⟨bL HB.out.symm,_,rfl⟩
set_option maxHeartbeats 400000 in
theorem mE(s:ByteArray)(w:World)(hs:s.size<=140737488351232) :
 Calls Tryz.prog 195 #[.string s] w fun e w'=>e=.returned (.int .i64 ((allP s).length:Int))/\∃n,w'=w.drewN n:=by
 go_enter Tryz.func195,Tryz.ntmps195
 go_wp2
 go_loopw [3,4] (fun c i wr=>∃(pre:List Nat) (pos n:Nat),i=.int .i64 pos/\c=.int .i64 pre.length/\wr=w.drewN n/\fe s pre pos) (fun _ i _=>s.size-(intOf i).toNat)
 case atStart=>exact⟨[],0,0,rfl,rfl,rfl,fe.start s⟩
 case round =>
  obtain⟨pre,pos,n,rfl,rfl,rfl,hst⟩:=hrel
  have hl:=hst.2.1
  have HS:=zH hst
  clear hst
  by_cases hlt:pos<s.size
  ·have h4:=pM s pos
   have h1:=iJ s pos
   have HN:=zH (HS.out.next hlt)
   go_wp2_with fail
   refine(mC s pos _ hs hlt).mono ?_
   rintro e w1 ⟨rfl,m,rfl⟩
   go_wp2_with fail
   go_roundw
   case rel=>exact⟨pre ++ [pos],pos+wd s pos,n+m,rfl,by rw[List.length_append];go_num,rfl,HN.out⟩
   case measure=>simp [intOf];omega
  ·have HB:=zH (HS.out.stop hlt)
   go_wp2_with fail
   go_ret
   exact⟨bL (by rw[HB.out]),_,rfl⟩
def okB(s:ByteArray)(p:Nat):Bool:=cd (rn s p) || (p != 0 && gC (rn s p))
def fh(s:ByteArray):Bool:=decide (0<(allP s).length) && decide ((allP s).length<=24) && (allP s).all (okB s)
theorem rn_bad(s:ByteArray)(p:Nat)(h:badB s p=true):okB s p=false:=by
 have:rn s p=65533:=by unfold badB at h;simp at h;exact h.1
 unfold okB;rw[this,show cd ((65533:Nat):Int)=false by decide,show gC ((65533:Nat):Int)=false by decide];simp
theorem badI_some(s:ByteArray)(h:0<=badI s):fh s=false:=by
 unfold badI at h
 cases hf:(allP s).find? (badB s) with
 | none=>rw[hf] at h;simp at h
 | some p =>
   have hb:=List.find?_some hf
   have hm:=List.mem_of_find?_eq_some hf
   unfold fh
   have:(allP s).all (okB s)=false:=by
    rw[List.all_eq_false];exact⟨p,hm,by rw[rn_bad s p hb];simp⟩
   rw[this];simp
theorem badI_no(s:ByteArray)(h:badI s<0):∀p∈allP s,badB s p=false:=by
 intro p hp
 unfold badI at h
 cases hf:(allP s).find? (badB s) with
 | none =>
   have:=List.find?_eq_none.1 hf p hp
   simpa using this
 | some q=>rw[hf] at h;simp at h;omega
theorem lq(s:ByteArray)(h:s.size=0):fh s=false:=by
 have:allP s=[]:=qZ s _ _ (by omega)
 unfold fh;rw[this];rfl
theorem mF(s:ByteArray)(h:24<(allP s).length):fh s=false:=by
 unfold fh;rw[decide_eq_false (show ¬(allP s).length<=24 by omega)];simp
theorem rg(s:ByteArray)(pre t:List Nat)(pos:Nat)(e:allP s=pre ++ pos :: t)(h:okB s pos=false):fh s=false:=by
 unfold fh;rw[e,List.all_append];simp [h]
theorem og(s:ByteArray)(pre:List Nat)(e:allP s=pre)(h0:0<pre.length)(h1:pre.length<=24)(h:∀p∈pre,okB s p=true):fh s=true:=by
 unfold fh;rw[e,decide_eq_true h0,decide_eq_true h1];simpa using h
theorem allP_pos(s:ByteArray)(h:0<s.size):0<(allP s).length:=by
 obtain⟨f,e,e2,_⟩:=kI s s.size 0 h (by omega)
 unfold allP;rw[e2];simp
set_option maxHeartbeats 800000 in
theorem oh(s:ByteArray)(w:World)(hs:s.size<=140737488351232) :
 Calls Tryz.prog 162 #[.string s] w fun e w'=>e=.returned (.bool (fh s))/\∃n,w'=w.drewN n:=by
 by_cases h0:s.size=0
 ·have HV:=zH (lq s h0)
  have hz:((s.size:Int) == 0)=true:=by rw[beq_iff_eq];omega
  clear h0
  go_enter Tryz.func162,Tryz.ntmps162
  go_wp2_with fail
  go_ret
  exact⟨af HV.out.symm,0,rfl⟩
 ·have hz:((s.size:Int) == 0)=false:=by rw[beq_eq_false_iff_ne];omega
  by_cases hb:0<=badI s
  ·have HV:=zH (badI_some s hb)
   go_enter Tryz.func162,Tryz.ntmps162
   go_wp2_with fail
   refine(mD s _ hs).mono ?_
   rintro e w1 ⟨rfl,m,rfl⟩
   go_wp2_with fail
   go_ret
   exact⟨af HV.out.symm,m,rfl⟩
  ·have hb:badI s<0:=by omega
   by_cases hl:24<(allP s).length
   ·have HV:=zH (mF s hl)
    have hl':(24:Int)<((allP s).length:Int):=by omega
    go_enter Tryz.func162,Tryz.ntmps162
    go_wp2_with fail
    refine(mD s _ hs).mono ?_
    rintro e w1 ⟨rfl,m,rfl⟩
    go_wp2_with fail
    refine(mE s _ hs).mono ?_
    rintro e w2 ⟨rfl,m2,rfl⟩
    go_wp2_with fail
    go_ret
    exact⟨af HV.out.symm,_,rfl⟩
   ·have hl':((allP s).length:Int)<=24:=by omega
    have HP:=zH (allP_pos s (by omega))
    have HB:=zH (badI_no s hb)
    go_enter Tryz.func162,Tryz.ntmps162
    go_wp2_with fail
    refine(mD s _ hs).mono ?_
    rintro e w1 ⟨rfl,m,rfl⟩
    go_wp2_with fail
    refine(mE s _ hs).mono ?_
    rintro e w2 ⟨rfl,m2,rfl⟩
    go_wp2_with fail
    go_loopw [3] (fun i wr=>∃(pre:List Nat) (pos n:Nat),i=.int .i64 pos/\wr=w.drewN n/\fe s pre pos/\Hid (∀p∈pre,okB s p=true)) (fun i _=>s.size-(intOf i).toNat)
    case atStart=>exact⟨[],0,m+m2,rfl,rfl,fe.start s,zH (by simp)⟩
    case round =>
     obtain⟨pre,pos,n,rfl,rfl,hst,hp⟩:=hrel
     have HS:=zH hst
     clear hst
     by_cases hlt:pos<s.size
     ·have h4:=pM s pos
      have h1:=iJ s pos
      obtain⟨t,ht⟩:=HS.out.mem hlt
      have hbad:badB s pos=false:=HB.out pos (by rw[ht];simp)
      have hf:=jy s pos hlt hbad
      have HN:=zH (HS.out.next hlt)
      have HT:=zH ht
      clear ht hbad
      have HNO:=zH (fun h=>rg s pre t pos HT.out h)
      have HP2:=zH (show okB s pos=true->∀p∈pre ++ [pos],okB s p=true by
       intro ho p hm;rcases List.mem_append.1 hm with hm | hm
       ·exact hp.out p hm
       ·simp at hm;subst hm;exact ho)
      cases hl:cd (rn s pos)
      ·by_cases hz0:pos=0
       ·have HV:=zH (HNO.out (by unfold okB;rw[hl,hz0];simp))
        have hp0:((pos:Int) == 0)=true:=by rw[beq_iff_eq];omega
        clear hz0
        go_wp2_with fail
        refine(fg s _ _ hs).mono ?_
        rintro e w1 ⟨rfl,m3,rfl⟩
        rw[hf]
        go_wp2_with (first | (go_at_call 198;refine(gw _ _).mono ?_;rintro e w' ⟨rfl,rfl⟩) | (go_at_call 199;refine(ig _ _).mono ?_;rintro e w' ⟨rfl,rfl⟩))
        go_ret
        exact⟨af HV.out.symm,_,rfl⟩
       ·have hp0:((pos:Int) == 0)=false:=by rw[beq_eq_false_iff_ne];omega
        cases hd:gC (rn s pos)
        ·have HV:=zH (HNO.out (by unfold okB;rw[hl,hd];simp))
         go_wp2_with fail
         refine(fg s _ _ hs).mono ?_
         rintro e w1 ⟨rfl,m3,rfl⟩
         rw[hf]
         go_wp2_with (first | (go_at_call 198;refine(gw _ _).mono ?_;rintro e w' ⟨rfl,rfl⟩) | (go_at_call 199;refine(ig _ _).mono ?_;rintro e w' ⟨rfl,rfl⟩))
         go_ret
         exact⟨af HV.out.symm,_,rfl⟩
        ·have HO:=zH (HP2.out (by unfold okB;rw[hd];simp [hz0]))
         go_wp2_with fail
         refine(fg s _ _ hs).mono ?_
         rintro e w1 ⟨rfl,m3,rfl⟩
         rw[hf]
         go_wp2_with (first | (go_at_call 198;refine(gw _ _).mono ?_;rintro e w' ⟨rfl,rfl⟩) | (go_at_call 199;refine(ig _ _).mono ?_;rintro e w' ⟨rfl,rfl⟩) | (go_at_call 196;refine(mC s pos _ hs hlt).mono ?_;rintro e w' ⟨rfl,m4,rfl⟩))
         go_roundw
         case rel=>exact⟨pre ++ [pos],pos+wd s pos,_,rfl,rfl,HN.out,HO⟩
         case measure=>simp [intOf];omega
      ·have HO:=zH (HP2.out (by unfold okB;rw[hl];simp))
       go_wp2_with fail
       refine(fg s _ _ hs).mono ?_
       rintro e w1 ⟨rfl,m3,rfl⟩
       rw[hf]
       go_wp2_with (first | (go_at_call 198;refine(gw _ _).mono ?_;rintro e w' ⟨rfl,rfl⟩) | (go_at_call 199;refine(ig _ _).mono ?_;rintro e w' ⟨rfl,rfl⟩) | (go_at_call 196;refine(mC s pos _ hs hlt).mono ?_;rintro e w' ⟨rfl,m4,rfl⟩))
       go_roundw
       case rel=>exact⟨pre ++ [pos],pos+wd s pos,_,rfl,rfl,HN.out,HO⟩
       case measure=>simp [intOf];omega
     ·have he:=HS.out.stop hlt
      have HV:=zH (og s pre he (by rw[<-he];exact HP.out) (by rw[<-he];omega) hp.out)
      clear he
      go_wp2_with fail
      go_ret
      exact⟨af HV.out.symm,_,rfl⟩
end
section
open Go.RowKit
def below(s:ByteArray)(at':Nat):List Nat:=(allP s).takeWhile (fun p=>decide (p<at'))
end
section
open Go.RowKit
theorem tm{P:Program}(wr:World)(B:Nat)(s:ByteArray)(pos:Nat)(ty:TypeId)(hit:wr.heap[B]?=some (.stringIter s pos))(h:pos<s.size) :
 ∃W1,(Instr.next (.pointer (some ⟨B,0,none⟩)) true ty).run P wr=.ok (.tuple #[.bool true,.int .i64 pos,.int .i32 (rn s pos)]) W1/\W1.heap[B]?=some (.stringIter s (pos+wd s pos))/\Below B wr W1/\W1.heap.size=wr.heap.size :=
 ⟨_,Lib.run_next_any_at wr B s pos ty hit h,Lib.iterAt_heap wr B s pos _ hit,Lib.below_iterAt (Below.refl _ _) (Nat.le_refl _) _ _,Lib.iterAt_size _ _ _ _⟩
theorem jA{w:World}{B:Nat}{s:ByteArray}{pos:Nat}(h:w.heap[B]?=some (.stringIter s pos)):w.iterPos B=pos:=by
 simp [World.iterPos,h]
theorem tn(w:World)(s:ByteArray):(w.iter s 0).heap[w.heap.size]?=some (.stringIter s 0)/\Below w.heap.size w (w.iter s 0):=⟨World.iter_heap w s 0,(Below.refl _ w).alloc (Nat.le_refl _) _⟩
theorem kK{W W':World}{B:Nat}{o:Obj}(h:W.heap[B]?=some o)(hb:Below W.heap.size W W'):W'.heap[B]?=some o :=
 (hb.block B (Array.getElem?_eq_some_iff.1 h).1).trans h
def NameRel(s:ByteArray)(w:World)(c:Value)(wr:World):Prop :=
 ∃(pre:List Nat) (pos:Nat),c=.int .i64 pre.length/\wr.heap[w.heap.size]?=some (.stringIter s pos)/\Below w.heap.size w wr/\fe s pre pos/\pre.length<=24/\∀p∈pre,okB s p=true
set_option maxHeartbeats 800000 in
theorem rh(s:ByteArray)(w:World)(hs:s.size<=562949953421312) :
 Calls Tryz.prog 173 #[.string s] w fun e w'=>e=.returned (.bool (fh s))/\Below w.heap.size w w':=by
 have h0:=tn w s
 go_enter Tryz.func173,Tryz.ntmps173
 go_wp2_with fail
 go_loopw [3] (fun c wr=>NameRel s w c wr) (fun _ wr=>s.size-wr.iterPos w.heap.size)
 case atStart=>exact⟨[],0,rfl,h0.1,h0.2,fe.start s,by simp,by simp⟩
 case round =>
  clear h0
  obtain⟨pre,pos,rfl,hit,hB,hst,hl,hok⟩:=hrel
  have HS:=zH hst
  have HO:=zH hok
  have hpp:=hst.2.2.1
  clear hst hok
  by_cases hlt:pos<s.size
  ·obtain⟨W1,hnx,hit1,hb1,hz1⟩:=tm (P:=Tryz.prog) wr w.heap.size s pos 0 hit hlt
   have hB1:Below w.heap.size w W1:=hB.trans hb1
   have hmeas:=zH (jA hit)
   obtain⟨t,ht⟩:=HS.out.mem hlt
   have HN:=zH (HS.out.next hlt)
   have HT:=zH ht
   clear ht hit hb1 hz1
   have HNO:=zH (fun h=>rg s pre t pos HT.out h)
   have HP2:=zH (show okB s pos=true->∀p∈pre ++ [pos],okB s p=true by
    intro ho p hm;rcases List.mem_append.1 hm with hm | hm
    ·exact HO.out p hm
    ·simp at hm;subst hm;exact ho)
   have HL:=zH (show 24<=pre.length->fh s=false by
    intro h;apply mF;rw[HT.out];simp;omega)
   cases hl1:cd (rn s pos)
   ·by_cases hz0:pos=0
    ·have HV:=zH (HNO.out (by unfold okB;rw[hl1,hz0];simp))
     have hp0:((pre.length:Int) == 0)=true:=by rw[beq_iff_eq,hpp.2 hz0];rfl
     clear hz0 hpp
     go_wp2_with fail
     refine(eP _ _).mono ?_
     rintro e w2 ⟨rfl,hb2⟩
     rw[hl1]
     go_wp2_with fail
     go_ret
     exact⟨af HV.out.symm,hB1.trans (hb2.mono hB1.size)⟩
    ·have hp0:((pre.length:Int) == 0)=false:=by
      rw[beq_eq_false_iff_ne];intro h;exact hz0 (hpp.1 (List.length_eq_zero_iff.1 (by omega)))
     clear hpp
     cases hd:gC (rn s pos)
     ·have HV:=zH (HNO.out (by unfold okB;rw[hl1,hd];simp))
      clear hz0
      go_wp2_with fail
      refine(eP _ _).mono ?_
      rintro e w2 ⟨rfl,hb2⟩
      rw[hl1]
      go_wp2_with fail
      refine(kJ _ _).mono ?_
      rintro e w3 ⟨rfl,hb3⟩
      rw[hd]
      go_wp2_with fail
      go_ret
      exact⟨af HV.out.symm,(hB1.trans (hb2.mono hB1.size)).trans (hb3.mono (Nat.le_trans hB1.size hb2.size))⟩
     ·have HK:=zH (HP2.out (by unfold okB;rw[hd];simp [hz0]))
      clear hz0
      by_cases h24:pre.length<24
      ·go_wp2_with fail
       refine(eP _ _).mono ?_
       rintro e w2 ⟨rfl,hb2⟩
       rw[hl1]
       have hit2:=kK hit1 hb2
       have hB2:=hB1.trans (hb2.mono hB1.size)
       clear hit1 hB1 hb2
       go_wp2_with fail
       refine(kJ _ _).mono ?_
       rintro e w3 ⟨rfl,hb3⟩
       rw[hd]
       have hit3:=kK hit2 hb3
       have hB3:=hB2.trans (hb3.mono hB2.size)
       clear hit2 hB2 hb3
       go_wp2_with fail
       go_roundw
       case rel=>exact⟨pre ++ [pos],pos+wd s pos,by rw[List.length_append];go_num,hit3,hB3,HN.out,by simp;omega,HK.out⟩
       case measure=>rw[jA hit3,hmeas.out];have:=iJ s pos;omega
      ·have HV:=zH (HL.out (by omega))
       have h25:(24:Int)<(pre.length:Int)+1:=by omega
       go_wp2_with fail
       refine(eP _ _).mono ?_
       rintro e w2 ⟨rfl,hb2⟩
       rw[hl1]
       go_wp2_with fail
       refine(kJ _ _).mono ?_
       rintro e w3 ⟨rfl,hb3⟩
       rw[hd]
       go_wp2_with fail
       go_ret
       exact⟨af HV.out.symm,(hB1.trans (hb2.mono hB1.size)).trans (hb3.mono (Nat.le_trans hB1.size hb2.size))⟩
   ·have HK:=zH (HP2.out (by unfold okB;rw[hl1];simp))
    clear hpp
    by_cases h24:pre.length<24
    ·go_wp2_with fail
     refine(eP _ _).mono ?_
     rintro e w2 ⟨rfl,hb2⟩
     rw[hl1]
     have hit2:=kK hit1 hb2
     have hB2:=hB1.trans (hb2.mono hB1.size)
     clear hit1 hB1 hb2
     go_wp2_with fail
     go_roundw
     case rel=>exact⟨pre ++ [pos],pos+wd s pos,by rw[List.length_append];go_num,hit2,hB2,HN.out,by simp;omega,HK.out⟩
     case measure=>rw[jA hit2,hmeas.out];have:=iJ s pos;omega
    ·have HV:=zH (HL.out (by omega))
     have h25:(24:Int)<(pre.length:Int)+1:=by omega
     go_wp2_with fail
     refine(eP _ _).mono ?_
     rintro e w2 ⟨rfl,hb2⟩
     rw[hl1]
     go_wp2_with fail
     go_ret
     exact⟨af HV.out.symm,hB1.trans (hb2.mono hB1.size)⟩
  ·have hnx:=Lib.run_next_end_at (P:=Tryz.prog) wr w.heap.size s pos 0 hit hlt
   have he:=HS.out.stop hlt
   have HV:Hid (decide (0<(pre.length:Int))=fh s):=by
    by_cases hp:0<pre.length
    ·rw[og s pre he hp hl HO.out];exact zH (by simp;omega)
    ·have:pre=[]:=List.length_eq_zero_iff.1 (by omega)
     have hz:s.size=0:=by have:=hpp.1 this;omega
     rw[lq s hz];exact zH (by simp;omega)
   clear he hpp
   go_wp2_with fail
   go_ret
   exact⟨af (by have:=HV.out;simpa using this),hB⟩
end
section
open Go.RowKit
theorem aw(s:ByteArray)(f k:Nat)(l:List UInt8)(hl:(ck k).toList=l)(h:(s.toList == l)=false):cU s (f+1) k=cU s f (k+1):=by
 subst hl
 simp only[cU]
 rw[if_neg (by intro e;rw[beq_iff_eq] at e;rw[e] at h;simp at h)]
theorem aA(s:ByteArray)(f k:Nat)(l:List UInt8)(hl:(ck k).toList=l)(h:(s.toList == l)=true):cU s (f+1) k=true:=by
 subst hl
 simp only[cU]
 rw[if_pos (by rw[beq_iff_eq] at h ⊢;exact h.symm)]
set_option maxRecDepth 100000 in
set_option maxHeartbeats 6400000 in
theorem word_any(s:ByteArray)(w:World) :
 Calls Tryz.prog 174 #[.string s] w fun e w'=>e=.returned (.bool (wordB s))/\w'=w:=by
 have HW:Hid (wordB s=cU s 26 0):=zH rfl
 cases h0:(s.toList == [97,114,114,97,121])
 rotate_left
 ·have HV:=zH (HW.out.trans (aA s 25 0 _ (by rw[ByteArray.toList_eq];rfl) h0))
  clear HW
  go_enter Tryz.func174,Tryz.ntmps174
  go_wp2_with fail
  go_ret
  exact⟨af HV.out.symm,rfl⟩
 replace HW:=zH (HW.out.trans (aw s 25 0 _ (by rw[ByteArray.toList_eq];rfl) h0))
 cases h1:(s.toList == [102,110])
 rotate_left
 ·have HV:=zH (HW.out.trans (aA s 24 1 _ (by rw[ByteArray.toList_eq];rfl) h1))
  clear HW
  go_enter Tryz.func174,Tryz.ntmps174
  go_wp2_with fail
  go_ret
  exact⟨af HV.out.symm,rfl⟩
 replace HW:=zH (HW.out.trans (aw s 24 1 _ (by rw[ByteArray.toList_eq];rfl) h1))
 cases h2:(s.toList == [99,111,110,115,116])
 rotate_left
 ·have HV:=zH (HW.out.trans (aA s 23 2 _ (by rw[ByteArray.toList_eq];rfl) h2))
  clear HW
  go_enter Tryz.func174,Tryz.ntmps174
  go_wp2_with fail
  go_ret
  exact⟨af HV.out.symm,rfl⟩
 replace HW:=zH (HW.out.trans (aw s 23 2 _ (by rw[ByteArray.toList_eq];rfl) h2))
 cases h3:(s.toList == [112,104,105])
 rotate_left
 ·have HV:=zH (HW.out.trans (aA s 22 3 _ (by rw[ByteArray.toList_eq];rfl) h3))
  clear HW
  go_enter Tryz.func174,Tryz.ntmps174
  go_wp2_with fail
  go_ret
  exact⟨af HV.out.symm,rfl⟩
 replace HW:=zH (HW.out.trans (aw s 22 3 _ (by rw[ByteArray.toList_eq];rfl) h3))
 cases h4:(s.toList == [108,111,97,100])
 rotate_left
 ·have HV:=zH (HW.out.trans (aA s 21 4 _ (by rw[ByteArray.toList_eq];rfl) h4))
  clear HW
  go_enter Tryz.func174,Tryz.ntmps174
  go_wp2_with fail
  go_ret
  exact⟨af HV.out.symm,rfl⟩
 replace HW:=zH (HW.out.trans (aw s 21 4 _ (by rw[ByteArray.toList_eq];rfl) h4))
 cases h5:(s.toList == [119,114,97,112])
 rotate_left
 ·have HV:=zH (HW.out.trans (aA s 20 5 _ (by rw[ByteArray.toList_eq];rfl) h5))
  clear HW
  go_enter Tryz.func174,Tryz.ntmps174
  go_wp2_with fail
  go_ret
  exact⟨af HV.out.symm,rfl⟩
 replace HW:=zH (HW.out.trans (aw s 20 5 _ (by rw[ByteArray.toList_eq];rfl) h5))
 cases h6:(s.toList == [115,116,111,114,101])
 rotate_left
 ·have HV:=zH (HW.out.trans (aA s 19 6 _ (by rw[ByteArray.toList_eq];rfl) h6))
  clear HW
  go_enter Tryz.func174,Tryz.ntmps174
  go_wp2_with fail
  go_ret
  exact⟨af HV.out.symm,rfl⟩
 replace HW:=zH (HW.out.trans (aw s 19 6 _ (by rw[ByteArray.toList_eq];rfl) h6))
 cases h7:(s.toList == [99,97,108,108])
 rotate_left
 ·have HV:=zH (HW.out.trans (aA s 18 7 _ (by rw[ByteArray.toList_eq];rfl) h7))
  clear HW
  go_enter Tryz.func174,Tryz.ntmps174
  go_wp2_with fail
  go_ret
  exact⟨af HV.out.symm,rfl⟩
 replace HW:=zH (HW.out.trans (aw s 18 7 _ (by rw[ByteArray.toList_eq];rfl) h7))
 cases h8:(s.toList == [105,110,112,117,116])
 rotate_left
 ·have HV:=zH (HW.out.trans (aA s 17 8 _ (by rw[ByteArray.toList_eq];rfl) h8))
  clear HW
  go_enter Tryz.func174,Tryz.ntmps174
  go_wp2_with fail
  go_ret
  exact⟨af HV.out.symm,rfl⟩
 replace HW:=zH (HW.out.trans (aw s 17 8 _ (by rw[ByteArray.toList_eq];rfl) h8))
 cases h9:(s.toList == [111,117,116,112,117,116])
 rotate_left
 ·have HV:=zH (HW.out.trans (aA s 16 9 _ (by rw[ByteArray.toList_eq];rfl) h9))
  clear HW
  go_enter Tryz.func174,Tryz.ntmps174
  go_wp2_with fail
  go_ret
  exact⟨af HV.out.symm,rfl⟩
 replace HW:=zH (HW.out.trans (aw s 16 9 _ (by rw[ByteArray.toList_eq];rfl) h9))
 cases h10:(s.toList == [114,101,108,101,97,115,101])
 rotate_left
 ·have HV:=zH (HW.out.trans (aA s 15 10 _ (by rw[ByteArray.toList_eq];rfl) h10))
  clear HW
  go_enter Tryz.func174,Tryz.ntmps174
  go_wp2_with fail
  go_ret
  exact⟨af HV.out.symm,rfl⟩
 replace HW:=zH (HW.out.trans (aw s 15 10 _ (by rw[ByteArray.toList_eq];rfl) h10))
 cases h11:(s.toList == [106,117,109,112])
 rotate_left
 ·have HV:=zH (HW.out.trans (aA s 14 11 _ (by rw[ByteArray.toList_eq];rfl) h11))
  clear HW
  go_enter Tryz.func174,Tryz.ntmps174
  go_wp2_with fail
  go_ret
  exact⟨af HV.out.symm,rfl⟩
 replace HW:=zH (HW.out.trans (aw s 14 11 _ (by rw[ByteArray.toList_eq];rfl) h11))
 cases h12:(s.toList == [98,114,97,110,99,104])
 rotate_left
 ·have HV:=zH (HW.out.trans (aA s 13 12 _ (by rw[ByteArray.toList_eq];rfl) h12))
  clear HW
  go_enter Tryz.func174,Tryz.ntmps174
  go_wp2_with fail
  go_ret
  exact⟨af HV.out.symm,rfl⟩
 replace HW:=zH (HW.out.trans (aw s 13 12 _ (by rw[ByteArray.toList_eq];rfl) h12))
 cases h13:(s.toList == [114,101,116,117,114,110])
 rotate_left
 ·have HV:=zH (HW.out.trans (aA s 12 13 _ (by rw[ByteArray.toList_eq];rfl) h13))
  clear HW
  go_enter Tryz.func174,Tryz.ntmps174
  go_wp2_with fail
  go_ret
  exact⟨af HV.out.symm,rfl⟩
 replace HW:=zH (HW.out.trans (aw s 12 13 _ (by rw[ByteArray.toList_eq];rfl) h13))
 cases h14:(s.toList == [97,100,100])
 rotate_left
 ·have HV:=zH (HW.out.trans (aA s 11 14 _ (by rw[ByteArray.toList_eq];rfl) h14))
  clear HW
  go_enter Tryz.func174,Tryz.ntmps174
  go_wp2_with fail
  go_ret
  exact⟨af HV.out.symm,rfl⟩
 replace HW:=zH (HW.out.trans (aw s 11 14 _ (by rw[ByteArray.toList_eq];rfl) h14))
 cases h15:(s.toList == [115,117,98])
 rotate_left
 ·have HV:=zH (HW.out.trans (aA s 10 15 _ (by rw[ByteArray.toList_eq];rfl) h15))
  clear HW
  go_enter Tryz.func174,Tryz.ntmps174
  go_wp2_with fail
  go_ret
  exact⟨af HV.out.symm,rfl⟩
 replace HW:=zH (HW.out.trans (aw s 10 15 _ (by rw[ByteArray.toList_eq];rfl) h15))
 cases h16:(s.toList == [109,117,108])
 rotate_left
 ·have HV:=zH (HW.out.trans (aA s 9 16 _ (by rw[ByteArray.toList_eq];rfl) h16))
  clear HW
  go_enter Tryz.func174,Tryz.ntmps174
  go_wp2_with fail
  go_ret
  exact⟨af HV.out.symm,rfl⟩
 replace HW:=zH (HW.out.trans (aw s 9 16 _ (by rw[ByteArray.toList_eq];rfl) h16))
 cases h17:(s.toList == [100,105,118])
 rotate_left
 ·have HV:=zH (HW.out.trans (aA s 8 17 _ (by rw[ByteArray.toList_eq];rfl) h17))
  clear HW
  go_enter Tryz.func174,Tryz.ntmps174
  go_wp2_with fail
  go_ret
  exact⟨af HV.out.symm,rfl⟩
 replace HW:=zH (HW.out.trans (aw s 8 17 _ (by rw[ByteArray.toList_eq];rfl) h17))
 cases h18:(s.toList == [109,111,100])
 rotate_left
 ·have HV:=zH (HW.out.trans (aA s 7 18 _ (by rw[ByteArray.toList_eq];rfl) h18))
  clear HW
  go_enter Tryz.func174,Tryz.ntmps174
  go_wp2_with fail
  go_ret
  exact⟨af HV.out.symm,rfl⟩
 replace HW:=zH (HW.out.trans (aw s 7 18 _ (by rw[ByteArray.toList_eq];rfl) h18))
 cases h19:(s.toList == [97,110,100])
 rotate_left
 ·have HV:=zH (HW.out.trans (aA s 6 19 _ (by rw[ByteArray.toList_eq];rfl) h19))
  clear HW
  go_enter Tryz.func174,Tryz.ntmps174
  go_wp2_with fail
  go_ret
  exact⟨af HV.out.symm,rfl⟩
 replace HW:=zH (HW.out.trans (aw s 6 19 _ (by rw[ByteArray.toList_eq];rfl) h19))
 cases h20:(s.toList == [111,114])
 rotate_left
 ·have HV:=zH (HW.out.trans (aA s 5 20 _ (by rw[ByteArray.toList_eq];rfl) h20))
  clear HW
  go_enter Tryz.func174,Tryz.ntmps174
  go_wp2_with fail
  go_ret
  exact⟨af HV.out.symm,rfl⟩
 replace HW:=zH (HW.out.trans (aw s 5 20 _ (by rw[ByteArray.toList_eq];rfl) h20))
 cases h21:(s.toList == [120,111,114])
 rotate_left
 ·have HV:=zH (HW.out.trans (aA s 4 21 _ (by rw[ByteArray.toList_eq];rfl) h21))
  clear HW
  go_enter Tryz.func174,Tryz.ntmps174
  go_wp2_with fail
  go_ret
  exact⟨af HV.out.symm,rfl⟩
 replace HW:=zH (HW.out.trans (aw s 4 21 _ (by rw[ByteArray.toList_eq];rfl) h21))
 cases h22:(s.toList == [115,104,108])
 rotate_left
 ·have HV:=zH (HW.out.trans (aA s 3 22 _ (by rw[ByteArray.toList_eq];rfl) h22))
  clear HW
  go_enter Tryz.func174,Tryz.ntmps174
  go_wp2_with fail
  go_ret
  exact⟨af HV.out.symm,rfl⟩
 replace HW:=zH (HW.out.trans (aw s 3 22 _ (by rw[ByteArray.toList_eq];rfl) h22))
 cases h23:(s.toList == [115,104,114])
 rotate_left
 ·have HV:=zH (HW.out.trans (aA s 2 23 _ (by rw[ByteArray.toList_eq];rfl) h23))
  clear HW
  go_enter Tryz.func174,Tryz.ntmps174
  go_wp2_with fail
  go_ret
  exact⟨af HV.out.symm,rfl⟩
 replace HW:=zH (HW.out.trans (aw s 2 23 _ (by rw[ByteArray.toList_eq];rfl) h23))
 cases h24:(s.toList == [101,113])
 rotate_left
 ·have HV:=zH (HW.out.trans (aA s 1 24 _ (by rw[ByteArray.toList_eq];rfl) h24))
  clear HW
  go_enter Tryz.func174,Tryz.ntmps174
  go_wp2_with fail
  go_ret
  exact⟨af HV.out.symm,rfl⟩
 replace HW:=zH (HW.out.trans (aw s 1 24 _ (by rw[ByteArray.toList_eq];rfl) h24))
 cases h25:(s.toList == [108,101,115,115])
 rotate_left
 ·have HV:=zH (HW.out.trans (aA s 0 25 _ (by rw[ByteArray.toList_eq];rfl) h25))
  clear HW
  go_enter Tryz.func174,Tryz.ntmps174
  go_wp2_with fail
  go_ret
  exact⟨af HV.out.symm,rfl⟩
 replace HW:=zH (HW.out.trans (aw s 0 25 _ (by rw[ByteArray.toList_eq];rfl) h25))
 go_enter Tryz.func174,Tryz.ntmps174
 go_wp2_with fail
 go_ret
 exact⟨af HW.out.symm,rfl⟩
def bN(s:ByteArray):Bool:=fh s && !wordB s
set_option maxRecDepth 100000 in
set_option maxHeartbeats 1600000 in
theorem jB(s:ByteArray)(w:World)(hs:s.size<=562949953421312) :
 Calls Tryz.prog 122 #[.string s] w fun e w'=>e=.returned (.bool (bN s))/\Below w.heap.size w w':=by
 cases hn:fh s
 ·have HN:=zH (show bN s=false by unfold bN;rw[hn];rfl)
  go_enter Tryz.func122,Tryz.ntmps122
  go_wp2_with (first
   | (go_at_call 173;refine(rh s _ hs).mono ?_;rintro e w' ⟨rfl,hb⟩;rw[hn]))
  go_ret
  exact⟨af HN.out.symm,hb⟩
 ·have HN:=zH (show bN s = !wordB s by unfold bN;rw[hn];rfl)
  go_enter Tryz.func122,Tryz.ntmps122
  go_wp2_with (first
   | (go_at_call 173;refine(rh s _ hs).mono ?_;rintro e w' ⟨rfl,hb⟩;rw[hn])
   | (go_at_call 174;refine(word_any s _).mono ?_;rintro e w' ⟨rfl,rfl⟩))
  go_ret
  exact⟨af HN.out.symm,hb⟩
set_option maxRecDepth 100000 in
set_option maxHeartbeats 1600000 in
theorem mG(v:Value)(ss:List ByteArray)(s:ByteArray)(n:Nat)(w:World)(hv:Strs n w v ss)(hx:ss.length<=9223372036854775807) :
 Calls Tryz.prog 123 #[v,.string s] w fun e w'=>e=.returned (.bool (decide (0<=be ss s)))/\w'=w:=by
 have HV:=zH hv
 clear hv
 go_enter Tryz.func123,Tryz.ntmps123
 go_wp2_with (go_at_call 175;refine(index_q v ss s n _ HV.out hx).mono ?_;rintro e w' ⟨rfl,rfl⟩)
 go_ret
 exact⟨rfl,rfl⟩
end
section
open Go.RowKit
def wd6(ws:List ByteArray)(k:Nat):ByteArray:=ws[k]?.getD ⟨#[]⟩
theorem new_block{w W:World}{o:Obj}{n:Nat}(hW:W.heap=w.heap)(hn:w.heap.size=n):(W.alloc o).heap[n]?=some o:=by
 subst hn
 show (W.heap.push o)[w.heap.size]?=_
 rw[hW];simp
end
section
open Go.RowKit Go.Sort Go.Shelf
def num(n:Int):ByteArray:=⟨(Lib.itoa n).toArray⟩
end
section
open Go.RowKit
end
section
open Go.RowKit
end
section
open Go.RowKit
theorem cV{w W:World}{v:Value}{cs:List (ByteArray × Int)}(h:cT w.heap.size w v cs)(hb:Below w.heap.size w W):cT W.heap.size W v cs:=(h.below hb).mono hb.size
theorem fE{w W:World}{v:Value}{cs:List ByteArray}(h:Strs w.heap.size w v cs)(hb:Below w.heap.size w W):Strs W.heap.size W v cs:=(h.below hb).mono hb.size
end
end Go.Proofs.YtjngffgkllakaaaGreatDoor
