/- A part of a proof: laws that the last text uses. -/
import Derived.Test.YtjngffgkllakaaaGreatDoorZ03
import Derived.Test.YtjngffgkllakaaaGreatDoorZ10
import Derived.Test.YtjngffgkllakaaaGreatDoorZ12
import Derived.Deep.CutBlock
import Derived.Deep.DeepCutAuto
import Derived.Deep.QuietTactic
import Derived.BigQuiet
import Derived.BigGuard
import Derived.StillTailTactics
set_option linter.unusedSimpArgs false
set_option linter.unusedVariables false
namespace Go.Proofs.YtjngffgkllakaaaGreatDoor
open List renaming getElem_toArray → zA, getElem_cons_succ → zB, getElem_cons_zero → zC, setIfInBounds_toArray → zD, set_cons_zero → zE, set_cons_succ → zF
open Lib renaming hid → zH
section
open Go.RowKit
open CD (OpP BodyP CodeP aj blAt fnAt)
set_option maxRecDepth 100000 in
set_option maxHeartbeats 6400000 in
theorem rop9_any{n₀:Nat}(v0 v1 v2 v3 av fv:Value)(st:PSt)(S:List Int)(c:CodeP)(b:BodyP)(ba xa ya:Option Addr)(bc xc yc:Nat)(k o d r a:Int)(xs ys:List Int)(n t nx:Int)(w:World)(hp:PolIn w v0 v1 v2 v3 st S)(ha:bA n₀ w av c.ar)(hf:bh n₀ w fv c.fs)(hn:n₀<=w.heap.size)(hx:Row n₀ w (.slice xa xs.length xc) xs)(hy:Row n₀ w (.slice ya ys.length yc) ys)(hnx:0<=nx/\nx<=1000000)(hs:xs.length<=17592186044416/\ys.length<=17592186044416) :
 Calls Tryz.prog 111 #[.agg #[v0,v1,v2,v3,.int .i64 st.D],.agg #[av,fv,.int .i64 c.mn0],.agg #[.int .i64 b.pa,.int .i64 b.va,.slice ba b.bs.length bc],.agg #[.int .u8 k,.int .u8 o,.int .i64 d,.int .i64 r,.int .i64 a,.slice xa xs.length xc,.slice ya ys.length yc,.int .i64 n,.int .i64 t],.int .i64 nx] w fun e w'=>RopE (aE st c) c b ⟨k,o,d,r,a,xs,ys,n,t⟩ nx e/\Below w.heap.size w w':=by
 obtain⟨aa,ac,rfl⟩:=ha.form
 obtain⟨fa,fc,rfl⟩:=hf.form
 obtain⟨a0,k0,rfl⟩:=hp.s0.form
 obtain⟨a1,k1,rfl⟩:=hp.s1.form
 obtain⟨a2,k2,rfl⟩:=hp.s2.form
 obtain⟨a3,k3,rfl⟩:=hp.s3.form
 obtain⟨w5,ew5⟩:∃w5,w5=(((w.alloc (.cells #[.slice a0 st.L.length k0,.slice a1 S.length k1,.slice a2 st.I.length k2,.slice a3 st.O.length k3,.int .i64 st.D] 26)).alloc (.cells #[.slice aa c.ar.length ac,.slice fa c.fs.length fc,.int .i64 c.mn0] 30)).alloc (.cells #[.int .i64 b.pa,.int .i64 b.va,.slice ba b.bs.length bc] 52)).alloc (.cells #[.int .u8 k,.int .u8 o,.int .i64 d,.int .i64 r,.int .i64 a,.slice xa xs.length xc,.slice ya ys.length yc,.int .i64 n,.int .i64 t] 56):=⟨_,rfl⟩
 have hb5:Below w.heap.size w w5:=by rw[ew5];exact((((Below.refl _ _).alloc (Nat.le_refl _) _).alloc (by simp) _).alloc (by simp;omega) _).alloc (by simp;omega) _
 have HB5:=zH hb5
 have HBX:=zH (boxes_at w a0 a1 a2 a3 aa fa ba xa ya st.L.length k0 S.length k1 st.I.length k2 st.O.length k3 c.ar.length ac c.fs.length fc b.bs.length bc xs.length xc ys.length yc st.D c.mn0 b.pa b.va k o d r a n t)
 unfold il at HBX
 rw[<-ew5] at HBX
 have EW:=zH ew5
 have HX:=zH (hx.below (hb5.mono hn))
 have HY:=zH (hy.below (hb5.mono hn))
 have HF:=zH (hf.below (hb5.mono hn))
 clear ew5 hb5 hx hy hf ha hp
 obtain⟨z1,ez1⟩:∃z1,z1=CD.tf (G1 k o d r a n nx):=⟨_,rfl⟩
 have HZ1:=zH ez1
 clear ez1
 go_enter Tryz.func111,Tryz.ntmps111
 go_upto_region 2 with(go_at_call 165;refine(tJ _ _).mono ?_;rintro e w6 ⟨rfl,rfl⟩)
 rw[<-EW.out]
 obtain⟨⟨p0,p2,p3⟩,⟨q0,q1⟩,⟨b1,b2⟩,x0,x1,x2,x3,x4,x5,x6,x7⟩:=HBX.out
 go_cut [12,13,14,15,16,101] from 20 to 101 (fun s12 s13 s14 s15 s16 s101 w9=>s12=.int .i64 (rsN k)/\s13=.bool (rsD k)/\s14=.bool (rsR k)/\s15=.bool (rsA k)/\s16=.bool (rsI k)/\s101=.bool (!z1)/\w5=w9)
 case first =>
  simp only[List.append]
  rcases (show (k<1∨13<k)∨(k=1)∨(k=2)∨(k=3)∨(k=4∨k=5∨k=7∨k=8∨k=10)∨(k=6∨k=9∨k=11)∨(k=12)∨(k=13) by omega) with hk | hk | hk | hk | hk | hk | hk | hk
  ·
   have fI:rsI k=false:=decide_eq_false (by omega)
   have fD:rsD k=false:=decide_eq_false (by unfold CD.Defs;omega)
   have fR:rsR k=false:=decide_eq_false (by omega)
   have fA:rsA k=false:=decide_eq_false (by omega)
   have HL:=zH (show CD.tf (G1 k o d r a n nx)=false from CD.aD (by unfold G1 CD.Defs;omega))
   clear hk
   as_aux_lemma =>
    go_wp2_with fail
    go_meet
    case rel=>exact⟨rfl,by first | rfl | rw[fD],by first | rfl | rw[fR],by first | rfl | rw[fA],by first | rfl | rw[fI],by rw[HZ1.out,HL.out];rfl,rfl⟩
  ·
   have fI:rsI k=true:=decide_eq_true (by omega)
   have fD:rsD k=true:=decide_eq_true (by unfold CD.Defs;omega)
   have fR:rsR k=false:=decide_eq_false (by omega)
   have fA:rsA k=false:=decide_eq_false (by omega)
   have fk1a:(k == 1)=true:=beq_iff_eq.2 (by omega)
   have fk1b:(k != 1)=false:=by rw[bne,fk1a];rfl
   have fk2a:(k == 2)=false:=beq_eq_false_iff_ne.2 (by omega)
   have fk2b:(k != 2)=true:=by rw[bne,fk2a];rfl
   by_cases hd:d=nx
   rotate_left 1
   ·
    have fhda:(d == nx)=false:=beq_eq_false_iff_ne.2 (by omega)
    have fhdb:(d != nx)=true:=by rw[bne,fhda];rfl
    have HL:=zH (show CD.tf (G1 k o d r a n nx)=false from CD.aD (by unfold G1 CD.Defs;omega))
    clear hk hd
    as_aux_lemma =>
     go_wp2_with fail
     go_meet
     case rel=>exact⟨rfl,by first | rfl | rw[fD],by first | rfl | rw[fR],by first | rfl | rw[fA],by first | rfl | rw[fI],by rw[HZ1.out,HL.out];rfl,rfl⟩
   have fhda:(d == nx)=true:=beq_iff_eq.2 (by omega)
   have fhdb:(d != nx)=false:=by rw[bne,fhda];rfl
   by_cases hr:r=0
   rotate_left 1
   ·
    have fhra:(r == 0)=false:=beq_eq_false_iff_ne.2 (by omega)
    have fhrb:(r != 0)=true:=by rw[bne,fhra];rfl
    have HL:=zH (show CD.tf (G1 k o d r a n nx)=false from CD.aD (by unfold G1 CD.Defs;omega))
    clear hk hd hr
    as_aux_lemma =>
     go_wp2_with fail
     go_meet
     case rel=>exact⟨rfl,by first | rfl | rw[fD],by first | rfl | rw[fR],by first | rfl | rw[fA],by first | rfl | rw[fI],by rw[HZ1.out,HL.out];rfl,rfl⟩
   have fhra:(r == 0)=true:=beq_iff_eq.2 (by omega)
   have fhrb:(r != 0)=false:=by rw[bne,fhra];rfl
   by_cases ha0:a=0
   rotate_left 1
   ·
    have fha0a:(a == 0)=false:=beq_eq_false_iff_ne.2 (by omega)
    have fha0b:(a != 0)=true:=by rw[bne,fha0a];rfl
    have HL:=zH (show CD.tf (G1 k o d r a n nx)=false from CD.aD (by unfold G1 CD.Defs;omega))
    clear hk hd hr ha0
    as_aux_lemma =>
     go_wp2_with fail
     go_meet
     case rel=>exact⟨rfl,by first | rfl | rw[fD],by first | rfl | rw[fR],by first | rfl | rw[fA],by first | rfl | rw[fI],by rw[HZ1.out,HL.out];rfl,rfl⟩
   have fha0a:(a == 0)=true:=beq_iff_eq.2 (by omega)
   have fha0b:(a != 0)=false:=by rw[bne,fha0a];rfl
   by_cases ho:o=0
   rotate_left 1
   ·
    have fhoa:(o == 0)=false:=beq_eq_false_iff_ne.2 (by omega)
    have fhob:(o != 0)=true:=by rw[bne,fhoa];rfl
    have HL:=zH (show CD.tf (G1 k o d r a n nx)=false from CD.aD (by unfold G1 CD.Defs;omega))
    clear hk hd hr ha0 ho
    as_aux_lemma =>
     go_wp2_with fail
     go_meet
     case rel=>exact⟨rfl,by first | rfl | rw[fD],by first | rfl | rw[fR],by first | rfl | rw[fA],by first | rfl | rw[fI],by rw[HZ1.out,HL.out];rfl,rfl⟩
   have fhoa:(o == 0)=true:=beq_iff_eq.2 (by omega)
   have fhob:(o != 0)=false:=by rw[bne,fhoa];rfl
   have HL:=zH (show CD.tf (G1 k o d r a n nx)=true from CD.bz (by unfold G1 CD.Defs;omega))
   clear hk hd hr ha0 ho
   as_aux_lemma =>
    go_wp2_with fail
    go_meet
    case rel=>exact⟨rfl,by first | rfl | rw[fD],by first | rfl | rw[fR],by first | rfl | rw[fA],by first | rfl | rw[fI],by rw[HZ1.out,HL.out];rfl,rfl⟩
  ·
   have fI:rsI k=true:=decide_eq_true (by omega)
   have fD:rsD k=true:=decide_eq_true (by unfold CD.Defs;omega)
   have fR:rsR k=false:=decide_eq_false (by omega)
   have fA:rsA k=false:=decide_eq_false (by omega)
   have fk1a:(k == 1)=false:=beq_eq_false_iff_ne.2 (by omega)
   have fk1b:(k != 1)=true:=by rw[bne,fk1a];rfl
   have fk2a:(k == 2)=true:=beq_iff_eq.2 (by omega)
   have fk2b:(k != 2)=false:=by rw[bne,fk2a];rfl
   by_cases hd:d=nx
   rotate_left 1
   ·
    have fhda:(d == nx)=false:=beq_eq_false_iff_ne.2 (by omega)
    have fhdb:(d != nx)=true:=by rw[bne,fhda];rfl
    have HL:=zH (show CD.tf (G1 k o d r a n nx)=false from CD.aD (by unfold G1 CD.Defs;omega))
    clear hk hd
    as_aux_lemma =>
     go_wp2_with fail
     go_meet
     case rel=>exact⟨rfl,by first | rfl | rw[fD],by first | rfl | rw[fR],by first | rfl | rw[fA],by first | rfl | rw[fI],by rw[HZ1.out,HL.out];rfl,rfl⟩
   have fhda:(d == nx)=true:=beq_iff_eq.2 (by omega)
   have fhdb:(d != nx)=false:=by rw[bne,fhda];rfl
   by_cases hr:r=0
   rotate_left 1
   ·
    have fhra:(r == 0)=false:=beq_eq_false_iff_ne.2 (by omega)
    have fhrb:(r != 0)=true:=by rw[bne,fhra];rfl
    have HL:=zH (show CD.tf (G1 k o d r a n nx)=false from CD.aD (by unfold G1 CD.Defs;omega))
    clear hk hd hr
    as_aux_lemma =>
     go_wp2_with fail
     go_meet
     case rel=>exact⟨rfl,by first | rfl | rw[fD],by first | rfl | rw[fR],by first | rfl | rw[fA],by first | rfl | rw[fI],by rw[HZ1.out,HL.out];rfl,rfl⟩
   have fhra:(r == 0)=true:=beq_iff_eq.2 (by omega)
   have fhrb:(r != 0)=false:=by rw[bne,fhra];rfl
   by_cases ha0:a=0
   rotate_left 1
   ·
    have fha0a:(a == 0)=false:=beq_eq_false_iff_ne.2 (by omega)
    have fha0b:(a != 0)=true:=by rw[bne,fha0a];rfl
    have HL:=zH (show CD.tf (G1 k o d r a n nx)=false from CD.aD (by unfold G1 CD.Defs;omega))
    clear hk hd hr ha0
    as_aux_lemma =>
     go_wp2_with fail
     go_meet
     case rel=>exact⟨rfl,by first | rfl | rw[fD],by first | rfl | rw[fR],by first | rfl | rw[fA],by first | rfl | rw[fI],by rw[HZ1.out,HL.out];rfl,rfl⟩
   have fha0a:(a == 0)=true:=beq_iff_eq.2 (by omega)
   have fha0b:(a != 0)=false:=by rw[bne,fha0a];rfl
   by_cases hn0:n=0
   rotate_left 1
   ·
    have fhn0a:(n == 0)=false:=beq_eq_false_iff_ne.2 (by omega)
    have fhn0b:(n != 0)=true:=by rw[bne,fhn0a];rfl
    have HL:=zH (show CD.tf (G1 k o d r a n nx)=false from CD.aD (by unfold G1 CD.Defs;omega))
    clear hk hd hr ha0 hn0
    as_aux_lemma =>
     go_wp2_with fail
     go_meet
     case rel=>exact⟨rfl,by first | rfl | rw[fD],by first | rfl | rw[fR],by first | rfl | rw[fA],by first | rfl | rw[fI],by rw[HZ1.out,HL.out];rfl,rfl⟩
   have fhn0a:(n == 0)=true:=beq_iff_eq.2 (by omega)
   have fhn0b:(n != 0)=false:=by rw[bne,fhn0a];rfl
   by_cases ho1:o<1
   ·
    have fo1:decide (o<1)=true:=decide_eq_true (by omega)
    have HL:=zH (show CD.tf (G1 k o d r a n nx)=false from CD.aD (by unfold G1 CD.Defs;omega))
    clear hk hd hr ha0 hn0 ho1
    as_aux_lemma =>
     go_wp2_with fail
     go_meet
     case rel=>exact⟨rfl,by first | rfl | rw[fD],by first | rfl | rw[fR],by first | rfl | rw[fA],by first | rfl | rw[fI],by rw[HZ1.out,HL.out];rfl,rfl⟩
   have fo1:decide (o<1)=false:=decide_eq_false (by omega)
   by_cases ho2:12<o
   ·
    have fo2:decide (12<o)=true:=decide_eq_true (by omega)
    have HL:=zH (show CD.tf (G1 k o d r a n nx)=false from CD.aD (by unfold G1 CD.Defs;omega))
    clear hk hd hr ha0 hn0 ho1 ho2
    as_aux_lemma =>
     go_wp2_with fail
     go_meet
     case rel=>exact⟨rfl,by first | rfl | rw[fD],by first | rfl | rw[fR],by first | rfl | rw[fA],by first | rfl | rw[fI],by rw[HZ1.out,HL.out];rfl,rfl⟩
   have fo2:decide (12<o)=false:=decide_eq_false (by omega)
   have HL:=zH (show CD.tf (G1 k o d r a n nx)=true from CD.bz (by unfold G1 CD.Defs;omega))
   clear hk hd hr ha0 hn0 ho1 ho2
   as_aux_lemma =>
    go_wp2_with fail
    go_meet
    case rel=>exact⟨rfl,by first | rfl | rw[fD],by first | rfl | rw[fR],by first | rfl | rw[fA],by first | rfl | rw[fI],by rw[HZ1.out,HL.out];rfl,rfl⟩
  ·
   have fI:rsI k=true:=decide_eq_true (by omega)
   have fD:rsD k=true:=decide_eq_true (by unfold CD.Defs;omega)
   have fR:rsR k=false:=decide_eq_false (by omega)
   have fA:rsA k=false:=decide_eq_false (by omega)
   have fk1a:(k == 1)=false:=beq_eq_false_iff_ne.2 (by omega)
   have fk1b:(k != 1)=true:=by rw[bne,fk1a];rfl
   have fk2a:(k == 2)=false:=beq_eq_false_iff_ne.2 (by omega)
   have fk2b:(k != 2)=true:=by rw[bne,fk2a];rfl
   by_cases hd:d=nx
   rotate_left 1
   ·
    have fhda:(d == nx)=false:=beq_eq_false_iff_ne.2 (by omega)
    have fhdb:(d != nx)=true:=by rw[bne,fhda];rfl
    have HL:=zH (show CD.tf (G1 k o d r a n nx)=false from CD.aD (by unfold G1 CD.Defs;omega))
    clear hk hd
    as_aux_lemma =>
     go_wp2_with fail
     go_meet
     case rel=>exact⟨rfl,by first | rfl | rw[fD],by first | rfl | rw[fR],by first | rfl | rw[fA],by first | rfl | rw[fI],by rw[HZ1.out,HL.out];rfl,rfl⟩
   have fhda:(d == nx)=true:=beq_iff_eq.2 (by omega)
   have fhdb:(d != nx)=false:=by rw[bne,fhda];rfl
   by_cases hr:r=0
   rotate_left 1
   ·
    have fhra:(r == 0)=false:=beq_eq_false_iff_ne.2 (by omega)
    have fhrb:(r != 0)=true:=by rw[bne,fhra];rfl
    have HL:=zH (show CD.tf (G1 k o d r a n nx)=false from CD.aD (by unfold G1 CD.Defs;omega))
    clear hk hd hr
    as_aux_lemma =>
     go_wp2_with fail
     go_meet
     case rel=>exact⟨rfl,by first | rfl | rw[fD],by first | rfl | rw[fR],by first | rfl | rw[fA],by first | rfl | rw[fI],by rw[HZ1.out,HL.out];rfl,rfl⟩
   have fhra:(r == 0)=true:=beq_iff_eq.2 (by omega)
   have fhrb:(r != 0)=false:=by rw[bne,fhra];rfl
   by_cases ha0:a=0
   rotate_left 1
   ·
    have fha0a:(a == 0)=false:=beq_eq_false_iff_ne.2 (by omega)
    have fha0b:(a != 0)=true:=by rw[bne,fha0a];rfl
    have HL:=zH (show CD.tf (G1 k o d r a n nx)=false from CD.aD (by unfold G1 CD.Defs;omega))
    clear hk hd hr ha0
    as_aux_lemma =>
     go_wp2_with fail
     go_meet
     case rel=>exact⟨rfl,by first | rfl | rw[fD],by first | rfl | rw[fR],by first | rfl | rw[fA],by first | rfl | rw[fI],by rw[HZ1.out,HL.out];rfl,rfl⟩
   have fha0a:(a == 0)=true:=beq_iff_eq.2 (by omega)
   have fha0b:(a != 0)=false:=by rw[bne,fha0a];rfl
   by_cases hn0:n=0
   rotate_left 1
   ·
    have fhn0a:(n == 0)=false:=beq_eq_false_iff_ne.2 (by omega)
    have fhn0b:(n != 0)=true:=by rw[bne,fhn0a];rfl
    have HL:=zH (show CD.tf (G1 k o d r a n nx)=false from CD.aD (by unfold G1 CD.Defs;omega))
    clear hk hd hr ha0 hn0
    as_aux_lemma =>
     go_wp2_with fail
     go_meet
     case rel=>exact⟨rfl,by first | rfl | rw[fD],by first | rfl | rw[fR],by first | rfl | rw[fA],by first | rfl | rw[fI],by rw[HZ1.out,HL.out];rfl,rfl⟩
   have fhn0a:(n == 0)=true:=beq_iff_eq.2 (by omega)
   have fhn0b:(n != 0)=false:=by rw[bne,fhn0a];rfl
   by_cases ho:o=0
   rotate_left 1
   ·
    have fhoa:(o == 0)=false:=beq_eq_false_iff_ne.2 (by omega)
    have fhob:(o != 0)=true:=by rw[bne,fhoa];rfl
    have HL:=zH (show CD.tf (G1 k o d r a n nx)=false from CD.aD (by unfold G1 CD.Defs;omega))
    clear hk hd hr ha0 hn0 ho
    as_aux_lemma =>
     go_wp2_with fail
     go_meet
     case rel=>exact⟨rfl,by first | rfl | rw[fD],by first | rfl | rw[fR],by first | rfl | rw[fA],by first | rfl | rw[fI],by rw[HZ1.out,HL.out];rfl,rfl⟩
   have fhoa:(o == 0)=true:=beq_iff_eq.2 (by omega)
   have fhob:(o != 0)=false:=by rw[bne,fhoa];rfl
   have HL:=zH (show CD.tf (G1 k o d r a n nx)=true from CD.bz (by unfold G1 CD.Defs;omega))
   clear hk hd hr ha0 hn0 ho
   as_aux_lemma =>
    go_wp2_with fail
    go_meet
    case rel=>exact⟨rfl,by first | rfl | rw[fD],by first | rfl | rw[fR],by first | rfl | rw[fA],by first | rfl | rw[fI],by rw[HZ1.out,HL.out];rfl,rfl⟩
  ·
   have fI:rsI k=true:=decide_eq_true (by omega)
   have fD:rsD k=true:=decide_eq_true (by unfold CD.Defs;omega)
   have fR:rsR k=true:=decide_eq_true (by omega)
   have fA:rsA k=false:=decide_eq_false (by omega)
   have fk1a:(k == 1)=false:=beq_eq_false_iff_ne.2 (by omega)
   have fk1b:(k != 1)=true:=by rw[bne,fk1a];rfl
   have fk2a:(k == 2)=false:=beq_eq_false_iff_ne.2 (by omega)
   have fk2b:(k != 2)=true:=by rw[bne,fk2a];rfl
   by_cases hd:d=nx
   rotate_left 1
   ·
    have fhda:(d == nx)=false:=beq_eq_false_iff_ne.2 (by omega)
    have fhdb:(d != nx)=true:=by rw[bne,fhda];rfl
    have HL:=zH (show CD.tf (G1 k o d r a n nx)=false from CD.aD (by unfold G1 CD.Defs;omega))
    clear hk hd
    as_aux_lemma =>
     go_wp2_with fail
     go_meet
     case rel=>exact⟨rfl,by first | rfl | rw[fD],by first | rfl | rw[fR],by first | rfl | rw[fA],by first | rfl | rw[fI],by rw[HZ1.out,HL.out];rfl,rfl⟩
   have fhda:(d == nx)=true:=beq_iff_eq.2 (by omega)
   have fhdb:(d != nx)=false:=by rw[bne,fhda];rfl
   by_cases ha0:a=0
   rotate_left 1
   ·
    have fha0a:(a == 0)=false:=beq_eq_false_iff_ne.2 (by omega)
    have fha0b:(a != 0)=true:=by rw[bne,fha0a];rfl
    have HL:=zH (show CD.tf (G1 k o d r a n nx)=false from CD.aD (by unfold G1 CD.Defs;omega))
    clear hk hd ha0
    as_aux_lemma =>
     go_wp2_with fail
     go_meet
     case rel=>exact⟨rfl,by first | rfl | rw[fD],by first | rfl | rw[fR],by first | rfl | rw[fA],by first | rfl | rw[fI],by rw[HZ1.out,HL.out];rfl,rfl⟩
   have fha0a:(a == 0)=true:=beq_iff_eq.2 (by omega)
   have fha0b:(a != 0)=false:=by rw[bne,fha0a];rfl
   by_cases hn0:n=0
   rotate_left 1
   ·
    have fhn0a:(n == 0)=false:=beq_eq_false_iff_ne.2 (by omega)
    have fhn0b:(n != 0)=true:=by rw[bne,fhn0a];rfl
    have HL:=zH (show CD.tf (G1 k o d r a n nx)=false from CD.aD (by unfold G1 CD.Defs;omega))
    clear hk hd ha0 hn0
    as_aux_lemma =>
     go_wp2_with fail
     go_meet
     case rel=>exact⟨rfl,by first | rfl | rw[fD],by first | rfl | rw[fR],by first | rfl | rw[fA],by first | rfl | rw[fI],by rw[HZ1.out,HL.out];rfl,rfl⟩
   have fhn0a:(n == 0)=true:=beq_iff_eq.2 (by omega)
   have fhn0b:(n != 0)=false:=by rw[bne,fhn0a];rfl
   by_cases ho:o=0
   rotate_left 1
   ·
    have fhoa:(o == 0)=false:=beq_eq_false_iff_ne.2 (by omega)
    have fhob:(o != 0)=true:=by rw[bne,fhoa];rfl
    have HL:=zH (show CD.tf (G1 k o d r a n nx)=false from CD.aD (by unfold G1 CD.Defs;omega))
    clear hk hd ha0 hn0 ho
    as_aux_lemma =>
     go_wp2_with fail
     go_meet
     case rel=>exact⟨rfl,by first | rfl | rw[fD],by first | rfl | rw[fR],by first | rfl | rw[fA],by first | rfl | rw[fI],by rw[HZ1.out,HL.out];rfl,rfl⟩
   have fhoa:(o == 0)=true:=beq_iff_eq.2 (by omega)
   have fhob:(o != 0)=false:=by rw[bne,fhoa];rfl
   have HL:=zH (show CD.tf (G1 k o d r a n nx)=true from CD.bz (by unfold G1 CD.Defs;omega))
   clear hk hd ha0 hn0 ho
   as_aux_lemma =>
    go_wp2_with fail
    go_meet
    case rel=>exact⟨rfl,by first | rfl | rw[fD],by first | rfl | rw[fR],by first | rfl | rw[fA],by first | rfl | rw[fI],by rw[HZ1.out,HL.out];rfl,rfl⟩
  ·
   have fI:rsI k=true:=decide_eq_true (by omega)
   have fD:rsD k=false:=decide_eq_false (by unfold CD.Defs;omega)
   have fR:rsR k=true:=decide_eq_true (by omega)
   have fA:rsA k=false:=decide_eq_false (by omega)
   have fk1a:(k == 1)=false:=beq_eq_false_iff_ne.2 (by omega)
   have fk1b:(k != 1)=true:=by rw[bne,fk1a];rfl
   have fk2a:(k == 2)=false:=beq_eq_false_iff_ne.2 (by omega)
   have fk2b:(k != 2)=true:=by rw[bne,fk2a];rfl
   by_cases hd:d = -1
   rotate_left 1
   ·
    have fhda:(d == -1)=false:=beq_eq_false_iff_ne.2 (by omega)
    have fhdb:(d != -1)=true:=by rw[bne,fhda];rfl
    have HL:=zH (show CD.tf (G1 k o d r a n nx)=false from CD.aD (by unfold G1 CD.Defs;omega))
    clear hk hd
    as_aux_lemma =>
     go_wp2_with fail
     go_meet
     case rel=>exact⟨rfl,by first | rfl | rw[fD],by first | rfl | rw[fR],by first | rfl | rw[fA],by first | rfl | rw[fI],by rw[HZ1.out,HL.out];rfl,rfl⟩
   have fhda:(d == -1)=true:=beq_iff_eq.2 (by omega)
   have fhdb:(d != -1)=false:=by rw[bne,fhda];rfl
   by_cases ha0:a=0
   rotate_left 1
   ·
    have fha0a:(a == 0)=false:=beq_eq_false_iff_ne.2 (by omega)
    have fha0b:(a != 0)=true:=by rw[bne,fha0a];rfl
    have HL:=zH (show CD.tf (G1 k o d r a n nx)=false from CD.aD (by unfold G1 CD.Defs;omega))
    clear hk hd ha0
    as_aux_lemma =>
     go_wp2_with fail
     go_meet
     case rel=>exact⟨rfl,by first | rfl | rw[fD],by first | rfl | rw[fR],by first | rfl | rw[fA],by first | rfl | rw[fI],by rw[HZ1.out,HL.out];rfl,rfl⟩
   have fha0a:(a == 0)=true:=beq_iff_eq.2 (by omega)
   have fha0b:(a != 0)=false:=by rw[bne,fha0a];rfl
   by_cases hn0:n=0
   rotate_left 1
   ·
    have fhn0a:(n == 0)=false:=beq_eq_false_iff_ne.2 (by omega)
    have fhn0b:(n != 0)=true:=by rw[bne,fhn0a];rfl
    have HL:=zH (show CD.tf (G1 k o d r a n nx)=false from CD.aD (by unfold G1 CD.Defs;omega))
    clear hk hd ha0 hn0
    as_aux_lemma =>
     go_wp2_with fail
     go_meet
     case rel=>exact⟨rfl,by first | rfl | rw[fD],by first | rfl | rw[fR],by first | rfl | rw[fA],by first | rfl | rw[fI],by rw[HZ1.out,HL.out];rfl,rfl⟩
   have fhn0a:(n == 0)=true:=beq_iff_eq.2 (by omega)
   have fhn0b:(n != 0)=false:=by rw[bne,fhn0a];rfl
   by_cases ho:o=0
   rotate_left 1
   ·
    have fhoa:(o == 0)=false:=beq_eq_false_iff_ne.2 (by omega)
    have fhob:(o != 0)=true:=by rw[bne,fhoa];rfl
    have HL:=zH (show CD.tf (G1 k o d r a n nx)=false from CD.aD (by unfold G1 CD.Defs;omega))
    clear hk hd ha0 hn0 ho
    as_aux_lemma =>
     go_wp2_with fail
     go_meet
     case rel=>exact⟨rfl,by first | rfl | rw[fD],by first | rfl | rw[fR],by first | rfl | rw[fA],by first | rfl | rw[fI],by rw[HZ1.out,HL.out];rfl,rfl⟩
   have fhoa:(o == 0)=true:=beq_iff_eq.2 (by omega)
   have fhob:(o != 0)=false:=by rw[bne,fhoa];rfl
   have HL:=zH (show CD.tf (G1 k o d r a n nx)=true from CD.bz (by unfold G1 CD.Defs;omega))
   clear hk hd ha0 hn0 ho
   as_aux_lemma =>
    go_wp2_with fail
    go_meet
    case rel=>exact⟨rfl,by first | rfl | rw[fD],by first | rfl | rw[fR],by first | rfl | rw[fA],by first | rfl | rw[fI],by rw[HZ1.out,HL.out];rfl,rfl⟩
  ·
   have fI:rsI k=true:=decide_eq_true (by omega)
   have fD:rsD k=false:=decide_eq_false (by unfold CD.Defs;omega)
   have fR:rsR k=true:=decide_eq_true (by omega)
   have fA:rsA k=true:=decide_eq_true (by omega)
   have fk1a:(k == 1)=false:=beq_eq_false_iff_ne.2 (by omega)
   have fk1b:(k != 1)=true:=by rw[bne,fk1a];rfl
   have fk2a:(k == 2)=false:=beq_eq_false_iff_ne.2 (by omega)
   have fk2b:(k != 2)=true:=by rw[bne,fk2a];rfl
   by_cases hd:d = -1
   rotate_left 1
   ·
    have fhda:(d == -1)=false:=beq_eq_false_iff_ne.2 (by omega)
    have fhdb:(d != -1)=true:=by rw[bne,fhda];rfl
    have HL:=zH (show CD.tf (G1 k o d r a n nx)=false from CD.aD (by unfold G1 CD.Defs;omega))
    clear hk hd
    as_aux_lemma =>
     go_wp2_with fail
     go_meet
     case rel=>exact⟨rfl,by first | rfl | rw[fD],by first | rfl | rw[fR],by first | rfl | rw[fA],by first | rfl | rw[fI],by rw[HZ1.out,HL.out];rfl,rfl⟩
   have fhda:(d == -1)=true:=beq_iff_eq.2 (by omega)
   have fhdb:(d != -1)=false:=by rw[bne,fhda];rfl
   by_cases hn0:n=0
   rotate_left 1
   ·
    have fhn0a:(n == 0)=false:=beq_eq_false_iff_ne.2 (by omega)
    have fhn0b:(n != 0)=true:=by rw[bne,fhn0a];rfl
    have HL:=zH (show CD.tf (G1 k o d r a n nx)=false from CD.aD (by unfold G1 CD.Defs;omega))
    clear hk hd hn0
    as_aux_lemma =>
     go_wp2_with fail
     go_meet
     case rel=>exact⟨rfl,by first | rfl | rw[fD],by first | rfl | rw[fR],by first | rfl | rw[fA],by first | rfl | rw[fI],by rw[HZ1.out,HL.out];rfl,rfl⟩
   have fhn0a:(n == 0)=true:=beq_iff_eq.2 (by omega)
   have fhn0b:(n != 0)=false:=by rw[bne,fhn0a];rfl
   by_cases ho:o=0
   rotate_left 1
   ·
    have fhoa:(o == 0)=false:=beq_eq_false_iff_ne.2 (by omega)
    have fhob:(o != 0)=true:=by rw[bne,fhoa];rfl
    have HL:=zH (show CD.tf (G1 k o d r a n nx)=false from CD.aD (by unfold G1 CD.Defs;omega))
    clear hk hd hn0 ho
    as_aux_lemma =>
     go_wp2_with fail
     go_meet
     case rel=>exact⟨rfl,by first | rfl | rw[fD],by first | rfl | rw[fR],by first | rfl | rw[fA],by first | rfl | rw[fI],by rw[HZ1.out,HL.out];rfl,rfl⟩
   have fhoa:(o == 0)=true:=beq_iff_eq.2 (by omega)
   have fhob:(o != 0)=false:=by rw[bne,fhoa];rfl
   have HL:=zH (show CD.tf (G1 k o d r a n nx)=true from CD.bz (by unfold G1 CD.Defs;omega))
   clear hk hd hn0 ho
   as_aux_lemma =>
    go_wp2_with fail
    go_meet
    case rel=>exact⟨rfl,by first | rfl | rw[fD],by first | rfl | rw[fR],by first | rfl | rw[fA],by first | rfl | rw[fI],by rw[HZ1.out,HL.out];rfl,rfl⟩
  ·
   have fI:rsI k=true:=decide_eq_true (by omega)
   have fD:rsD k=false:=decide_eq_false (by unfold CD.Defs;omega)
   have fR:rsR k=false:=decide_eq_false (by omega)
   have fA:rsA k=false:=decide_eq_false (by omega)
   have fk1a:(k == 1)=false:=beq_eq_false_iff_ne.2 (by omega)
   have fk1b:(k != 1)=true:=by rw[bne,fk1a];rfl
   have fk2a:(k == 2)=false:=beq_eq_false_iff_ne.2 (by omega)
   have fk2b:(k != 2)=true:=by rw[bne,fk2a];rfl
   by_cases hd:d = -1
   rotate_left 1
   ·
    have fhda:(d == -1)=false:=beq_eq_false_iff_ne.2 (by omega)
    have fhdb:(d != -1)=true:=by rw[bne,fhda];rfl
    have HL:=zH (show CD.tf (G1 k o d r a n nx)=false from CD.aD (by unfold G1 CD.Defs;omega))
    clear hk hd
    as_aux_lemma =>
     go_wp2_with fail
     go_meet
     case rel=>exact⟨rfl,by first | rfl | rw[fD],by first | rfl | rw[fR],by first | rfl | rw[fA],by first | rfl | rw[fI],by rw[HZ1.out,HL.out];rfl,rfl⟩
   have fhda:(d == -1)=true:=beq_iff_eq.2 (by omega)
   have fhdb:(d != -1)=false:=by rw[bne,fhda];rfl
   by_cases hr:r=0
   rotate_left 1
   ·
    have fhra:(r == 0)=false:=beq_eq_false_iff_ne.2 (by omega)
    have fhrb:(r != 0)=true:=by rw[bne,fhra];rfl
    have HL:=zH (show CD.tf (G1 k o d r a n nx)=false from CD.aD (by unfold G1 CD.Defs;omega))
    clear hk hd hr
    as_aux_lemma =>
     go_wp2_with fail
     go_meet
     case rel=>exact⟨rfl,by first | rfl | rw[fD],by first | rfl | rw[fR],by first | rfl | rw[fA],by first | rfl | rw[fI],by rw[HZ1.out,HL.out];rfl,rfl⟩
   have fhra:(r == 0)=true:=beq_iff_eq.2 (by omega)
   have fhrb:(r != 0)=false:=by rw[bne,fhra];rfl
   by_cases ha0:a=0
   rotate_left 1
   ·
    have fha0a:(a == 0)=false:=beq_eq_false_iff_ne.2 (by omega)
    have fha0b:(a != 0)=true:=by rw[bne,fha0a];rfl
    have HL:=zH (show CD.tf (G1 k o d r a n nx)=false from CD.aD (by unfold G1 CD.Defs;omega))
    clear hk hd hr ha0
    as_aux_lemma =>
     go_wp2_with fail
     go_meet
     case rel=>exact⟨rfl,by first | rfl | rw[fD],by first | rfl | rw[fR],by first | rfl | rw[fA],by first | rfl | rw[fI],by rw[HZ1.out,HL.out];rfl,rfl⟩
   have fha0a:(a == 0)=true:=beq_iff_eq.2 (by omega)
   have fha0b:(a != 0)=false:=by rw[bne,fha0a];rfl
   by_cases hn0:n=0
   rotate_left 1
   ·
    have fhn0a:(n == 0)=false:=beq_eq_false_iff_ne.2 (by omega)
    have fhn0b:(n != 0)=true:=by rw[bne,fhn0a];rfl
    have HL:=zH (show CD.tf (G1 k o d r a n nx)=false from CD.aD (by unfold G1 CD.Defs;omega))
    clear hk hd hr ha0 hn0
    as_aux_lemma =>
     go_wp2_with fail
     go_meet
     case rel=>exact⟨rfl,by first | rfl | rw[fD],by first | rfl | rw[fR],by first | rfl | rw[fA],by first | rfl | rw[fI],by rw[HZ1.out,HL.out];rfl,rfl⟩
   have fhn0a:(n == 0)=true:=beq_iff_eq.2 (by omega)
   have fhn0b:(n != 0)=false:=by rw[bne,fhn0a];rfl
   by_cases ho:o=0
   rotate_left 1
   ·
    have fhoa:(o == 0)=false:=beq_eq_false_iff_ne.2 (by omega)
    have fhob:(o != 0)=true:=by rw[bne,fhoa];rfl
    have HL:=zH (show CD.tf (G1 k o d r a n nx)=false from CD.aD (by unfold G1 CD.Defs;omega))
    clear hk hd hr ha0 hn0 ho
    as_aux_lemma =>
     go_wp2_with fail
     go_meet
     case rel=>exact⟨rfl,by first | rfl | rw[fD],by first | rfl | rw[fR],by first | rfl | rw[fA],by first | rfl | rw[fI],by rw[HZ1.out,HL.out];rfl,rfl⟩
   have fhoa:(o == 0)=true:=beq_iff_eq.2 (by omega)
   have fhob:(o != 0)=false:=by rw[bne,fhoa];rfl
   have HL:=zH (show CD.tf (G1 k o d r a n nx)=true from CD.bz (by unfold G1 CD.Defs;omega))
   clear hk hd hr ha0 hn0 ho
   as_aux_lemma =>
    go_wp2_with fail
    go_meet
    case rel=>exact⟨rfl,by first | rfl | rw[fD],by first | rfl | rw[fR],by first | rfl | rw[fA],by first | rfl | rw[fI],by rw[HZ1.out,HL.out];rfl,rfl⟩
 case rest =>
  obtain⟨rfl,rfl,rfl,rfl,rfl,rfl,rfl⟩:=hcut
  cases z1
  ·have HNO:=zH (eh (show ¬CD.OpOk (aE st c) c b ⟨k,o,d,r,a,xs,ys,n,t⟩ nx from fun h=>CD.cZ HZ1.out.symm ((cX _ _ _ _ _ _ _ _ _ _ _ _ _).1 h).1.1))
   go_wp2_with fail
   go_ret2
   exact⟨HNO.out,HB5.out⟩
  ·have HG1 :=zH (CD.dU HZ1.out.symm)
   go_upto_block 0 with fail
   obtain⟨M,eM⟩:∃M,M=ip (aE st c) b.bs.length k:=⟨_,rfl⟩
   have HM:=zH eM
   clear eM
   go_cut [17] from 102 to 134 (fun s17 w9=>s17=.int .i64 ((M:Nat):Int)/\w5=w9)
   case first =>
    rcases (show (k=4)∨(k=5)∨(k=6)∨(k=7)∨(k=8)∨(k=9)∨(k=10)∨(k<4∨10<k) by omega) with hk | hk | hk | hk | hk | hk | hk | hk
    ·
     have HL:=zH (show M=c.ar.length by rw[HM.out];unfold ip aE;rw[if_pos (by omega)])
     have e4:(k == 4)=true:=beq_iff_eq.2 (by omega)
     have e5:(k == 5)=false:=beq_eq_false_iff_ne.2 (by omega)
     have e6:(k == 6)=false:=beq_eq_false_iff_ne.2 (by omega)
     have e7:(k == 7)=false:=beq_eq_false_iff_ne.2 (by omega)
     have e8:(k == 8)=false:=beq_eq_false_iff_ne.2 (by omega)
     have e9:(k == 9)=false:=beq_eq_false_iff_ne.2 (by omega)
     have e10:(k == 10)=false:=beq_eq_false_iff_ne.2 (by omega)
     clear hk
     as_aux_lemma =>
      go_wp2_with fail
      go_meet
      case rel=>exact⟨by rw[HL.out],rfl⟩
    ·
     have HL:=zH (show M=c.ar.length by rw[HM.out];unfold ip aE;rw[if_pos (by omega)])
     have e4:(k == 4)=false:=beq_eq_false_iff_ne.2 (by omega)
     have e5:(k == 5)=true:=beq_iff_eq.2 (by omega)
     have e6:(k == 6)=false:=beq_eq_false_iff_ne.2 (by omega)
     have e7:(k == 7)=false:=beq_eq_false_iff_ne.2 (by omega)
     have e8:(k == 8)=false:=beq_eq_false_iff_ne.2 (by omega)
     have e9:(k == 9)=false:=beq_eq_false_iff_ne.2 (by omega)
     have e10:(k == 10)=false:=beq_eq_false_iff_ne.2 (by omega)
     clear hk
     as_aux_lemma =>
      go_wp2_with fail
      go_meet
      case rel=>exact⟨by rw[HL.out],rfl⟩
    ·
     have HL:=zH (show M=c.ar.length by rw[HM.out];unfold ip aE;rw[if_pos (by omega)])
     have e4:(k == 4)=false:=beq_eq_false_iff_ne.2 (by omega)
     have e5:(k == 5)=false:=beq_eq_false_iff_ne.2 (by omega)
     have e6:(k == 6)=true:=beq_iff_eq.2 (by omega)
     have e7:(k == 7)=false:=beq_eq_false_iff_ne.2 (by omega)
     have e8:(k == 8)=false:=beq_eq_false_iff_ne.2 (by omega)
     have e9:(k == 9)=false:=beq_eq_false_iff_ne.2 (by omega)
     have e10:(k == 10)=false:=beq_eq_false_iff_ne.2 (by omega)
     clear hk
     as_aux_lemma =>
      go_wp2_with fail
      go_meet
      case rel=>exact⟨by rw[HL.out],rfl⟩
    ·
     have HL:=zH (show M=c.fs.length by rw[HM.out];unfold ip aE;rw[if_neg (by omega),if_pos (by omega)])
     have e4:(k == 4)=false:=beq_eq_false_iff_ne.2 (by omega)
     have e5:(k == 5)=false:=beq_eq_false_iff_ne.2 (by omega)
     have e6:(k == 6)=false:=beq_eq_false_iff_ne.2 (by omega)
     have e7:(k == 7)=true:=beq_iff_eq.2 (by omega)
     have e8:(k == 8)=false:=beq_eq_false_iff_ne.2 (by omega)
     have e9:(k == 9)=false:=beq_eq_false_iff_ne.2 (by omega)
     have e10:(k == 10)=false:=beq_eq_false_iff_ne.2 (by omega)
     clear hk
     as_aux_lemma =>
      go_wp2_with fail
      go_meet
      case rel=>exact⟨by rw[HL.out],rfl⟩
    ·
     have HL:=zH (show M=st.I.length by rw[HM.out];unfold ip aE;rw[if_neg (by omega),if_neg (by omega),if_pos (by omega)])
     have e4:(k == 4)=false:=beq_eq_false_iff_ne.2 (by omega)
     have e5:(k == 5)=false:=beq_eq_false_iff_ne.2 (by omega)
     have e6:(k == 6)=false:=beq_eq_false_iff_ne.2 (by omega)
     have e7:(k == 7)=false:=beq_eq_false_iff_ne.2 (by omega)
     have e8:(k == 8)=true:=beq_iff_eq.2 (by omega)
     have e9:(k == 9)=false:=beq_eq_false_iff_ne.2 (by omega)
     have e10:(k == 10)=false:=beq_eq_false_iff_ne.2 (by omega)
     clear hk
     as_aux_lemma =>
      go_wp2_with fail
      go_meet
      case rel=>exact⟨by rw[HL.out],rfl⟩
    ·
     have HL:=zH (show M=st.O.length by rw[HM.out];unfold ip aE;rw[if_neg (by omega),if_neg (by omega),if_neg (by omega),if_pos (by omega)])
     have e4:(k == 4)=false:=beq_eq_false_iff_ne.2 (by omega)
     have e5:(k == 5)=false:=beq_eq_false_iff_ne.2 (by omega)
     have e6:(k == 6)=false:=beq_eq_false_iff_ne.2 (by omega)
     have e7:(k == 7)=false:=beq_eq_false_iff_ne.2 (by omega)
     have e8:(k == 8)=false:=beq_eq_false_iff_ne.2 (by omega)
     have e9:(k == 9)=true:=beq_iff_eq.2 (by omega)
     have e10:(k == 10)=false:=beq_eq_false_iff_ne.2 (by omega)
     clear hk
     as_aux_lemma =>
      go_wp2_with fail
      go_meet
      case rel=>exact⟨by rw[HL.out],rfl⟩
    ·
     have HL:=zH (show M=st.L.length by rw[HM.out];unfold ip aE;rw[if_neg (by omega),if_neg (by omega),if_neg (by omega),if_neg (by omega),if_pos (by omega)])
     have e4:(k == 4)=false:=beq_eq_false_iff_ne.2 (by omega)
     have e5:(k == 5)=false:=beq_eq_false_iff_ne.2 (by omega)
     have e6:(k == 6)=false:=beq_eq_false_iff_ne.2 (by omega)
     have e7:(k == 7)=false:=beq_eq_false_iff_ne.2 (by omega)
     have e8:(k == 8)=false:=beq_eq_false_iff_ne.2 (by omega)
     have e9:(k == 9)=false:=beq_eq_false_iff_ne.2 (by omega)
     have e10:(k == 10)=true:=beq_iff_eq.2 (by omega)
     clear hk
     as_aux_lemma =>
      go_wp2_with fail
      go_meet
      case rel=>exact⟨by rw[HL.out],rfl⟩
    ·
     have HL:=zH (show M=b.bs.length by rw[HM.out];unfold ip aE;rw[if_neg (by omega),if_neg (by omega),if_neg (by omega),if_neg (by omega),if_neg (by omega)])
     have e4:(k == 4)=false:=beq_eq_false_iff_ne.2 (by omega)
     have e5:(k == 5)=false:=beq_eq_false_iff_ne.2 (by omega)
     have e6:(k == 6)=false:=beq_eq_false_iff_ne.2 (by omega)
     have e7:(k == 7)=false:=beq_eq_false_iff_ne.2 (by omega)
     have e8:(k == 8)=false:=beq_eq_false_iff_ne.2 (by omega)
     have e9:(k == 9)=false:=beq_eq_false_iff_ne.2 (by omega)
     have e10:(k == 10)=false:=beq_eq_false_iff_ne.2 (by omega)
     clear hk
     as_aux_lemma =>
      go_wp2_with fail
      go_meet
      case rel=>exact⟨by rw[HL.out],rfl⟩
   case rest =>
    obtain⟨rfl,rfl⟩:=hcut
    go_upto_region 18 with fail
    obtain⟨z2,ez2⟩:∃z2,z2=CD.tf (G2 k r a M b.bs.length):=⟨_,rfl⟩
    have HZ2:=zH ez2
    clear ez2
    go_cut [12,13,14,15,16,162] from 135 to 162 (fun s12 s13 s14 s15 s16 s162 w9=>s12=.int .i64 (rsN k)/\s13=.bool (rsD k)/\s14=.bool (rsR k)/\s15=.bool (rsA k)/\s16=.bool (rsI k)/\s162=.bool (!z2)/\w5=w9)
    case first =>
     rcases (show (4<=k/\k<=11)∨(k=12)∨(k<4∨12<k) by omega) with hk | hk | hk
     ·
      have fR:rsR k=true:=decide_eq_true (by omega)
      have fA:rsA k=false:=decide_eq_false (by omega)
      by_cases ht1:r<0
      ·
       have ft1:decide (r<0)=true:=decide_eq_true (by omega)
       have HL:=zH (show CD.tf (G2 k r a M b.bs.length)=false from CD.aD (by unfold G2;omega))
       clear hk ht1
       as_aux_lemma =>
        go_wp2_with fail
        go_meet
        case rel=>exact⟨rfl,rfl,by first | rfl | rw[fR],by first | rfl | rw[fA],rfl,by rw[HZ2.out,HL.out];rfl,rfl⟩
      have ft1:decide (r<0)=false:=decide_eq_false (by omega)
      by_cases ht2:(M:Int)<=r
      ·
       have ft2:decide ((M:Int)<=r)=true:=decide_eq_true (by omega)
       have HL:=zH (show CD.tf (G2 k r a M b.bs.length)=false from CD.aD (by unfold G2;omega))
       clear hk ht1 ht2
       as_aux_lemma =>
        go_wp2_with fail
        go_meet
        case rel=>exact⟨rfl,rfl,by first | rfl | rw[fR],by first | rfl | rw[fA],rfl,by rw[HZ2.out,HL.out];rfl,rfl⟩
      have ft2:decide ((M:Int)<=r)=false:=decide_eq_false (by omega)
      have HL:=zH (show CD.tf (G2 k r a M b.bs.length)=true from CD.bz (by unfold G2;omega))
      clear hk ht1 ht2
      as_aux_lemma =>
       go_wp2_with fail
       go_meet
       case rel=>exact⟨rfl,rfl,by first | rfl | rw[fR],by first | rfl | rw[fA],rfl,by rw[HZ2.out,HL.out];rfl,rfl⟩
     ·
      have fR:rsR k=true:=decide_eq_true (by omega)
      have fA:rsA k=true:=decide_eq_true (by omega)
      by_cases ht1:r<0
      ·
       have ft1:decide (r<0)=true:=decide_eq_true (by omega)
       have HL:=zH (show CD.tf (G2 k r a M b.bs.length)=false from CD.aD (by unfold G2;omega))
       clear hk ht1
       as_aux_lemma =>
        go_wp2_with fail
        go_meet
        case rel=>exact⟨rfl,rfl,by first | rfl | rw[fR],by first | rfl | rw[fA],rfl,by rw[HZ2.out,HL.out];rfl,rfl⟩
      have ft1:decide (r<0)=false:=decide_eq_false (by omega)
      by_cases ht2:(M:Int)<=r
      ·
       have ft2:decide ((M:Int)<=r)=true:=decide_eq_true (by omega)
       have HL:=zH (show CD.tf (G2 k r a M b.bs.length)=false from CD.aD (by unfold G2;omega))
       clear hk ht1 ht2
       as_aux_lemma =>
        go_wp2_with fail
        go_meet
        case rel=>exact⟨rfl,rfl,by first | rfl | rw[fR],by first | rfl | rw[fA],rfl,by rw[HZ2.out,HL.out];rfl,rfl⟩
      have ft2:decide ((M:Int)<=r)=false:=decide_eq_false (by omega)
      by_cases ht3:a<0
      ·
       have ft3:decide (a<0)=true:=decide_eq_true (by omega)
       have HL:=zH (show CD.tf (G2 k r a M b.bs.length)=false from CD.aD (by unfold G2;omega))
       clear hk ht1 ht2 ht3
       as_aux_lemma =>
        go_wp2_with fail
        go_meet
        case rel=>exact⟨rfl,rfl,by first | rfl | rw[fR],by first | rfl | rw[fA],rfl,by rw[HZ2.out,HL.out];rfl,rfl⟩
      have ft3:decide (a<0)=false:=decide_eq_false (by omega)
      by_cases ht4:(b.bs.length:Int)<=a
      ·
       have ft4:decide ((b.bs.length:Int)<=a)=true:=decide_eq_true (by omega)
       have HL:=zH (show CD.tf (G2 k r a M b.bs.length)=false from CD.aD (by unfold G2;omega))
       clear hk ht1 ht2 ht3 ht4
       as_aux_lemma =>
        go_wp2_with fail
        go_meet
        case rel=>exact⟨rfl,rfl,by first | rfl | rw[fR],by first | rfl | rw[fA],rfl,by rw[HZ2.out,HL.out];rfl,rfl⟩
      have ft4:decide ((b.bs.length:Int)<=a)=false:=decide_eq_false (by omega)
      have HL:=zH (show CD.tf (G2 k r a M b.bs.length)=true from CD.bz (by unfold G2;omega))
      clear hk ht1 ht2 ht3 ht4
      as_aux_lemma =>
       go_wp2_with fail
       go_meet
       case rel=>exact⟨rfl,rfl,by first | rfl | rw[fR],by first | rfl | rw[fA],rfl,by rw[HZ2.out,HL.out];rfl,rfl⟩
     ·
      have fR:rsR k=false:=decide_eq_false (by omega)
      have fA:rsA k=false:=decide_eq_false (by omega)
      have HL:=zH (show CD.tf (G2 k r a M b.bs.length)=true from CD.bz (by unfold G2;omega))
      clear hk
      as_aux_lemma =>
       go_wp2_with fail
       go_meet
       case rel=>exact⟨rfl,rfl,by first | rfl | rw[fR],by first | rfl | rw[fA],rfl,by rw[HZ2.out,HL.out];rfl,rfl⟩
    case rest =>
     obtain⟨rfl,rfl,rfl,rfl,rfl,rfl,rfl⟩:=hcut
     cases z2
     ·have HNO:=zH (eh (show ¬CD.OpOk (aE st c) c b ⟨k,o,d,r,a,xs,ys,n,t⟩ nx from fun h=>CD.cZ HZ2.out.symm (by have h2:=((cX _ _ _ _ _ _ _ _ _ _ _ _ _).1 h).1.2.1;rw[HM.out];exact h2)))
      go_wp2_with fail
      go_ret2
      exact⟨HNO.out,HB5.out⟩
     ·have HG2 :=zH (CD.dU HZ2.out.symm)
      clear HZ1 HZ2
      go_upto_if 166 with fail
      obtain⟨cn,ecn⟩:∃cn,cn=cntN c k r:=⟨_,rfl⟩
      have HCN:=zH ecn
      clear ecn
      go_cut [12] from 163 to 173 (fun s12 w9=>s12=.int .i64 cn/\w5=w9)
      case first =>
       by_cases h7:k=7
       ·have f7:(k == 7)=true:=beq_iff_eq.2 h7
        have hrr:0<=r/\r<(c.fs.length:Nat):=by
         have h2:=HG2.out.1 (by omega)
         rw[HM.out] at h2
         unfold ip aE at h2
         rw[if_neg (by omega),if_pos h7] at h2
         exact h2
        have HE:=zH (show cn=CD.paAt c r by rw[HCN.out];unfold cntN;rw[if_pos h7])
        obtain⟨rn,rfl⟩:∃rn:Nat,r=(rn:Int):=⟨r.toNat,by omega⟩
        obtain⟨blk,off,ba',bc',e1,hblk,g0,_,_,_⟩:=HF.out.at (show rn<c.fs.length by omega)
        subst e1
        have HE2:=zH (show (c.fs[rn]?.getD CD.b0).pa=cn by rw[HE.out];unfold CD.paAt fnAt;rw[Int.toNat_natCast])
        obtain⟨h1,h2⟩:=hrr
        clear h7
        go_wp2_with fail
        go_meet
        case rel=>exact⟨by rw[HE2.out],rfl⟩
       ·have f7:(k == 7)=false:=beq_eq_false_iff_ne.2 h7
        have HE:=zH (show cn=rsN k by rw[HCN.out];unfold cntN;rw[if_neg h7])
        clear h7
        go_wp2_with fail
        go_meet
        case rel=>exact⟨by rw[HE.out],rfl⟩
      case rest =>
       obtain⟨rfl,rfl⟩:=hcut
       go_upto_if 176 with fail
       obtain⟨dB,edB⟩:∃dB,dB=rsD k:=⟨_,rfl⟩
       have HDB:=zH edB
       clear edB
       go_cut [13] from 174 to 208 (fun s13 w9=>s13=.bool dB/\RowKit.Hid (G3 k cn xs.length ys.length)/\w5=w9)
       case first =>
        by_cases h3:k=3
        ·
         have f3:(k == 3)=true:=beq_iff_eq.2 h3
         by_cases e1:ys.length=xs.length
         rotate_left 1
         ·
          have g1p0:((ys.length:Int) == (xs.length:Int))=false:=beq_eq_false_iff_ne.2 (by omega)
          have g1q0:((ys.length:Int) != (xs.length:Int))=true:=by rw[bne,g1p0];rfl
          have g1p1:(ys.length == xs.length)=false:=beq_eq_false_iff_ne.2 (by omega)
          have g1q1:(ys.length != xs.length)=true:=by rw[bne,g1p1];rfl
          have HNO:=zH (eh (show ¬CD.OpOk (aE st c) c b ⟨k,o,d,r,a,xs,ys,n,t⟩ nx from fun h=>by
           have h2:=((cX _ _ _ _ _ _ _ _ _ _ _ _ _).1 h).1.2.2
           rw[<-HCN.out] at h2
           unfold G3 at h2
           omega))
          clear h3 e1
          as_aux_lemma =>
           go_wp2_with fail
           go_ret2
           exact⟨HNO.out,HB5.out⟩
         have g1p0:((ys.length:Int) == (xs.length:Int))=true:=beq_iff_eq.2 (by omega)
         have g1q0:((ys.length:Int) != (xs.length:Int))=false:=by rw[bne,g1p0];rfl
         have g1p1:(ys.length == xs.length)=true:=beq_iff_eq.2 (by omega)
         have g1q1:(ys.length != xs.length)=false:=by rw[bne,g1p1];rfl
         by_cases e2:ys.length<1
         ·
          have g2:decide ((ys.length:Int)<1)=true:=decide_eq_true (by omega)
          have g3:decide (ys.length<1)=true:=decide_eq_true (by omega)
          have HNO:=zH (eh (show ¬CD.OpOk (aE st c) c b ⟨k,o,d,r,a,xs,ys,n,t⟩ nx from fun h=>by
           have h2:=((cX _ _ _ _ _ _ _ _ _ _ _ _ _).1 h).1.2.2
           rw[<-HCN.out] at h2
           unfold G3 at h2
           omega))
          clear h3 e1 e2
          as_aux_lemma =>
           go_wp2_with fail
           go_ret2
           exact⟨HNO.out,HB5.out⟩
         have g2:decide ((ys.length:Int)<1)=false:=decide_eq_false (by omega)
         have g3:decide (ys.length<1)=false:=decide_eq_false (by omega)
         by_cases e3:64<ys.length
         ·
          have g4:decide ((64:Int)<(ys.length:Int))=true:=decide_eq_true (by omega)
          have g5:decide (64<ys.length)=true:=decide_eq_true (by omega)
          have HNO:=zH (eh (show ¬CD.OpOk (aE st c) c b ⟨k,o,d,r,a,xs,ys,n,t⟩ nx from fun h=>by
           have h2:=((cX _ _ _ _ _ _ _ _ _ _ _ _ _).1 h).1.2.2
           rw[<-HCN.out] at h2
           unfold G3 at h2
           omega))
          clear h3 e1 e2 e3
          as_aux_lemma =>
           go_wp2_with fail
           go_ret2
           exact⟨HNO.out,HB5.out⟩
         have g4:decide ((64:Int)<(ys.length:Int))=false:=decide_eq_false (by omega)
         have g5:decide (64<ys.length)=false:=decide_eq_false (by omega)
         have HG:=zH (show G3 k cn xs.length ys.length by unfold G3;omega)
         clear h3 e1 e2 e3
         as_aux_lemma =>
          go_wp2_with fail
          go_meet
          case rel=>exact⟨by rw[HDB.out],HG,rfl⟩
        ·
         have f3:(k == 3)=false:=beq_eq_false_iff_ne.2 h3
         by_cases e1:ys.length=0
         rotate_left 1
         ·
          have g1p0:((ys.length:Int) == (0:Int))=false:=beq_eq_false_iff_ne.2 (by omega)
          have g1q0:((ys.length:Int) != (0:Int))=true:=by rw[bne,g1p0];rfl
          have g1p1:(ys.length == 0)=false:=beq_eq_false_iff_ne.2 (by omega)
          have g1q1:(ys.length != 0)=true:=by rw[bne,g1p1];rfl
          have HNO:=zH (eh (show ¬CD.OpOk (aE st c) c b ⟨k,o,d,r,a,xs,ys,n,t⟩ nx from fun h=>by
           have h2:=((cX _ _ _ _ _ _ _ _ _ _ _ _ _).1 h).1.2.2
           rw[<-HCN.out] at h2
           unfold G3 at h2
           omega))
          clear h3 e1
          as_aux_lemma =>
           go_wp2_with fail
           go_ret2
           exact⟨HNO.out,HB5.out⟩
         have g1p0:((ys.length:Int) == (0:Int))=true:=beq_iff_eq.2 (by omega)
         have g1q0:((ys.length:Int) != (0:Int))=false:=by rw[bne,g1p0];rfl
         have g1p1:(ys.length == 0)=true:=beq_iff_eq.2 (by omega)
         have g1q1:(ys.length != 0)=false:=by rw[bne,g1p1];rfl
         by_cases e2:(xs.length:Int)=cn
         rotate_left 1
         ·
          have g2p0:((xs.length:Int) == (cn:Int))=false:=beq_eq_false_iff_ne.2 (by omega)
          have g2q0:((xs.length:Int) != (cn:Int))=true:=by rw[bne,g2p0];rfl
          have HNO:=zH (eh (show ¬CD.OpOk (aE st c) c b ⟨k,o,d,r,a,xs,ys,n,t⟩ nx from fun h=>by
           have h2:=((cX _ _ _ _ _ _ _ _ _ _ _ _ _).1 h).1.2.2
           rw[<-HCN.out] at h2
           unfold G3 at h2
           omega))
          clear h3 e1 e2
          as_aux_lemma =>
           go_wp2_with fail
           go_ret2
           exact⟨HNO.out,HB5.out⟩
         have g2p0:((xs.length:Int) == (cn:Int))=true:=beq_iff_eq.2 (by omega)
         have g2q0:((xs.length:Int) != (cn:Int))=false:=by rw[bne,g2p0];rfl
         have HG:=zH (show G3 k cn xs.length ys.length by unfold G3;omega)
         clear h3 e1 e2
         as_aux_lemma =>
          go_wp2_with fail
          go_meet
          case rel=>exact⟨by rw[HDB.out],HG,rfl⟩
       case rest =>
        obtain⟨rfl,HG3,rfl⟩:=hcut
        obtain⟨RW,eRW⟩:∃RW:World->Prop,RW=RopW n₀ w xa ya xc yc xs ys a0 a1 a2 a3 aa fa ba st.L.length k0 S.length k1 st.I.length k2 st.O.length k3 c.ar.length ac c.fs.length fc b.bs.length bc st.D c.mn0 b.pa b.va k o d r a n t:=⟨_,rfl⟩
        have HR0:=zH (show RW w5 by rw[eRW];exact⟨HBX.out,HX.out,HY.out,HB5.out⟩)
        have HRA:=zH (show ∀wr,RW wr->il w wr a0 a1 a2 a3 aa fa ba xa ya st.L.length k0 S.length k1 st.I.length k2 st.O.length k3 c.ar.length ac c.fs.length fc b.bs.length bc xs.length xc ys.length yc st.D c.mn0 b.pa b.va k o d r a n t by rw[eRW];exact fun wr h=>h.at')
        have HRX:=zH (show ∀wr,RW wr->Row n₀ wr (.slice xa xs.length xc) xs by rw[eRW];exact fun wr h=>h.x)
        have HRY:=zH (show ∀wr,RW wr->Row n₀ wr (.slice ya ys.length yc) ys by rw[eRW];exact fun wr h=>h.y)
        have HRB:=zH (show ∀wr,RW wr->Below w.heap.size w wr by rw[eRW];exact fun wr h=>h.below)
        have HRD:=zH (show ∀wr m,RW wr->RW (wr.drewN m) by rw[eRW];exact fun wr m h=>h.drew m)
        clear eRW p0 p2 p3 q0 q1 b1 b2 x0 x1 x2 x3 x4 x5 x6 x7
        clear HBX HX HY HF EW HB5
        go_wp2_with fail
        go_loopw [18] (fun s wr=>∃j:Nat,j<=xs.length/\s=.int .i64 (j:Int)/\RowKit.Hid (RW wr/\∀q,q<j->0<=xs[q]?.getD 0/\xs[q]?.getD 0<b.va)) (fun s _=>xs.length-(intOf s).toNat)
        case atStart=>exact⟨0,Nat.zero_le _,rfl,zH ⟨HR0.out,fun q hq=>absurd hq (Nat.not_lt_zero _)⟩⟩
        case round =>
         obtain⟨w6,rfl⟩:∃w6,w6=wr:=⟨_,rfl⟩
         obtain⟨j,hj,rfl,HJ⟩:=hrel
         have hb:=HRA.out w6 HJ.out.1
         unfold il at hb
         obtain⟨⟨p0,p2,p3⟩,⟨q0,q1⟩,⟨b1,b2⟩,x0,x1,x2,x3,x4,x5,x6,x7⟩:=hb
         have hs1:=hs.1
         by_cases hlt:j<xs.length
         ·obtain⟨rb,ro,e1,hc⟩:=(HRX.out w6 HJ.out.1).cellAt hlt
          cases e1
          obtain⟨v,ev⟩:∃v,v=xs[j]?.getD 0:=⟨_,rfl⟩
          rw[<-ev] at hc
          have HLT:=zH hlt
          have HV:=zH ev
          have i1:(0:Int)<=j/\(j:Int)<xs.length:=by omega
          clear ev p0 p2 p3 q0 q1 x0 x1 x2 x3 x4 x6 x7 b2
          by_cases h1:v<0
          ·have g1:decide (v<0)=true:=decide_eq_true h1
           have HNO:=zH (eh (show ¬CD.OpOk (aE st c) c b ⟨k,o,d,r,a,xs,ys,n,t⟩ nx from fun h=>by have h2:=((cX _ _ _ _ _ _ _ _ _ _ _ _ _).1 h).2.1 j HLT.out;rw[<-HV.out] at h2;omega))
           clear h1
           go_wp2_with fail
           go_quiet (fail)
           go_wp2_with fail
           go_ret2
           exact⟨HNO.out,HRB.out _ (HRD.out _ _ HJ.out.1)⟩
          ·have g1:decide (v<0)=false:=decide_eq_false h1
           by_cases h2:b.va<=v
           ·have g2:decide (b.va<=v)=true:=decide_eq_true h2
            have HNO:=zH (eh (show ¬CD.OpOk (aE st c) c b ⟨k,o,d,r,a,xs,ys,n,t⟩ nx from fun h=>by have h3:=((cX _ _ _ _ _ _ _ _ _ _ _ _ _).1 h).2.1 j HLT.out;rw[<-HV.out] at h3;omega))
            clear h1 h2
            go_wp2_with fail
            go_quiet (fail)
            go_wp2_with fail
            go_ret2
            exact⟨HNO.out,HRB.out _ (HRD.out _ _ HJ.out.1)⟩
           ·have g2:decide (b.va<=v)=false:=decide_eq_false h2
            have HN:=zH (show ∀q,q<j+1->0<=xs[q]?.getD 0/\xs[q]?.getD 0<b.va from fun q hq=>by
             by_cases e:q=j
             ·rw[e,<-HV.out];omega
             ·exact HJ.out.2 q (by omega))
            clear h1 h2
            go_wp2_with fail
            go_quiet (fail)
            go_wp2_with fail
            go_roundw
            case rel=>exact⟨j+1,HLT.out,by go_num,zH ⟨HRD.out _ _ HJ.out.1,HN.out⟩⟩
            case measure=>have:=HLT.out;simp [intOf];omega
         ·have HXS:=zH (show CD.InOk xs b.va from fun q hq=>HJ.out.2 q (by omega))
          have HW6:=zH HJ.out.1
          clear p0 p2 p3 q0 q1 x0 x1 x2 x3 x4 x6 x7 b1 b2
          go_wp2_with fail
          clear x5 hlt
          clear HJ
          go_loopw [19] (fun s wr=>∃j:Nat,j<=ys.length/\s=.int .i64 (j:Int)/\RowKit.Hid (RW wr/\∀q,q<j->0<=ys[q]?.getD 0/\ys[q]?.getD 0<(b.bs.length:Nat))) (fun s _=>ys.length-(intOf s).toNat)
          case atStart=>exact⟨0,Nat.zero_le _,rfl,zH ⟨HW6.out,fun q hq=>absurd hq (Nat.not_lt_zero _)⟩⟩
          case round =>
           obtain⟨w7,rfl⟩:∃w7,w7=wr:=⟨_,rfl⟩
           obtain⟨j,hj,rfl,HJ⟩:=hrel
           have hb:=HRA.out w7 HJ.out.1
           unfold il at hb
           obtain⟨⟨p0,p2,p3⟩,⟨q0,q1⟩,⟨b1,b2⟩,x0,x1,x2,x3,x4,x5,x6,x7⟩:=hb
           have hs1:=hs.2
           by_cases hlt:j<ys.length
           ·obtain⟨rb,ro,e1,hc⟩:=(HRY.out w7 HJ.out.1).cellAt hlt
            cases e1
            obtain⟨v,ev⟩:∃v,v=ys[j]?.getD 0:=⟨_,rfl⟩
            rw[<-ev] at hc
            have HLT:=zH hlt
            have HV:=zH ev
            have i1:(0:Int)<=j/\(j:Int)<ys.length:=by omega
            clear ev p0 p2 p3 q0 q1 x0 x1 x2 x3 x4 x5 x7 b1
            by_cases h1:v<0
            ·have g1:decide (v<0)=true:=decide_eq_true h1
             have HNO:=zH (eh (show ¬CD.OpOk (aE st c) c b ⟨k,o,d,r,a,xs,ys,n,t⟩ nx from fun h=>by have h2:=((cX _ _ _ _ _ _ _ _ _ _ _ _ _).1 h).2.2 j HLT.out;rw[<-HV.out] at h2;omega))
             clear h1
             go_wp2_with fail
             go_quiet (fail)
             go_wp2_with fail
             go_ret2
             exact⟨HNO.out,HRB.out _ (HRD.out _ _ HJ.out.1)⟩
            ·have g1:decide (v<0)=false:=decide_eq_false h1
             by_cases h2:(b.bs.length:Int)<=v
             ·have g2:decide ((b.bs.length:Int)<=v)=true:=decide_eq_true h2
              have HNO:=zH (eh (show ¬CD.OpOk (aE st c) c b ⟨k,o,d,r,a,xs,ys,n,t⟩ nx from fun h=>by have h3:=((cX _ _ _ _ _ _ _ _ _ _ _ _ _).1 h).2.2 j HLT.out;rw[<-HV.out] at h3;omega))
              clear h1 h2
              go_wp2_with fail
              go_quiet (fail)
              go_wp2_with fail
              go_ret2
              exact⟨HNO.out,HRB.out _ (HRD.out _ _ HJ.out.1)⟩
             ·have g2:decide ((b.bs.length:Int)<=v)=false:=decide_eq_false h2
              have HN:=zH (show ∀q,q<j+1->0<=ys[q]?.getD 0/\ys[q]?.getD 0<(b.bs.length:Nat) from fun q hq=>by
               by_cases e:q=j
               ·rw[e,<-HV.out];omega
               ·exact HJ.out.2 q (by omega))
              clear h1 h2
              go_wp2_with fail
              go_quiet (fail)
              go_wp2_with fail
              go_roundw
              case rel=>exact⟨j+1,HLT.out,by go_num,zH ⟨HRD.out _ _ HJ.out.1,HN.out⟩⟩
              case measure=>have:=HLT.out;simp [intOf];omega
           ·have HOP:=zH (show CD.OpOk (aE st c) c b ⟨k,o,d,r,a,xs,ys,n,t⟩ nx from(cX _ _ _ _ _ _ _ _ _ _ _ _ _).2 ⟨⟨HG1.out,by rw[<-HM.out];exact HG2.out,by rw[<-HCN.out];exact HG3.out⟩,HXS.out,fun q hq=>HJ.out.2 q (by omega)⟩)
            clear p0 p2 p3 q0 q1 x0 x1 x2 x3 x4 x5 x7 b1 b2
            cases dB
            ·have HT:=zH (rN (t:=nx) HOP.out (by rw[if_neg (of_decide_eq_false HDB.out.symm)];omega))
             go_wp2_with fail
             go_ret2
             exact⟨HT.out,HRB.out _ HJ.out.1⟩
            ·have HT:=zH (rN (t:=nx+1) HOP.out (by rw[if_pos (of_decide_eq_true HDB.out.symm)]))
             obtain⟨h1,h2⟩:=hnx
             go_wp2_with fail
             go_ret2
             exact⟨HT.out,HRB.out _ HJ.out.1⟩
end
section
open Go.RowKit
open CD (OpP BodyP CodeP aj blAt fnAt)
def mW(q:CD.Cnt)(c:CodeP)(b:BodyP):Prop:=((0<=b.pa/\b.pa<=6)/\(1<=b.bs.length/\b.bs.length<=64))/\(∀k,k<b.bs.length->CD.dm q c b (blAt b k) (b.pa+CD.cntB b k))
noncomputable def bodT (q:CD.Cnt) (c:CodeP) (b:BodyP):Nat:=if CD.tf (mW q c b)=true then CD.lenB b b.bs.length else 0
def ks(q:CD.Cnt)(c:CodeP)(b:BodyP)(e:Ending):Prop:=e=.returned (.tuple #[.int .i64 ((bodT q c b:Nat):Int),.bool (CD.tf (CD.aK q c b))])
theorem bodyE_no{q:CD.Cnt}{c:CodeP}{b:BodyP}(h:¬mW q c b):ks q c b (.returned (.tuple #[.int .i64 0,.bool false])):=by
 unfold ks bodT
 rw[CD.aD h,CD.aD (fun g=>h ⟨g.1,g.2.1⟩)]
 rfl
theorem bodyE_end{q:CD.Cnt}{c:CodeP}{b:BodyP}{z:Bool}(h:z=CD.tf (CD.aK q c b))(h1:mW q c b):ks q c b (.returned (.tuple #[.int .i64 ((CD.lenB b b.bs.length:Nat):Int),.bool z])):=by
 unfold ks bodT
 rw[CD.bz h1,h]
 rfl
theorem lw{n id:Nat}{P:Program}{C:World->Prop}{Q:Exit->Act->World->Prop}{a:Act}{w:World}{l:List Oper}(hC:C w.drew)(hnd:l.all gp=true)(hm:P.follows .mixedOrders=true)(hB:Region.lexB .any l.toArray=true)
 (h:wpQuietIn Fence.wide n P l.toArray C (fun a'=>∀w',C w'->Q .normal a' w') l a):(Code.region id l.toArray true).wp P Q a w :=
 wpIn_wide.1 (gy hC hnd hm hB h)
set_option maxRecDepth 100000 in
set_option maxHeartbeats 6400000 in
theorem tK(v0 v1 v2 v3 av fv:Value) (st:PSt) (S:List Int) (c:CodeP) (b:BodyP) (ba:Option Addr) (bc:Nat) (w:World) (hp:PolIn w v0 v1 v2 v3 st S) (ha:bA w.heap.size w av c.ar) (hf:bh w.heap.size w fv c.fs) (hbs:aU w.heap.size w (.slice ba b.bs.length bc) b.bs) (hl:∀k,k<b.bs.length->(blAt b k).length<=300) (hs:∀k,k<b.bs.length->∀j,j<(blAt b k).length->fl (aj (blAt b k) j)) :
 Calls Tryz.prog 66 #[.agg #[v0,v1,v2,v3,.int .i64 st.D],.agg #[av,fv,.int .i64 c.mn0],.agg #[.int .i64 b.pa,.int .i64 b.va,.slice ba b.bs.length bc]] w fun e w'=>ks (aE st c) c b e/\Below w.heap.size w w':=by
 have HP:=zH hp
 have HA:=zH ha
 have HF:=zH hf
 have HBS:=zH hbs
 have HL:=zH hl
 have HS:=zH hs
 obtain⟨aa,ac,rfl⟩:=ha.form
 obtain⟨fa,fc,rfl⟩:=hf.form
 obtain⟨a0,k0,rfl⟩:=hp.s0.form
 obtain⟨a1,k1,rfl⟩:=hp.s1.form
 obtain⟨a2,k2,rfl⟩:=hp.s2.form
 obtain⟨a3,k3,rfl⟩:=hp.s3.form
 have HBX:=zH (boxes3 w (.cells #[.slice a0 st.L.length k0,.slice a1 S.length k1,.slice a2 st.I.length k2,.slice a3 st.O.length k3,.int .i64 st.D] 26) (.cells #[.slice aa c.ar.length ac,.slice fa c.fs.length fc,.int .i64 c.mn0] 30) (.cells #[.int .i64 b.pa,.int .i64 b.va,.slice ba b.bs.length bc] 52))
 obtain⟨w4,ew4⟩:∃w4,w4=((w.alloc (.cells #[.slice a0 st.L.length k0,.slice a1 S.length k1,.slice a2 st.I.length k2,.slice a3 st.O.length k3,.int .i64 st.D] 26)).alloc (.cells #[.slice aa c.ar.length ac,.slice fa c.fs.length fc,.int .i64 c.mn0] 30)).alloc (.cells #[.int .i64 b.pa,.int .i64 b.va,.slice ba b.bs.length bc] 52):=⟨_,rfl⟩
 rw[<-ew4] at HBX
 have EW:=zH ew4
 clear hp ha hf hbs hl hs ew4
 obtain⟨d0,d1,d2⟩:=box3 HBX.out.1.2.2
 have hfail:∀h:¬mW (aE st c) c b,ks (aE st c) c b (.returned (.tuple #[.int .i64 0,.bool false])):=fun h=>bodyE_no h
 have HFAIL:=zH hfail
 clear hfail
 by_cases c1:b.pa<0
 ·have t1:decide (b.pa<0)=true:=decide_eq_true c1
  have HNO:=zH (HFAIL.out (fun h=>by have:=h.1.1;omega))
  clear c1
  go_enter Tryz.func66,Tryz.ntmps66
  go_wp2_with fail
  rw[<-EW.out]
  go_wp2_with fail
  go_ret2
  exact⟨HNO.out,HBX.out.2⟩
 have t1:decide (b.pa<0)=false:=decide_eq_false c1
 by_cases c2:6<b.pa
 ·have t2:decide (6<b.pa)=true:=decide_eq_true c2
  have HNO:=zH (HFAIL.out (fun h=>by have:=h.1.1;omega))
  clear c1 c2
  go_enter Tryz.func66,Tryz.ntmps66
  go_wp2_with fail
  rw[<-EW.out]
  go_wp2_with fail
  go_ret2
  exact⟨HNO.out,HBX.out.2⟩
 have t2:decide (6<b.pa)=false:=decide_eq_false c2
 by_cases c3:b.bs.length<1
 ·have t3:decide ((b.bs.length:Int)<1)=true:=decide_eq_true (by omega)
  have t3':decide (b.bs.length<1)=true:=decide_eq_true c3
  have HNO:=zH (HFAIL.out (fun h=>by have:=h.1.2;omega))
  clear c1 c2 c3
  go_enter Tryz.func66,Tryz.ntmps66
  go_wp2_with fail
  rw[<-EW.out]
  go_wp2_with fail
  go_ret2
  exact⟨HNO.out,HBX.out.2⟩
 have t3:decide ((b.bs.length:Int)<1)=false:=decide_eq_false (by omega)
 have t3':decide (b.bs.length<1)=false:=decide_eq_false c3
 by_cases c4:64<b.bs.length
 ·have t4:decide ((64:Int)<(b.bs.length:Int))=true:=decide_eq_true (by omega)
  have t4':decide (64<b.bs.length)=true:=decide_eq_true c4
  have HNO:=zH (HFAIL.out (fun h=>by have:=h.1.2;omega))
  clear c1 c2 c3 c4
  go_enter Tryz.func66,Tryz.ntmps66
  go_wp2_with fail
  rw[<-EW.out]
  go_wp2_with fail
  go_ret2
  exact⟨HNO.out,HBX.out.2⟩
 have t4:decide ((64:Int)<(b.bs.length:Int))=false:=decide_eq_false (by omega)
 have t4':decide (64<b.bs.length)=false:=decide_eq_false c4
 have HBD:=zH (show (0<=b.pa/\b.pa<=6)/\(1<=b.bs.length/\b.bs.length<=64) by omega)
 have HCL:=zH (fun(i:Nat) (hi:i<=b.bs.length)=>show CD.lenB b i<=19200/\CD.cntB b i<=19200 by
  have h1:=jG b i hi (fun j hj=>HL.out j (by omega))
  have h2:=CD.pf b i hi
  omega)
 have hpa:0<=b.pa/\b.pa<=6:=by omega
 have hlen:b.bs.length<=64:=by omega
 clear c1 c2 c3 c4
 go_enter Tryz.func66,Tryz.ntmps66
 go_wp2_with fail
 rw[<-EW.out]
 go_wp2_with fail
 clear d0 d1 d2
 go_loopw [8,9,10] (fun s8 s9 s10 wr=>∃i:Nat,i<=b.bs.length/\s10=.int .i64 (i:Int)/\s8=.int .i64 (b.pa+(CD.cntB b i:Nat))/\s9=.int .i64 ((CD.lenB b i:Nat):Int)/\RowKit.Hid ((∀k,k<i->CD.dm (aE st c) c b (blAt b k) (b.pa+CD.cntB b k))/\Below w4.heap.size w4 wr)) (fun _ _ s10 _=>b.bs.length-(intOf s10).toNat)
 case atStart=>exact⟨0,Nat.zero_le _,rfl,by rw[CD.kC];simp,by simp [CD.lenB],zH ⟨fun k hk=>absurd hk (Nat.not_lt_zero _),Below.refl _ _⟩⟩
 case round =>
  obtain⟨w5,rfl⟩:∃w5,w5=wr:=⟨_,rfl⟩
  obtain⟨i,hi,rfl,rfl,rfl,HI⟩:=hrel
  obtain⟨d0,d1,d2⟩:=box3 (az HI.out.2 HBX.out.1.2.2)
  have HBW:=zH (HBX.out.2.trans (HI.out.2.mono HBX.out.2.size))
  obtain⟨LB,eLB⟩:∃LB,LB=CD.lenB b i:=⟨_,rfl⟩
  obtain⟨CB,eCB⟩:∃CB,CB=CD.cntB b i:=⟨_,rfl⟩
  have hLB:LB<=19200/\CB<=19200:=by rw[eLB,eCB];exact HCL.out i hi
  have HLB:=zH eLB
  have HCB:=zH eCB
  rw[<-eLB,<-eCB]
  clear eLB eCB
  by_cases hlt:i<b.bs.length
  ·obtain⟨bb,bo,la,lc,eba,hbb,hcell,hops⟩:=(HBS.out.below HBW.out).at hlt
   subst eba
   have HOPS:=zH hops
   have hl:=HL.out i hlt
   have HSM:=zH (HS.out i hlt)
   have HLT:=zH hlt
   have i1:(0:Int)<=i/\(i:Int)<b.bs.length:=by omega
   have HBA:=zH (show b.bs[i]?.getD []=blAt b i from rfl)
   rw[HBA.out] at hcell HOPS
   obtain⟨l,el⟩:∃l,l=blAt b i:=⟨_,rfl⟩
   rw[<-el] at hcell HOPS hl HSM
   have HEL:=zH el
   clear el hops hlt
   by_cases h0:l.length=0
   ·have t5:((l.length:Int) == 0)=true:=beq_iff_eq.2 (by omega)
    have t5':(l.length == 0)=true:=beq_iff_eq.2 h0
    have HNO:=zH (HFAIL.out (fun h=>by have:=(h.2 i HLT.out).1;rw[<-HEL.out] at this;omega))
    clear h0
    go_wp2_with fail
    go_ret2
    exact⟨HNO.out,HBW.out⟩
   ·have t5:((l.length:Int) == 0)=false:=beq_eq_false_iff_ne.2 (by omega)
    have t5':(l.length == 0)=false:=beq_eq_false_iff_ne.2 h0
    have t6:decide ((4096:Int)<(l.length:Int))=false:=decide_eq_false (by omega)
    have t6':decide (4096<l.length)=false:=decide_eq_false (by omega)
    have H0:=zH (show 1<=l.length by omega)
    clear h0
    go_wp2_with fail
    obtain⟨NX,eNX⟩:∃NX,NX=b.pa+(CB:Int):=⟨_,rfl⟩
    have hNX:0<=NX/\NX<=20000:=by omega
    have HNX:=zH eNX
    go_loopw [8,9,12] (fun s8 s9 s12 wr=>∃j:Nat,j<=l.length/\s12=.int .i64 (j:Int)/\s8=.int .i64 (NX+(CD.cnt l j:Nat))/\s9=.int .i64 ((LB+j:Nat):Int)/\RowKit.Hid ((∀k,k<j->CD.OpOk (aE st c) c b (aj l k) (NX+CD.cnt l k)/\CD.bG l k)/\Below w5.heap.size w5 wr)) (fun _ _ s12 _=>l.length-(intOf s12).toNat)
    case atStart=>exact⟨0,Nat.zero_le _,rfl,by rw[CD.gJ,eNX];simp,by simp,zH ⟨fun k hk=>absurd hk (Nat.not_lt_zero _),Below.refl _ _⟩⟩
    case round =>
     clear d0 d1 d2 hcell eNX
     obtain⟨w6,rfl⟩:∃w6,w6=wr:=⟨_,rfl⟩
     obtain⟨j,hj,rfl,rfl,rfl,HJ⟩:=hrel
     have HB6:=zH (HBW.out.trans (HJ.out.2.mono HBW.out.size))
     have H46:=zH (HI.out.2.trans (HJ.out.2.mono HI.out.2.size))
     have hcj:=CD.cnt_le l j
     obtain⟨CJ,eCJ⟩:∃CJ,CJ=CD.cnt l j:=⟨_,rfl⟩
     rw[<-eCJ] at hcj ⊢
     have HCJ:=zH eCJ
     clear eCJ
     by_cases hjt:j<l.length
     ·obtain⟨blk,off,xa,xc,ya,yc,ela,hblk,⟨x0,x1,x2,x3,x4,x5,x6,x7,x8⟩,hrx,hry⟩:=dK (HOPS.out.below (HJ.out.2.mono HBW.out.size)) hjt
      subst ela
      have HRX:=zH hrx
      have HRY:=zH hry
      have HSJ:=zH (HSM.out j hjt)
      have HJT:=zH hjt
      have HX0:=zH x0
      have HBK:=zH hblk
      obtain⟨p0,p1,p2,p3,p4⟩:=box5 (az H46.out HBX.out.1.1)
      obtain⟨q0,q1,q2⟩:=box3 (az H46.out HBX.out.1.2.1)
      obtain⟨d0,d1,d2⟩:=box3 (az H46.out HBX.out.1.2.2)
      have i2:(0:Int)<=j/\(j:Int)<l.length:=by omega
      have hz6:w.heap.size+1+1<w6.heap.size:=(Array.getElem?_eq_some_iff.1 (az H46.out HBX.out.1.2.2)).1
      have HRO:=zH (fun(w7:World) (hdr:Below w6.heap.size w6 w7)=>rop9_any (n₀:=w.heap.size) _ _ _ _ _ _ st S c b (some ⟨bb,bo,none⟩) xa ya bc xc yc (aj l j).k (aj l j).o (aj l j).d (aj l j).r (aj l j).a (aj l j).xs (aj l j).ys (aj l j).n (aj l j).t (NX+(CJ:Int)) w7 (HP.out.below (HB6.out.trans (hdr.mono HB6.out.size))) (HA.out.below (HB6.out.trans (hdr.mono HB6.out.size))) (HF.out.below (HB6.out.trans (hdr.mono HB6.out.size))) (Nat.le_trans HB6.out.size hdr.size) (hrx.below (hdr.mono HB6.out.size)) (hry.below (hdr.mono HB6.out.size)) (by omega) HSJ.out)
      obtain⟨t8,et8⟩:∃t8,t8=ropT (aE st c) c b (aj l j) (NX+(CJ:Int)):=⟨_,rfl⟩
      obtain⟨z8,ez8⟩:∃z8,z8=CD.tf (CD.OpOk (aE st c) c b (aj l j) (NX+(CJ:Int))):=⟨_,rfl⟩
      have HZ8:=zH ez8
      have HT8:=zH et8
      unfold RopE at HRO
      rw[<-et8,<-ez8] at HRO
      clear hrx hry hjt et8 ez8
      go_upto_region 13 with fail
      refine lw (n:=6) (C:=Below w6.heap.size w6) (by exact⟨rfl,rfl,rfl,Nat.le_refl _,fun _ _=>rfl⟩) (by kernel_rfl) (by kernel_rfl) (by kernel_rfl) ?_
      refine gkT (.agg #[.slice a0 st.L.length k0,.slice a1 S.length k1,.slice a2 st.I.length k2,.slice a3 st.O.length k3,.int .i64 st.D]) (fun w9 hw9=>?_) ?_
      ·have z0:=(hw9.cell (p:=⟨w.heap.size,0,none⟩) (by show w.heap.size<w6.heap.size;omega)).trans p0;have z1:=(hw9.cell (p:=⟨w.heap.size,1,none⟩) (by show w.heap.size<w6.heap.size;omega)).trans p1;have z2:=(hw9.cell (p:=⟨w.heap.size,2,none⟩) (by show w.heap.size<w6.heap.size;omega)).trans p2;have z3:=(hw9.cell (p:=⟨w.heap.size,3,none⟩) (by show w.heap.size<w6.heap.size;omega)).trans p3;have z4:=(hw9.cell (p:=⟨w.heap.size,4,none⟩) (by show w.heap.size<w6.heap.size;omega)).trans p4;unfold Oper.quietAtIn;simp [go_sem,Oper.quietUponIn,z0,z1,z2,z3,z4]
      simp only[zA,zB,zC,Act.put,zD,zE,zF]
      refine gkT (.agg #[.slice aa c.ar.length ac,.slice fa c.fs.length fc,.int .i64 c.mn0]) (fun w9 hw9=>?_) ?_
      ·have z0:=(hw9.cell (p:=⟨w.heap.size+1,0,none⟩) (by show w.heap.size+1<w6.heap.size;omega)).trans q0;have z1:=(hw9.cell (p:=⟨w.heap.size+1,1,none⟩) (by show w.heap.size+1<w6.heap.size;omega)).trans q1;have z2:=(hw9.cell (p:=⟨w.heap.size+1,2,none⟩) (by show w.heap.size+1<w6.heap.size;omega)).trans q2;unfold Oper.quietAtIn;simp [go_sem,Oper.quietUponIn,z0,z1,z2]
      simp only[zA,zB,zC,Act.put,zD,zE,zF]
      refine gkT (.agg #[.int .i64 b.pa,.int .i64 b.va,.slice (some ⟨bb,bo,none⟩) b.bs.length bc]) (fun w9 hw9=>?_) ?_
      ·have z0:=(hw9.cell (p:=⟨w.heap.size+1+1,0,none⟩) (by show w.heap.size+1+1<w6.heap.size;omega)).trans d0;have z1:=(hw9.cell (p:=⟨w.heap.size+1+1,1,none⟩) (by show w.heap.size+1+1<w6.heap.size;omega)).trans d1;have z2:=(hw9.cell (p:=⟨w.heap.size+1+1,2,none⟩) (by show w.heap.size+1+1<w6.heap.size;omega)).trans d2;unfold Oper.quietAtIn;simp [go_sem,Oper.quietUponIn,z0,z1,z2]
      simp only[zA,zB,zC,Act.put,zD,zE,zF]
      refine gkT (.slice (some ⟨blk,off,none⟩) l.length lc) (fun w9 hw9=>?_) ?_
      ·unfold Oper.quietAtIn;simp [go_sem,Oper.quietUponIn]
      simp only[zA,zB,zC,Act.put,zD,zE,zF]
      refine gkT (.int .i64 (j:Int)) (fun w9 hw9=>?_) ?_
      ·unfold Oper.quietAtIn;simp [go_sem,Oper.quietUponIn]
      simp only[zA,zB,zC,Act.put,zD,zE,zF]
      refine gkT (.pointer (some ⟨blk,off+j*9,none⟩)) (fun w9 hw9=>?_) ?_
      ·have z0:=i2.1;have z1:=i2.2;unfold Oper.quietAtIn;simp [go_sem,Oper.quietUponIn,z0,z1]
      simp only[zA,zB,zC,Act.put,zD,zE,zF]
      refine gkT (.agg #[.int .u8 (aj l j).k,.int .u8 (aj l j).o,.int .i64 (aj l j).d,.int .i64 (aj l j).r,.int .i64 (aj l j).a,.slice xa (aj l j).xs.length xc,.slice ya (aj l j).ys.length yc,.int .i64 (aj l j).n,.int .i64 (aj l j).t]) (fun w9 hw9=>?_) ?_
      ·have z0:=(hw9.cell (p:=⟨blk,off+j*9,none⟩) (by show blk<w6.heap.size;omega)).trans x0;have z1:=(hw9.cell (p:=⟨blk,off+j*9+1,none⟩) (by show blk<w6.heap.size;omega)).trans x1;have z2:=(hw9.cell (p:=⟨blk,off+j*9+2,none⟩) (by show blk<w6.heap.size;omega)).trans x2;have z3:=(hw9.cell (p:=⟨blk,off+j*9+3,none⟩) (by show blk<w6.heap.size;omega)).trans x3;have z4:=(hw9.cell (p:=⟨blk,off+j*9+4,none⟩) (by show blk<w6.heap.size;omega)).trans x4;have z5:=(hw9.cell (p:=⟨blk,off+j*9+5,none⟩) (by show blk<w6.heap.size;omega)).trans x5;have z6:=(hw9.cell (p:=⟨blk,off+j*9+6,none⟩) (by show blk<w6.heap.size;omega)).trans x6;have z7:=(hw9.cell (p:=⟨blk,off+j*9+7,none⟩) (by show blk<w6.heap.size;omega)).trans x7;have z8:=(hw9.cell (p:=⟨blk,off+j*9+8,none⟩) (by show blk<w6.heap.size;omega)).trans x8;unfold Oper.quietAtIn;simp [go_sem,Oper.quietUponIn,z0,z1,z2,z3,z4,z5,z6,z7,z8]
      simp only[zA,zB,zC,Act.put,zD,zE,zF]
      refine gkT (.int .i64 (NX+(CJ:Int))) (fun w9 hw9=>?_) ?_
      ·unfold Oper.quietAtIn;simp [go_sem,Oper.quietUponIn]
      simp only[zA,zB,zC,Act.put,zD,zE,zF]
      refine Go.Proofs.YtjngffgkllakaaaGreatDoor.grow_take (.tuple #[.int .i64 t8,.bool z8]) (by intro w9 _ f9 hf9;exact trivial) (by rfl) (fun w9 hw9=>?_) ?_
      ·unfold Oper.quietAtIn;simp [go_sem,Oper.quietUponIn];exact callsIn_wide.2 ((HRO.out w9 hw9).mono fun e w2 h=>⟨h.1,hw9.trans (h.2.mono hw9.size)⟩)
      simp only[zA,zB,zC,Act.put,zD,zE,zF]
      refine gkT (.tuple #[.int .i64 t8,.bool z8]) (fun w9 hw9=>?_) ?_
      ·unfold Oper.quietAtIn;simp [go_sem,Oper.quietUponIn]
      simp only[zA,zB,zC,Act.put,zD,zE,zF]
      refine gkT (.int .i64 t8) (fun w9 hw9=>?_) ?_
      ·unfold Oper.quietAtIn;simp [go_sem,Oper.quietUponIn]
      simp only[zA,zB,zC,Act.put,zD,zE,zF]
      refine gkT (.bool z8) (fun w9 hw9=>?_) ?_
      ·unfold Oper.quietAtIn;simp [go_sem,Oper.quietUponIn]
      simp only[zA,zB,zC,Act.put,zD,zE,zF]
      refine gkT (.int .i64 t8) (fun w9 hw9=>?_) ?_
      ·unfold Oper.quietAtIn;simp [go_sem,Oper.quietUponIn]
      simp only[zA,zB,zC,Act.put,zD,zE,zF]
      refine gkT (.bool z8) (fun w9 hw9=>?_) ?_
      ·unfold Oper.quietAtIn;simp [go_sem,Oper.quietUponIn]
      simp only[zA,zB,zC,Act.put,zD,zE,zF]
      refine wpQuietIn_nil ?_
      intro w9 hw9
      have H68:=zH hw9
      clear hw9 p0 p1 p2 p3 p4 q0 q1 q2 d0 d1 d2 x0 x1 x2 x3 x4 x5 x6 x7 x8 hblk
      go_upto_region 14 with fail
      have HB8:=zH (HB6.out.trans (H68.out.mono HB6.out.size))
      have H58:=zH (HJ.out.2.trans (H68.out.mono HJ.out.2.size))
      try simp only[List.append]
      have HNOP:=zH (show mW (aE st c) c b->CD.OpOk (aE st c) c b (aj l j) (NX+(CJ:Int))/\CD.bG l j from fun h=>by
       have h1:=(h.2 i HLT.out).2 j (by rw[<-HEL.out];exact HJT.out)
       rw[<-HEL.out,<-HCB.out,<-HNX.out,<-HCJ.out] at h1
       exact h1)
      cases z8
      ·have HNO:=zH (HFAIL.out (fun h=>CD.cZ HZ8.out.symm (HNOP.out h).1))
       go_wp2_with fail
       go_ret2
       exact⟨HNO.out,HB8.out⟩
      ·have HOP :=zH (CD.dU HZ8.out.symm)
       have ht8:t8=NX+((CD.cnt l (j+1):Nat):Int):=by
        rw[HT8.out,rM HOP.out,CD.gK HJT.out,<-HCJ.out]
        split <;> omega
       subst ht8
       have hx0:w9.cell? ⟨blk,off+j*9,none⟩=some (.int .u8 (aj l j).k):=(H68.out.cell (p:=⟨blk,off+j*9,none⟩) (Nat.lt_of_lt_of_le HBK.out HB6.out.size)).trans HX0.out
       have HPV:=zH (fun(h:¬j=0)=>show w9.cell? ⟨blk,off+(j-1)*9,none⟩=some (.int .u8 (aj l (j-1)).k) by
        obtain⟨blk',off',_,_,_,_,e',_,⟨y0,_⟩,_⟩:=dK (HOPS.out.below (H58.out.mono HBW.out.size)) (show j-1<l.length by have:=HJT.out;omega)
        cases e'
        exact y0)
       obtain⟨kj,ekj⟩:∃kj,kj=(aj l j).k:=⟨_,rfl⟩
       rw[<-ekj] at hx0
       have HKJ:=zH ekj
       obtain⟨kp,ekp⟩:∃kp,kp=(aj l (j-1)).k:=⟨_,rfl⟩
       rw[<-ekp] at HPV
       have HKP:=zH ekp
       clear ekj ekp
       by_cases hE:CD.Ends kj
       ·
        have HE:=zH (show endB kj=true from decide_eq_true hE)
        by_cases hL:j+1=l.length
        ·
         have g1:((j:Int) == (l.length:Int)-1)=true:=beq_iff_eq.2 (by omega)
         have i3:(1:Int)<=l.length:=by omega
         by_cases h3:kj=3
         ·
          have g2:(kj == 3)=true:=beq_iff_eq.2 h3
          by_cases h0:j=0
          ·
           have g3:decide ((0:Int)<(j:Int))=false:=decide_eq_false (by omega)
           have g3':decide (0<j)=false:=decide_eq_false (by omega)
           have HST:=zH (show CD.bG l j by
            unfold CD.bG
            rw[<-HKJ.out,<-HKP.out]
            simp_all)
           have HN:=zH (show ∀k,k<j+1->CD.OpOk (aE st c) c b (aj l k) (NX+CD.cnt l k)/\CD.bG l k from fun k hk=>by
            by_cases e:k=j
            ·rw[e,<-HCJ.out];exact⟨HOP.out,HST.out⟩
            ·exact HJ.out.1 k (by omega))
           clear hE hL h3 h0
           go_wp2_with (go_at_call 112;refine(cY _ _).mono ?_;rintro e w10 ⟨rfl,rfl⟩;rw[HE.out])
           go_roundw
           case rel=>exact⟨j+1,HJT.out,by go_num,rfl,by go_num,zH ⟨HN.out,H58.out⟩⟩
           case measure=>have:=HJT.out;simp [intOf];omega
          ·
           have g3:decide ((0:Int)<(j:Int))=true:=decide_eq_true (by omega)
           have g3':decide (0<j)=true:=decide_eq_true (by omega)
           have hp:=HPV.out h0
           have i4:(0:Int)<=(j:Int)-1/\(j:Int)-1<l.length:=by omega
           have i5:((j:Int)-1).toNat=j-1:=by omega
           have i6:(1:Int)<=j:=by omega
           by_cases h4:kp=3
           ·
            have g4:(kp == 3)=true:=beq_iff_eq.2 h4
            have g4':(kp != 3)=false:=by rw[bne,g4];rfl
            have HST:=zH (show CD.bG l j by
             unfold CD.bG
             rw[<-HKJ.out,<-HKP.out]
             simp_all)
            have HN:=zH (show ∀k,k<j+1->CD.OpOk (aE st c) c b (aj l k) (NX+CD.cnt l k)/\CD.bG l k from fun k hk=>by
             by_cases e:k=j
             ·rw[e,<-HCJ.out];exact⟨HOP.out,HST.out⟩
             ·exact HJ.out.1 k (by omega))
            clear hE hL h3 h0 h4
            go_wp2_with (go_at_call 112;refine(cY _ _).mono ?_;rintro e w10 ⟨rfl,rfl⟩;rw[HE.out])
            go_roundw
            case rel=>exact⟨j+1,HJT.out,by go_num,rfl,by go_num,zH ⟨HN.out,H58.out⟩⟩
            case measure=>have:=HJT.out;simp [intOf];omega
           ·
            have g4:(kp == 3)=false:=beq_eq_false_iff_ne.2 h4
            have g4':(kp != 3)=true:=by rw[bne,g4];rfl
            have HNO:=zH (HFAIL.out (fun h=>by
             have h1:=(HNOP.out h).2
             unfold CD.bG at h1
             rw[<-HKJ.out,<-HKP.out] at h1
             simp_all))
            clear hE hL h3 h0 h4
            go_wp2_with (go_at_call 112;refine(cY _ _).mono ?_;rintro e w10 ⟨rfl,rfl⟩;rw[HE.out])
            go_ret2
            exact⟨HNO.out,HB8.out⟩
         ·
          have g2:(kj == 3)=false:=beq_eq_false_iff_ne.2 h3
          have HST:=zH (show CD.bG l j by
           unfold CD.bG
           rw[<-HKJ.out,<-HKP.out]
           simp_all)
          have HN:=zH (show ∀k,k<j+1->CD.OpOk (aE st c) c b (aj l k) (NX+CD.cnt l k)/\CD.bG l k from fun k hk=>by
           by_cases e:k=j
           ·rw[e,<-HCJ.out];exact⟨HOP.out,HST.out⟩
           ·exact HJ.out.1 k (by omega))
          clear hE hL h3
          go_wp2_with (go_at_call 112;refine(cY _ _).mono ?_;rintro e w10 ⟨rfl,rfl⟩;rw[HE.out])
          go_roundw
          case rel=>exact⟨j+1,HJT.out,by go_num,rfl,by go_num,zH ⟨HN.out,H58.out⟩⟩
          case measure=>have:=HJT.out;simp [intOf];omega
        ·
         have g1:((j:Int) == (l.length:Int)-1)=false:=beq_eq_false_iff_ne.2 (by omega)
         have i3:(1:Int)<=l.length:=by omega
         have HNO:=zH (HFAIL.out (fun h=>by
          have h1:=(HNOP.out h).2
          unfold CD.bG at h1
          rw[<-HKJ.out,<-HKP.out] at h1
          simp_all))
         clear hE hL
         go_wp2_with (go_at_call 112;refine(cY _ _).mono ?_;rintro e w10 ⟨rfl,rfl⟩;rw[HE.out])
         go_ret2
         exact⟨HNO.out,HB8.out⟩
       ·
        have HE:=zH (show endB kj=false from decide_eq_false hE)
        by_cases hL:j+1=l.length
        ·
         have g1:((j:Int) == (l.length:Int)-1)=true:=beq_iff_eq.2 (by omega)
         have i3:(1:Int)<=l.length:=by omega
         have HNO:=zH (HFAIL.out (fun h=>by
          have h1:=(HNOP.out h).2
          unfold CD.bG at h1
          rw[<-HKJ.out,<-HKP.out] at h1
          simp_all))
         clear hE hL
         go_wp2_with (go_at_call 112;refine(cY _ _).mono ?_;rintro e w10 ⟨rfl,rfl⟩;rw[HE.out])
         go_ret2
         exact⟨HNO.out,HB8.out⟩
        ·
         have g1:((j:Int) == (l.length:Int)-1)=false:=beq_eq_false_iff_ne.2 (by omega)
         have i3:(1:Int)<=l.length:=by omega
         by_cases h3:kj=3
         ·
          have g2:(kj == 3)=true:=beq_iff_eq.2 h3
          by_cases h0:j=0
          ·
           have g3:decide ((0:Int)<(j:Int))=false:=decide_eq_false (by omega)
           have g3':decide (0<j)=false:=decide_eq_false (by omega)
           have HST:=zH (show CD.bG l j by
            unfold CD.bG
            rw[<-HKJ.out,<-HKP.out]
            simp_all)
           have HN:=zH (show ∀k,k<j+1->CD.OpOk (aE st c) c b (aj l k) (NX+CD.cnt l k)/\CD.bG l k from fun k hk=>by
            by_cases e:k=j
            ·rw[e,<-HCJ.out];exact⟨HOP.out,HST.out⟩
            ·exact HJ.out.1 k (by omega))
           clear hE hL h3 h0
           go_wp2_with (go_at_call 112;refine(cY _ _).mono ?_;rintro e w10 ⟨rfl,rfl⟩;rw[HE.out])
           go_roundw
           case rel=>exact⟨j+1,HJT.out,by go_num,rfl,by go_num,zH ⟨HN.out,H58.out⟩⟩
           case measure=>have:=HJT.out;simp [intOf];omega
          ·
           have g3:decide ((0:Int)<(j:Int))=true:=decide_eq_true (by omega)
           have g3':decide (0<j)=true:=decide_eq_true (by omega)
           have hp:=HPV.out h0
           have i4:(0:Int)<=(j:Int)-1/\(j:Int)-1<l.length:=by omega
           have i5:((j:Int)-1).toNat=j-1:=by omega
           have i6:(1:Int)<=j:=by omega
           by_cases h4:kp=3
           ·
            have g4:(kp == 3)=true:=beq_iff_eq.2 h4
            have g4':(kp != 3)=false:=by rw[bne,g4];rfl
            have HST:=zH (show CD.bG l j by
             unfold CD.bG
             rw[<-HKJ.out,<-HKP.out]
             simp_all)
            have HN:=zH (show ∀k,k<j+1->CD.OpOk (aE st c) c b (aj l k) (NX+CD.cnt l k)/\CD.bG l k from fun k hk=>by
             by_cases e:k=j
             ·rw[e,<-HCJ.out];exact⟨HOP.out,HST.out⟩
             ·exact HJ.out.1 k (by omega))
            clear hE hL h3 h0 h4
            go_wp2_with (go_at_call 112;refine(cY _ _).mono ?_;rintro e w10 ⟨rfl,rfl⟩;rw[HE.out])
            go_roundw
            case rel=>exact⟨j+1,HJT.out,by go_num,rfl,by go_num,zH ⟨HN.out,H58.out⟩⟩
            case measure=>have:=HJT.out;simp [intOf];omega
           ·
            have g4:(kp == 3)=false:=beq_eq_false_iff_ne.2 h4
            have g4':(kp != 3)=true:=by rw[bne,g4];rfl
            have HNO:=zH (HFAIL.out (fun h=>by
             have h1:=(HNOP.out h).2
             unfold CD.bG at h1
             rw[<-HKJ.out,<-HKP.out] at h1
             simp_all))
            clear hE hL h3 h0 h4
            go_wp2_with (go_at_call 112;refine(cY _ _).mono ?_;rintro e w10 ⟨rfl,rfl⟩;rw[HE.out])
            go_ret2
            exact⟨HNO.out,HB8.out⟩
         ·
          have g2:(kj == 3)=false:=beq_eq_false_iff_ne.2 h3
          have HST:=zH (show CD.bG l j by
           unfold CD.bG
           rw[<-HKJ.out,<-HKP.out]
           simp_all)
          have HN:=zH (show ∀k,k<j+1->CD.OpOk (aE st c) c b (aj l k) (NX+CD.cnt l k)/\CD.bG l k from fun k hk=>by
           by_cases e:k=j
           ·rw[e,<-HCJ.out];exact⟨HOP.out,HST.out⟩
           ·exact HJ.out.1 k (by omega))
          clear hE hL h3
          go_wp2_with (go_at_call 112;refine(cY _ _).mono ?_;rintro e w10 ⟨rfl,rfl⟩;rw[HE.out])
          go_roundw
          case rel=>exact⟨j+1,HJT.out,by go_num,rfl,by go_num,zH ⟨HN.out,H58.out⟩⟩
          case measure=>have:=HJT.out;simp [intOf];omega
     ·have ej:j=l.length:=by omega
      subst ej
      have HBO:=zH (show ∀k,k<i+1->CD.dm (aE st c) c b (blAt b k) (b.pa+CD.cntB b k) from fun k hk=>by
       by_cases e:k=i
       ·rw[e,<-HEL.out,<-HCB.out,<-HNX.out];exact⟨H0.out,HJ.out.1⟩
       ·exact HI.out.1 k (by omega))
      have HCS:=zH (CD.fK HLT.out)
      have HLS:=zH (CD.fL HLT.out)
      go_wp2_with fail
      go_roundw
      case rel=>exact⟨i+1,HLT.out,by go_num,by rw[HCS.out,<-HEL.out,<-HCB.out,HNX.out,HCJ.out];go_num,by rw[HLS.out,<-HEL.out,<-HLB.out],zH ⟨HBO.out,H46.out⟩⟩
      case measure=>have:=HLT.out;simp [intOf];omega
  ·have ei:i=b.bs.length:=by omega
   subst ei
   have HE:=zH (bodyE_end (z:=decide (b.pa+(CB:Int)=b.va)) (show _=CD.tf (CD.aK (aE st c) c b) by
    refine(CD.nu ?_).symm
    rw[decide_eq_true_iff,HCB.out]
    exact⟨fun h=>h.2.2,fun h=>⟨HBD.out,HI.out.1,h⟩⟩) ⟨HBD.out,HI.out.1⟩)
   by_cases hz:b.pa+(CB:Int)=b.va
   ·have t7:(b.pa+(CB:Int) == b.va)=true:=beq_iff_eq.2 hz
    have HE2:=zH (show ks (aE st c) c b (.returned (.tuple #[.int .i64 ((LB:Nat):Int),.bool true])) by have h:=HE.out;rw[decide_eq_true hz,<-HLB.out] at h;exact h)
    clear hz
    go_wp2_with fail
    go_quiet (fail)
    go_wp2_with fail
    go_ret2
    exact⟨HE2.out,HBW.out.trans ⟨rfl,rfl,rfl,Nat.le_refl _,fun _ _=>rfl⟩⟩
   ·have t7:(b.pa+(CB:Int) == b.va)=false:=beq_eq_false_iff_ne.2 hz
    have HE2:=zH (show ks (aE st c) c b (.returned (.tuple #[.int .i64 ((LB:Nat):Int),.bool false])) by have h:=HE.out;rw[decide_eq_false hz,<-HLB.out] at h;exact h)
    clear hz
    go_wp2_with fail
    go_quiet (fail)
    go_wp2_with fail
    go_ret2
    exact⟨HE2.out,HBW.out.trans ⟨rfl,rfl,rfl,Nat.le_refl _,fun _ _=>rfl⟩⟩
end
end Go.Proofs.YtjngffgkllakaaaGreatDoor
