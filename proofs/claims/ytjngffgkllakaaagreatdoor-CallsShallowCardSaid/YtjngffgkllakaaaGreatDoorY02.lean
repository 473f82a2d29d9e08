/- A part of a proof: laws that the last text uses. -/
import Derived.Test.YtjngffgkllakaaaGreatDoorY01
import Derived.Deep.Matrix
import Derived.OpenShut
import Derived.ChangeArms
import Derived.ChangeSlices
import Derived.SizedLaws
set_option linter.unusedSimpArgs false
set_option linter.unusedVariables false
namespace Go.Proofs.YtjngffgkllakaaaGreatDoor
open List renaming getElem_toArray → zA, getElem_cons_succ → zB, getElem_cons_zero → zC, setIfInBounds_toArray → zD, set_cons_zero → zE, set_cons_succ → zF
open Lib renaming hid → zH
section
open Go.RowKit
def gr(to:List (List Int))(row:List Int)(i q:Nat)(j:Nat):List Int:=GG.bZ to j i ++ (if (j:Int)∈row.take q then [(i:Int)] else [])
theorem qA(to:List (List Int))(row:List Int)(i j:Nat):GG.bZ to j i=gr to row i 0 j:=by simp [gr]
theorem qB{to:List (List Int)}{row:List Int}{i q y:Nat}(hq:q<row.length)(hy:row[q]?.getD 0=(y:Int))(hn:row.Nodup)(j:Nat):(if j=y then gr to row i q y ++ [(i:Int)] else gr to row i q j)=gr to row i (q+1) j:=by
 rw[List.getElem?_eq_getElem hq,Option.getD_some] at hy
 unfold gr
 rw[List.take_succ_eq_append_getElem hq,hy]
 have hfr:¬((y:Int)∈row.take q):=by
  intro h
  obtain⟨k,hk,e⟩:=List.mem_take_iff_getElem.1 h
  have:=(List.getElem_inj (h₀:=by omega) (h₁:=hq) hn).1 (e.trans hy.symm)
  omega
 by_cases e:j=y
 ·subst e
  rw[if_pos rfl,if_neg hfr,if_pos (List.mem_append.2 (.inr (List.mem_singleton.2 rfl))),List.append_nil]
 ·rw[if_neg e]
  have:(j:Int)≠(y:Int):=fun h=>e (by omega)
  simp only[List.mem_append,List.mem_singleton,this,or_false]
theorem backP_all{to:List (List Int)}{i q:Nat}(hq:(to[i]?.getD []).length<=q)(j:Nat):gr to (to[i]?.getD []) i q j=GG.bZ to j (i+1):=by
 unfold gr
 rw[List.take_of_length_le hq,GG.qv]
 unfold GG.leadsB
 by_cases h:(j:Int)∈to[i]?.getD []
 ·rw[if_pos h,if_pos (decide_eq_true h)]
 ·rw[if_neg h,if_neg (by simpa using h)]
theorem backP_len(to:List (List Int))(row:List Int)(i q j:Nat):(gr to row i q j).length<=i+1:=by
 unfold gr
 rw[List.length_append]
 have:=jE to j i
 split <;> simp <;> omega
def fl(to:List (List Int)):List (List Int):=if GG.am to=true then GG.bz to else []
set_option maxRecDepth 100000 in
set_option maxHeartbeats 3200000 in
theorem gt{v:Value}{to:List (List Int)}(W:World)(hv:az W.heap.size W v to)(hx:cd to) :
 Calls Tryz.prog 90 #[v] W fun e W'=>oM W.heap.size (fl to) e W W':=by
 have hx0:=hx.1
 have HV:=zH hv
 have HX:=zH hx
 cases hr:GG.am to
 ·obtain⟨va,vc,rfl⟩:=hv.form
  clear hv hx
  have HR:=zH hr
  have HE:=zH (show fl to=[] by unfold fl;rw[if_neg (by rw[hr];simp)])
  clear hr
  go_enter Tryz.func90,Tryz.ntmps90
  go_wp2_with (go_at_call 35;refine(aG _ to _ HV.out HX.out).mono ?_;rintro e w' ⟨rfl,hB⟩;have HB:=zH hB;clear hB;rw[HR.out])
  go_ret
  exact⟨_,rfl,by rw[HE.out];exact⟨[],aT _ _ _ _ (fun _=>rfl),rfl,fun j hj=>absurd hj (Nat.not_lt_zero _)⟩,HB.out⟩
 ·have hlen :=GG.aB hr
  have HR:=zH hr
  have HE:=zH (show fl to=GG.bz to by unfold fl;rw[if_pos hr])
  obtain⟨va,vo,vc,rfl⟩:=hv.addr (by omega)
  have hvb:=hv.blk (by omega)
  obtain⟨i0,hi0,hz0,hz1,hz2⟩:=info_parts Tryz.infoGInt
  have hmk:=run_make_row' (P:=Tryz.prog) 32 54 (.slice none 0 0) 24 (by kernel_rfl) Tryz.infoGRow rfl .i64 .i64 to.length (by omega) (by omega)
  clear hv hx hr
  go_enter Tryz.func90,Tryz.ntmps90
  go_wp2_with (go_at_call 35;refine(aG _ to _ HV.out HX.out).mono ?_;rintro e w' ⟨rfl,hB⟩;have HB:=zH hB;clear hB;rw[HR.out])
  clear hmk
  obtain⟨W1,eW1⟩:∃W1:World,W1=w':=⟨_,rfl⟩
  rw[<-eW1]
  rw[<-eW1] at HB
  clear eW1
  have H0:=zH (ownG_new W1 to.length)
  have HV1:=zH (HV.out.on HB.out HB.out.size)
  have hvb1:va<W1.heap.size:=Nat.lt_of_lt_of_le hvb HB.out.size
  go_loopw [16] (fun k wr=>∃i:Nat,i<=to.length/\k=.int .i64 (i:Int)/\OwnG W1 to.length (fun j=>GG.bZ to j i) wr) (fun k _=>to.length-(intOf k).toNat)
  case atStart=>exact⟨0,Nat.zero_le _,rfl,H0.out.congr fun j _=>(qz to j).symm⟩
  case round =>
   obtain⟨i,hi,rfl,hO⟩:=hrel
   clear H0
   have HO:=zH hO
   clear hO
   by_cases hlt:i<to.length
   ·have HBo:=zH (show Below W1.heap.size W1 wr from HO.out.choose_spec.below)
    obtain⟨ra,rac,hx1,hrx⟩:=(HV1.out.below HBo.out).at hlt
    have i1:(0:Int)<=i/\(i:Int)<to.length:=by omega
    have b1:(to[i]?.getD []).length<=17592186044416:=by have:=GG.fF (GG.bF HR.out hlt);omega
    have HRO:=zH (GG.bF HR.out hlt)
    have HALL:=zH (fun q (hq:(to[i]?.getD []).length<=q) j=>backP_all (to:=to) hq j)
    obtain⟨r,er⟩:∃r,r=to[i]?.getD []:=⟨_,rfl⟩
    rw[<-er] at hx1 hrx b1 HRO HALL
    have HRX:=zH hrx
    clear er hrx
    go_wp2_with fail
    obtain⟨wo,ewo⟩:∃wo:World,wo=wr:=⟨_,rfl⟩
    rw[<-ewo]
    rw[<-ewo] at HO HBo HRX hx1
    clear ewo hx1
    go_loopw [23] (fun k wr=>∃q:Nat,q<=r.length/\k=.int .i64 (q:Int)/\OwnG W1 to.length (gr to r i q) wr) (fun k _=>r.length-(intOf k).toNat)
    case atStart=>exact⟨0,Nat.zero_le _,rfl,HO.out.congr fun j _=>qA to r i j⟩
    case round =>
     obtain⟨q,hq,rfl,hO2⟩:=hrel
     clear HO
     by_cases hqt:q<r.length
     ·obtain⟨vs,hT⟩:=hO2
      have HT:=zH hT
      clear hT
      obtain⟨xb2,xo2,rfl,hx2⟩:=(HRX.out.of_both HBo.out HT.out.below).cellAt hqt
      have i3:(0:Int)<=q/\(q:Int)<r.length:=by omega
      have HX2:=zH (GG.dF HRO.out _ (GG.bB (d:=0) hqt))
      have HST:=zH (fun y hy=>qB (to:=to) (i:=i) (y:=y) hqt hy (GG.fj HRO.out))
      obtain⟨x,ex⟩:∃x,x=r[q]?.getD 0:=⟨_,rfl⟩
      rw[<-ex] at hx2 HX2 HST
      clear ex
      obtain⟨y,rfl⟩:∃y:Nat,x=(y:Int):=⟨x.toNat,by have:=HX2.out;omega⟩
      have hyn:y<to.length:=by have:=HX2.out;omega
      have i4:(0:Int)<=(y:Int)/\(y:Int)<to.length:=by omega
      have hcj:=World.rowIs.cell HT.out.tab hyn
      have HLN:=zH (backP_len to r i q y)
      obtain⟨sa,sc,hsv⟩:=GG.ap (HT.out.own y hyn)
      have HSV:=zH hsv
      clear hsv
      go_wp2_with (first
       | (at_builtin
          refine wpList_append_lies _ rfl _ _ 54 rfl (W1.heap.size+1) 3 i0 (.int .i64 0) 1 8 Tryz.underlying54 hi0 hz0 hz1 hz2 rfl (by decide) (vs y) _ _ rfl ((HT.out.own y hyn).alloc _) ⟨wr.heap.size,0,none⟩ 1 1 [.int .i64 (i:Int)] rfl rfl (GG.aW _ _ _) (by intro u hu;rw[List.mem_singleton.1 hu];rfl) (by decide) (by have:=HLN.out;unfold maxLen;omega) (by have:=HLN.out;omega) (by have:=HT.out.size;simp;omega) (wr.heap.size+1) (by simp) ?_
          intro g cap w1 ho hg hat _
          have HA:=zH (HT.out.app hyn ho hg hat)
          have hcw:=HA.out.2.1
          have hfw:=HA.out.2.2
          clear ho hg hat))
      go_roundw
      case rel=>exact⟨q+1,by omega,by go_num,HA.out.1.congr fun j _=>HST.out y rfl j⟩
      case measure=>simp [intOf];omega
     ·have HN:=zH (show OwnG W1 to.length (fun j=>GG.bZ to j (i+1)) wr from hO2.congr fun j _=>HALL.out q (by omega) j)
      clear hO2
      go_wp2_with fail
      go_roundw
      case rel=>exact⟨i+1,by omega,by go_num,HN.out⟩
      case measure=>simp [intOf];omega
   ·have HG:=zH (show az wr.heap.size wr (.slice (some ⟨W1.heap.size,0,none⟩) to.length to.length) (GG.bz to) from(HO.out.congr (rows':=fun j=>GG.bZ to j to.length) fun j hj=>by rw[show i=to.length by omega]).graph)
    have HB2:=zH (bstep HB.out (show Below W1.heap.size W1 wr from HO.out.choose_spec.below))
    clear HO
    go_wp2_with fail
    go_ret
    exact⟨_,rfl,by rw[HE.out];exact HG.out,HB2.out⟩
set_option maxRecDepth 100000 in
set_option maxHeartbeats 1600000 in
theorem exits_any{v:Value}{to:List (List Int)}(W:World)(hv:az W.heap.size W v to)(hx:cd to)(hl:to.length<=256) :
 Calls Tryz.prog 182 #[v] W fun e W'=>nu W.heap.size ((GG.bf to to.length).map Int.ofNat) e W W':=by
 have hx0:=hx.1
 have HV:=zH hv
 have HX:=zH hx
 obtain⟨va,vc,rfl⟩:=hv.form
 obtain⟨i0,hi0,hz0,hz1,hz2⟩:=info_parts Tryz.infoGInt
 clear hv hx
 go_enter Tryz.func182,Tryz.ntmps182
 go_wp2_with fail
 go_loopw [3,8] (fun o k wr=>∃i:Nat,i<=to.length/\k=.int .i64 (i:Int)/\wr.ownsRow W.heap.size 3 1 o (GG.bf to i).length (ao ((GG.bf to i).map Int.ofNat))/\Below W.heap.size W wr) (fun _ k _=>to.length-(intOf k).toNat)
 case atStart=>exact⟨0,Nat.zero_le _,rfl,World.ownsRow_nil _ _ _ _,Below.refl _ _⟩
 case round =>
  obtain⟨i,hi,rfl,hO,hB⟩:=hrel
  have HO:=zH hO
  have HB:=zH hB
  clear hO hB
  by_cases hlt:i<to.length
  ·obtain⟨xb,xo,xc,e1⟩:=HV.out.addr (by omega)
   cases e1
   obtain⟨ra,rac,hx1,hrx⟩:=(HV.out.below HB.out).at hlt
   have i1:(0:Int)<=i/\(i:Int)<to.length:=by omega
   have b1:=HX.out.row i
   have HLN:=zH (show (GG.bf to i).length<=i by unfold GG.bf;have:=List.length_filter_le (GG.kA to) (List.range i);simpa using this)
   cases hb:GG.kA to i
   ·have HS:=zH (show GG.bf to (i+1)=GG.bf to i by unfold GG.bf;rw[List.range_succ,List.filter_append];simp [hb])
    have hne:((((to[i]?.getD []).length:Nat):Int) == 0)=false:=by
     rw[beq_eq_false_iff_ne]
     intro e
     unfold GG.kA at hb
     rw[List.isEmpty_eq_false_iff] at hb
     exact hb (List.length_eq_zero_iff.1 (by omega))
    generalize to[i]?.getD []=r at hx1 b1 hne
    clear hrx hb
    go_wp2_with fail
    go_roundw
    case rel=>exact⟨i+1,by omega,by go_num,by rw[HS.out];exact HO.out,HB.out⟩
    case measure=>simp [intOf];omega
   ·have HS:=zH (show GG.bf to (i+1)=GG.bf to i ++ [i] by unfold GG.bf;rw[List.range_succ,List.filter_append];simp [hb])
    have hne:((((to[i]?.getD []).length:Nat):Int) == 0)=true:=by
     rw[beq_iff_eq]
     unfold GG.kA at hb
     rw[List.isEmpty_iff] at hb
     rw[hb];rfl
    generalize to[i]?.getD []=r at hx1 b1 hne
    clear hrx hb
    go_wp2_with (first
     | (at_builtin
        refine GG.wpList_append_any rfl _ _ 54 rfl W.heap.size 3 i0 (.int .i64 0) 1 8 Tryz.underlying54 hi0 hz0 hz1 hz2 rfl (by decide) u3 _ _ rfl (HO.out.alloc _) (.slice (some ⟨wr.heap.size,0,none⟩) 1 1) 1 [.int .i64 (i:Int)] rfl rfl (.inr ⟨_,_,rfl,GG.aW _ _ _⟩) (by intro u hu;rw[List.mem_singleton.1 hu];rfl) (by have:=HLN.out;unfold maxLen;omega) (by have:=HLN.out;omega) (by have:=HB.out.size;simp;omega) ?_
        intro v1 w1 ho hg
        have HA:=zH (show w1.ownsRow W.heap.size 3 1 v1 (GG.bf to (i+1)).length (ao ((GG.bf to (i+1)).map Int.ofNat)) by
         rw[HS.out]
         have e1:(GG.bf to i ++ [i]).length=(GG.bf to i).length+1:=by simp
         have e2:ao ((GG.bf to i ++ [i]).map Int.ofNat)=ao ((GG.bf to i).map Int.ofNat) ++ [.int .i64 (i:Int)]:=by simp [ao]
         rw[e1,e2];exact ho)
        have HB1:=zH ((HB.out.alloc HB.out.size _).grown hg (by have:=HB.out.size;simp;omega) (fun k e=>(HO.out.lt k e).1))
        clear ho hg))
    go_roundw
    case rel=>exact⟨i+1,by omega,by go_num,HA.out,HB1.out⟩
    case measure=>simp [intOf];omega
  ·have HE:=zH (show Row wr.heap.size wr u3 ((GG.bf to to.length).map Int.ofNat) by
    have h:=HO.out
    rw[show i=to.length by omega] at h
    exact aM h)
   clear HO
   go_wp2_with fail
   go_ret
   exact⟨_,rfl,HE.out,HB.out⟩
end
section
open Go.RowKit
theorem exits_lt{to:List (List Int)}:∀x∈(GG.bf to to.length).map Int.ofNat,0<=x/\x<to.length:=by
 intro x hx
 obtain⟨j,hj,rfl⟩:=List.mem_map.1 hx
 unfold GG.bf at hj
 have:=List.mem_range.1 (List.mem_filter.1 hj).1
 exact⟨Int.natCast_nonneg _,by show (j:Int)<_;omega⟩
theorem exits_len(to:List (List Int)):((GG.bf to to.length).map Int.ofNat).length<=to.length:=by
 unfold GG.bf
 rw[List.length_map]
 have:=List.length_filter_le (GG.kA to) (List.range to.length)
 simpa using this
theorem nat_back(l:List Nat):(l.map Int.ofNat).map Int.toNat=l:=by
 rw[List.map_map]
 conv=>rhs;rw[<-List.map_id l]
 exact List.map_congr_left fun x _=>by simp
theorem qC{v:Value}{to:List (List Int)}(u:Value)(W:World)(hr:GG.am to=true)(hv:az W.heap.size W v (GG.bz to))(hu:Row W.heap.size W u ((GG.bf to to.length).map Int.ofNat)) :
 Calls Tryz.prog 117 #[v,u] W fun e W'=>WalkP W.heap.size (GG.runG (GG.an (GG.bz to)) (GG.bf to to.length)) e W W':=by
 have hl:=GG.aB hr
 have h:=iY u _ W (GG.fG hr) hv hu (by have:=exits_len to;omega) (by rw[GG.bG];exact exits_lt)
 rw[nat_back] at h
 exact h
theorem qD{to:List (List Int)}(hr:GG.am to=true):iC to=GG.cz to.length (fun x=>!(GG.runG (GG.an (GG.bz to)) (GG.bf to to.length)).1 x):=by
 unfold iC
 rw[if_pos hr]
 exact GG.iW fun x hx=>by rw[GG.ends_back hr hx]
set_option maxRecDepth 100000 in
set_option maxHeartbeats 3200000 in
theorem me{v:Value}{to:List (List Int)}(W:World)(hv:az W.heap.size W v to)(hx:cd to) :
 Calls Tryz.prog 139 #[v] W fun e W'=>e=fH (iC to)/\Below W.heap.size W W':=by
 have hx0:=hx.1
 have HV:=zH hv
 have HX:=zH hx
 obtain⟨va,vc,rfl⟩:=hv.form
 clear hv hx
 cases hr:GG.am to
 ·have HR:=zH hr
  have HE:=zH (show iC to = -1 by unfold iC;rw[if_neg (by rw[hr];simp)])
  clear hr
  go_enter Tryz.func139,Tryz.ntmps139
  go_wp2_with (go_at_call 35;refine(aG _ to _ HV.out HX.out).mono ?_;rintro e w' ⟨rfl,hB⟩;have HB:=zH hB;clear hB;rw[HR.out])
  go_ret2
  exact⟨by rw[HE.out];exact cE.symm,HB.out⟩
 ·have HR:=zH hr
  have hlen:=GG.aB hr
  have HBE:=zH (show fl to=GG.bz to by unfold fl;rw[if_pos hr])
  have HE:=zH (qD hr)
  have hz:=fun(w:World)=>dj w
  have HWK:=zH (fun v u W1 h1 h2=>qC (v:=v) (to:=to) u W1 hr h1 h2)
  clear hr
  generalize GG.runG (GG.an (GG.bz to)) (GG.bf to to.length)=s at HWK HE
  go_enter Tryz.func139,Tryz.ntmps139
  go_wp2_with (first
   | (go_at_call 35;refine(aG _ to _ HV.out HX.out).mono ?_;rintro e w' ⟨rfl,hB⟩;have HB:=zH hB;clear hB;rw[HR.out])
   | (go_at_call 90
      refine(gt _ (HV.out.on HB.out HB.out.size) HX.out).mono ?_
      rintro e w2 ⟨bv,rfl,hg2,hB2⟩
      rw[HBE.out] at hg2
      have HG2:=zH hg2
      have HB2:=zH (bstep HB.out hB2)
      clear hg2 hB2)
   | (go_at_call 182
      refine(exits_any _ (HV.out.on HB2.out HB2.out.size) HX.out hlen.2).mono ?_
      rintro e w3 ⟨xv,rfl,hx3,hB3⟩
      have HX3:=zH hx3
      have HG3:=zH (HG2.out.on hB3 hB3.size)
      have HB3:=zH (bstep HB2.out hB3)
      clear hx3 hB3)
   | (go_at_call 117
      refine(HWK.out _ _ _ HG3.out HX3.out).mono ?_
      rintro e w' ⟨cs,bv,rfl,hn,hc,ho,hs,hB4⟩
      have HCN:=zH hn
      have HCI:=zH hc
      have HB4:=zH (bstep HB3.out hB4)
      have HONE:=zH (nr hn hc)
      clear hn hc ho hs hB4)
   | (refine wpList_store_row rfl 130 (.tmp 4) (.tmp 15) rfl _ cs rfl rfl 130 falses (heap_alloc_new _ _) (by rw[HCN.out];kernel_rfl) (by rw[HCN.out];simp [falses]) HONE.out ?_
      rw[cn])
   | (refine wpList_load_row rfl 130 (.tmp 4) rfl _ rfl 130 cs (0,0) _ (heap_alloc_new _ _) Tryz.underlying130 rfl (by rw[HCN.out];kernel_rfl) ?_)
   | (go_at_call 181
      refine(mc cs s.1 to.length _ HCN.out HCI.out hlen.2).mono ?_
      rintro e w5 ⟨rfl,hB5⟩
      have HB5:=zH (bstep (HB4.out.alloc HB4.out.size _) hB5)
      clear hB5
      unfold fH))
  go_ret2
  exact⟨by rw[HE.out];rfl,HB5.out⟩
end
section
open Go.RowKit
theorem kD{B:Nat}{W w:World}(h:Below B W w)(d:Nat):Below B W (w.drewN d):=h.trans ⟨rfl,rfl,rfl,Nat.le_refl _,fun _ _=>rfl⟩
theorem Row.on{n:Nat}{W W':World}{v:Value}{xs:List Int}(h:Row n W v xs)(hb:Below n W W')(hn:n<=W'.heap.size):Row W'.heap.size W' v xs:=(h.below hb).mono hn
end
section
open Go.ChangeShapes Go.WideShapes Go.RowKit Go.Deep
theorem da{H:Type}{P:Program}{e:TypeId}{d:DataW H}{n:Nat}:∀ {l:List (DataW H)},d∈l->n∈d.weights P e->n∈DataW.weightsAll P e l
 | x :: l,hd,hn=>by
   simp only[DataW.weightsAll,List.mem_append]
   rcases List.mem_cons.1 hd with rfl | hd
   ·exact .inl hn
   ·exact .inr (da hd hn)
theorem kE{W:World}{y:Addr}{v:Value}(h:W.cell? y=some v):∃b off,y=⟨b,off,none⟩/\b<W.heap.size:=by
 obtain⟨b,off,spot⟩:=y
 have hspot:spot=none:=by simpa using World.cell?_spot h
 subst hspot
 refine⟨b,off,rfl,?_⟩
 apply Classical.byContradiction;intro hn
 simp [World.cell?,Array.getElem?_eq_none (Nat.le_of_not_lt hn)] at h
end
section
open Go.RowKit
structure OpV where
 (k o d r a:Int) (xa:Option Addr) (xl xc:Nat) (ya:Option Addr) (yl yc:Nat) (n t:Int)
def aF(v:OpV):List Value:=[.int .u8 v.k,.int .u8 v.o,.int .i64 v.d,.int .i64 v.r,.int .i64 v.a,.slice v.xa v.xl v.xc,.slice v.ya v.yl v.yc,.int .i64 v.n,.int .i64 v.t]
def Ops(n₀:Nat)(W:World)(v:Value)(b:List OpV):Prop :=
 ((∃a cap,v=.slice a 0 cap)/\b=[])∨∃blk off cap,v=.slice (some ⟨blk,off,none⟩) b.length cap/\blk<n₀/\∀j x,b[j]?=some x->∀c u,(aF x)[c]?=some u->W.cell? ⟨blk,off+j*9+c,none⟩=some u
theorem Ops.below{n₀:Nat}{A B:World}(h:Below n₀ A B){v:Value}{b:List OpV}:Ops n₀ A v b->Ops n₀ B v b
 | .inl e=>.inl e
 | .inr ⟨blk,off,cap,e,hb,hc⟩=>.inr ⟨blk,off,cap,e,hb,fun j x hj c u hu=>(h.cell (p:=⟨blk,off+j*9+c,none⟩) hb).trans (hc j x hj c u hu)⟩
theorem Ops.mono{n n':Nat}(h:n<=n'){A:World}{v:Value}{b:List OpV}:Ops n A v b->Ops n' A v b
 | .inl e=>.inl e
 | .inr ⟨blk,off,cap,e,hb,hc⟩=>.inr ⟨blk,off,cap,e,by omega,hc⟩
theorem Ops.form{n₀:Nat}{A:World}{v:Value}{b:List OpV}(h:Ops n₀ A v b):∃a cap,v=.slice a b.length cap:=by
 rcases h with⟨⟨_,_,rfl⟩,rfl⟩ | ⟨blk,off,cap,rfl,_⟩
 ·exact⟨_,_,rfl⟩
 ·exact⟨_,_,rfl⟩
theorem Ops.last{n₀:Nat}{W:World}{v:Value}{b:List OpV}{p:Nat}(h:Ops n₀ W v b)(hp:b.length=p+1) :
 ∃blk off cap x,v=.slice (some ⟨blk,off,none⟩) (p+1) cap/\blk<n₀/\b.getLast?=some x/\∀c u,(aF x)[c]?=some u->W.cell? ⟨blk,off+p*9+c,none⟩=some u:=by
 rcases h with⟨_,rfl⟩ | ⟨blk,off,cap,rfl,hb,hc⟩
 ·simp at hp
 ·have hx:b[p]?=some b[p]:=List.getElem?_eq_getElem (by omega)
  have hll:b.getLast?=some b[p]:=by
   rw[List.getLast?_eq_getElem?,show b.length-1=p by omega]
   exact hx
  exact⟨blk,off,cap,b[p],by rw[hp],hb,hll,hc p _ hx⟩
def bS(n₀:Nat)(W:World)(v:Value)(bs:List (List OpV)):Prop :=
 ∃vs,bM n₀ W v vs/\vs.length=bs.length/\∀j,j<bs.length->∃r,vs[j]?=some r/\Ops n₀ W r (bs[j]?.getD [])
theorem bS.below{n₀:Nat}{A B:World}(h:Below n₀ A B){v:Value}{bs:List (List OpV)}:bS n₀ A v bs->bS n₀ B v bs
 | ⟨vs,h1,h2,h3⟩=>⟨vs,h1.below h,h2,fun j hj=>by obtain⟨r,e,g⟩:=h3 j hj;exact⟨r,e,g.below h⟩⟩
theorem bS.mono{n n':Nat}(h:n<=n'){A:World}{v:Value}{bs:List (List OpV)}:bS n A v bs->bS n' A v bs
 | ⟨vs,h1,h2,h3⟩=>⟨vs,h1.mono h,h2,fun j hj=>by obtain⟨r,e,g⟩:=h3 j hj;exact⟨r,e,g.mono h⟩⟩
theorem bS.on{n:Nat}{W W':World}{v:Value}{bs:List (List OpV)}(h:bS n W v bs)(hb:Below n W W')(hn:n<=W'.heap.size):bS W'.heap.size W' v bs:=(h.below hb).mono hn
theorem bS.form{n₀:Nat}{A:World}{v:Value}{bs:List (List OpV)}(h:bS n₀ A v bs):∃a cap,v=.slice a bs.length cap:=by
 obtain⟨vs,h1,h2,_⟩:=h
 obtain⟨a,cap,rfl⟩:=h1.form
 exact⟨a,cap,by rw[h2]⟩
theorem bS.at{n₀:Nat}{W:World}{a:Option Addr}{n cap:Nat}{bs:List (List OpV)}(h:bS n₀ W (.slice a n cap) bs){j:Nat}(hj:j<bs.length) :
 ∃b off a' cap',a=some ⟨b,off,none⟩/\b<n₀/\W.cell? ⟨b,off+j,none⟩=some (.slice a' (bs[j]?.getD []).length cap')/\Ops n₀ W (.slice a' (bs[j]?.getD []).length cap') (bs[j]?.getD []):=by
 obtain⟨vs,h1,h2,h3⟩:=h
 obtain⟨b',off',cap',e,hb,hc⟩:=h1.at (by omega)
 cases e
 obtain⟨r,e,g⟩:=h3 j hj
 obtain⟨a',c',rfl⟩:=g.form
 exact⟨b',off',a',c',rfl,hb,hc j _ e,g⟩
def bw(b:List OpV):Option (List Int) :=
 match b.getLast? with
 | none=>none
 | some x=>if x.k=13 then some [] else if x.k=11 then some [x.r] else if x.k=12 then (if x.r=x.a then some [x.r] else some [x.r,x.a]) else none
theorem jU{b:List OpV}{x:OpV}(h:b.getLast?=some x):bw b=if x.k=13 then some [] else if x.k=11 then some [x.r] else if x.k=12 then (if x.r=x.a then some [x.r] else some [x.r,x.a]) else none:=by
 unfold bw;rw[h]
def db(bs:List (List OpV))(i:Nat):List (List Int):=(bs.take i).map fun b=>(bw b).getD []
def okI(bs:List (List OpV)):Bool:=bs.all fun b=>(bw b).isSome
def ofB(bs:List (List OpV)):Bool:=okI bs && GG.am (db bs bs.length)
def ofL(bs:List (List OpV)):List (List Int):=if ofB bs=true then db bs bs.length else []
theorem qE{bs:List (List OpV)}{i:Nat}(hi:i<bs.length):db bs i ++ [(bw (bs[i]?.getD [])).getD []]=db bs (i+1):=by
 unfold db
 rw[List.take_succ_eq_append_getElem hi,List.map_append,List.getElem?_eq_getElem hi]
 rfl
theorem mg{bs:List (List OpV)}{i:Nat}(hi:i<=bs.length):(db bs i).length=i:=by unfold db;rw[List.length_map,List.length_take];omega
theorem oN(b:List OpV):((bw b).getD []).length<=2:=by
 unfold bw
 split
 ·simp
 ·split
  ·simp
  ·split
   ·simp
   ·split
    ·split <;> simp
    ·simp
theorem oO{bs:List (List OpV)}{i:Nat}(hi:i<=bs.length)(h:bs.length<=17592186044416):cd (db bs i):=by
 refine⟨by rw[mg hi];omega,fun row hr=>?_⟩
 unfold db at hr
 obtain⟨b,_,rfl⟩:=List.mem_map.1 hr
 have:=oN b
 omega
theorem okI_no{bs:List (List OpV)}{i:Nat}(hi:i<bs.length)(h:bw (bs[i]?.getD [])=none):okI bs=false:=by
 unfold okI
 cases hb:bs.all (fun b=>(bw b).isSome)
 ·rfl
 ·rw[List.all_eq_true] at hb
  have:=hb _ (GG.bB (d:=[]) hi)
  rw[h] at this;cases this
theorem okI_yes{bs:List (List OpV)}(h:∀i,i<bs.length->(bw (bs[i]?.getD [])).isSome=true):okI bs=true:=by
 unfold okI
 rw[List.all_eq_true]
 intro b hb
 obtain⟨i,hi,rfl⟩:=List.getElem_of_mem hb
 have:=h i hi
 rwa [List.getElem?_eq_getElem hi] at this
def zop:Array Value:=(aF ⟨0,0,0,0,0,none,0,0,none,0,0,0,0⟩).toArray
theorem info57:(Tryz.prog.info? 56).map (fun i=>(i.zero,i.size))=some (some (.agg zop),9):=by kernel_rfl
theorem qF(w:World):(zeroValue 56).run Tryz.prog w=.ok (.agg zop) w:=by
 have h:=info57
 cases hi:Tryz.prog.info? 56 with
 | none=>rw[hi] at h;cases h
 | some i =>
   rw[hi] at h
   simp only[Option.map_some,Option.some.injEq,Prod.mk.injEq] at h
   simp [zeroValue,typeInfo,hi,h.1]
theorem qG(w:World)(blk off:Nat)(v:OpV)(hc:∀c u,(aF v)[c]?=some u->w.cell? ⟨blk,off+c,none⟩=some u) :
 (loadVar 56 ⟨blk,off,none⟩).run Tryz.prog w=.ok (.agg (aF v).toArray) w:=by
 have hl:(loadCells ⟨blk,off,none⟩ 9).run Tryz.prog w=.ok (aF v).toArray w :=
  run_loadCells_list (P:=Tryz.prog) w ⟨blk,off,none⟩ (aF v) (fun j u hu=>by rw[Addr.add_lit];exact hc j u hu)
 have hagg:(isAgg 56).run Tryz.prog w=.ok true w:=by kernel_rfl
 have hs:(sizeOf 56).run Tryz.prog w=.ok 9 w:=by kernel_rfl
 simp [loadVar,Sem.run_bind,hagg,hs,hl]
theorem cM{ops:Array Oper}{rest:List Oper}{o:Oper}{a:Act}{w:World}{Q:Exit->Act->World->Prop}(hgd:o.guard=none)(x:Operand)(ho:o.op=.load 56 x)
 (blk off:Nat) (hx:a.eval x=.pointer (some ⟨blk,off,none⟩)) (v:OpV) (hc:∀c u,(aF v)[c]?=some u->w.cell? ⟨blk,off+c,none⟩=some u)
 (h:wpList Tryz.prog ops Q rest (a.put o.dst (.agg (aF v).toArray)) w):wpList Tryz.prog ops Q (o :: rest) a w:=by
 refine wpList_plain hgd fun K hK=>?_
 unfold Oper.wp execOp
 simp only[ho,hx,Instr.loadAt,Instr.sureAddr,Sem.run_bind,Sem.run_pure,Result.andThen_ok,qG w blk off v hc]
 exact hK _ _ h
theorem kF(v:OpV):(aF v).toArray.all (·.oneCell')=true:=by
 simp [aF,Value.oneCell']
theorem nw(w:World)(v:OpV)(c:Nat){u:Value}(h:(aF v)[c]?=some u):(w.alloc (.cells (aF v).toArray 56)).cell? ⟨w.heap.size,c,none⟩=some u:=by
 simp only[World.cell?,heap_alloc_new]
 simpa using h
def LeadsP(b:List OpV)(e:Ending)(W W':World):Prop :=
 ∃a cap,e=.returned (.tuple #[.slice a ((bw b).getD []).length cap,.bool (bw b).isSome])/\W'.ownsRow W.heap.size 3 1 (.slice a ((bw b).getD []).length cap) ((bw b).getD []).length (ao ((bw b).getD []))/\Below W.heap.size W W'
theorem dU{b:List OpV}{l:List Int}{s:Bool}{W W':World}{a:Option Addr}{cap:Nat}(h:bw b=if s then some l else none)(hl:s=false->l=[])(ho:W'.ownsRow W.heap.size 3 1 (.slice a l.length cap) l.length (ao l))(hB:Below W.heap.size W W') :
 LeadsP b (.returned (.tuple #[.slice a l.length cap,.bool s])) W W':=by
 cases s
 ·have:=hl rfl
  subst this
  exact⟨a,cap,by rw[h];rfl,by rw[h];exact ho,hB⟩
 ·exact⟨a,cap,by rw[h];rfl,by rw[h];exact ho,hB⟩
theorem nz(W:World)(xs:List Int)(B:Nat)(h:B<=W.heap.size)(hm:xs.length<=maxLen):(W.alloc (.cells (ao xs).toArray 3)).ownsRow B 3 1 (.slice (some ⟨W.heap.size,0,none⟩) xs.length xs.length) xs.length (ao xs):=by
 have:=World.ownsRow_lit (base:=B) (e:=3) (size:=1) W (ao xs).toArray xs.length h hm (by simp [ao])
 simpa using this
set_option maxRecDepth 100000 in
set_option maxHeartbeats 3200000 in
theorem kG{v:Value}{b:List OpV}(W:World)(hv:Ops W.heap.size W v b)(hl:b.length<=17592186044416) :
 Calls Tryz.prog 137 #[v] W fun e W'=>LeadsP b e W W':=by
 have hz:=fun(w:World)=>qF w
 by_cases h0:b.length=0
 ·obtain rfl:b=[]:=List.length_eq_zero_iff.1 h0
  obtain⟨va,vc,rfl⟩:=hv.form
  clear hv h0 hl
  go_enter Tryz.func137,Tryz.ntmps137
  go_wp2_with fail
  go_ret2
  exact dU (l:=[]) (s:=false) rfl (fun _=>rfl) (World.ownsRow_nil _ _ _ _) (Below.refl _ _)
 ·obtain⟨p,hp⟩:∃p,b.length=p+1:=⟨b.length-1,by omega⟩
  obtain⟨blk,off,cap,x,rfl,hb,hlast,hc⟩:=hv.last hp
  have HL:=zH (jU hlast)
  have HC:=zH hc
  have h1:=nw W x 0 rfl
  have h2:=nw W x 3 rfl
  have h3:=nw W x 4 rfl
  have hpb:p<=17592186044416:=by omega
  clear hv hc hlast hl h0 hp
  have hsz:(W.alloc (.cells (aF x).toArray 56)).heap.size=W.heap.size+1:=by simp
  by_cases k13:x.k=13
  ·have t1:(x.k == 13)=true:=beq_iff_eq.2 k13
   have HE:=zH (show bw b=if true then some [] else none by rw[HL.out,if_pos k13];rfl)
   clear k13 hsz
   go_enter Tryz.func137,Tryz.ntmps137
   go_wp2_with (first
    | (refine cM rfl (.tmp 12) rfl blk (off+p*9) rfl x (fun c u hu=>HC.out c u hu) ?_)
    | (refine wpList_store_row rfl 56 (.tmp 4) (.tmp 13) rfl _ (aF x).toArray rfl rfl 56 zop (heap_alloc_new _ _) (by kernel_rfl) rfl (kF x) ?_
       rw[cn]))
   go_ret2
   exact dU (l:=[]) (s:=true) HE.out (fun h=>by cases h) (World.ownsRow_nil _ _ _ _) ((Below.refl _ _).alloc (Nat.le_refl _) _)
  ·have t1:(x.k == 13)=false:=beq_eq_false_iff_ne.2 k13
   by_cases k11:x.k=11
   ·have t2:(x.k == 11)=true:=beq_iff_eq.2 k11
    have HE:=zH (show bw b=if true then some [x.r] else none by rw[HL.out,if_neg k13,if_pos k11];rfl)
    have HO:=zH (nz (W.alloc (.cells (aF x).toArray 56)) [x.r] W.heap.size (by simp) (by unfold maxLen;simp))
    rw[hsz] at HO
    clear k13 k11 hsz
    go_enter Tryz.func137,Tryz.ntmps137
    go_wp2_with (first
     | (refine cM rfl (.tmp 12) rfl blk (off+p*9) rfl x (fun c u hu=>HC.out c u hu) ?_)
     | (refine wpList_store_row rfl 56 (.tmp 4) (.tmp 13) rfl _ (aF x).toArray rfl rfl 56 zop (heap_alloc_new _ _) (by kernel_rfl) rfl (kF x) ?_
        rw[cn]))
    go_ret2
    exact dU (l:=[x.r]) (s:=true) HE.out (fun h=>by cases h) HO.out (((Below.refl _ _).alloc (Nat.le_refl _) _).alloc (by simp) _)
   ·have t2:(x.k == 11)=false:=beq_eq_false_iff_ne.2 k11
    by_cases k12:x.k=12
    ·have t3:(x.k == 12)=true:=beq_iff_eq.2 k12
     by_cases hra:x.r=x.a
     ·have t4:(x.r == x.a)=true:=beq_iff_eq.2 hra
      have HE:=zH (show bw b=if true then some [x.r] else none by rw[HL.out,if_neg k13,if_neg k11,if_pos k12,if_pos hra];rfl)
      have HO:=zH (nz (W.alloc (.cells (aF x).toArray 56)) [x.r] W.heap.size (by simp) (by unfold maxLen;simp))
      rw[hsz] at HO
      clear k13 k11 k12 hsz hra
      go_enter Tryz.func137,Tryz.ntmps137
      go_wp2_with (first
       | (refine cM rfl (.tmp 12) rfl blk (off+p*9) rfl x (fun c u hu=>HC.out c u hu) ?_)
       | (refine wpList_store_row rfl 56 (.tmp 4) (.tmp 13) rfl _ (aF x).toArray rfl rfl 56 zop (heap_alloc_new _ _) (by kernel_rfl) rfl (kF x) ?_
          rw[cn]))
      go_ret2
      exact dU (l:=[x.r]) (s:=true) HE.out (fun h=>by cases h) HO.out (((Below.refl _ _).alloc (Nat.le_refl _) _).alloc (by simp) _)
     ·have t4:(x.r == x.a)=false:=beq_eq_false_iff_ne.2 hra
      have HE:=zH (show bw b=if true then some [x.r,x.a] else none by rw[HL.out,if_neg k13,if_neg k11,if_pos k12,if_neg hra];rfl)
      have HO:=zH (nz (W.alloc (.cells (aF x).toArray 56)) [x.r,x.a] W.heap.size (by simp) (by unfold maxLen;simp))
      rw[hsz] at HO
      clear k13 k11 k12 hsz hra
      go_enter Tryz.func137,Tryz.ntmps137
      go_wp2_with (first
       | (refine cM rfl (.tmp 12) rfl blk (off+p*9) rfl x (fun c u hu=>HC.out c u hu) ?_)
       | (refine wpList_store_row rfl 56 (.tmp 4) (.tmp 13) rfl _ (aF x).toArray rfl rfl 56 zop (heap_alloc_new _ _) (by kernel_rfl) rfl (kF x) ?_
          rw[cn]))
      go_ret2
      exact dU (l:=[x.r,x.a]) (s:=true) HE.out (fun h=>by cases h) HO.out (((Below.refl _ _).alloc (Nat.le_refl _) _).alloc (by simp) _)
    ·have t3:(x.k == 12)=false:=beq_eq_false_iff_ne.2 k12
     have HE:=zH (show bw b=if false then some [] else none by rw[HL.out,if_neg k13,if_neg k11,if_neg k12];rfl)
     clear k13 k11 k12 hsz
     go_enter Tryz.func137,Tryz.ntmps137
     go_wp2_with (first
      | (refine cM rfl (.tmp 12) rfl blk (off+p*9) rfl x (fun c u hu=>HC.out c u hu) ?_)
      | (refine wpList_store_row rfl 56 (.tmp 4) (.tmp 13) rfl _ (aF x).toArray rfl rfl 56 zop (heap_alloc_new _ _) (by kernel_rfl) rfl (kF x) ?_
         rw[cn]))
     go_ret2
     exact dU (l:=[]) (s:=false) HE.out (fun _=>rfl) (World.ownsRow_nil _ _ _ _) ((Below.refl _ _).alloc (Nat.le_refl _) _)
def OfP(bs:List (List OpV))(e:Ending)(W W':World):Prop:=∃v,e=.returned (.tuple #[v,.bool (ofB bs)])/\az W'.heap.size W' v (ofL bs)/\Below W.heap.size W W'
theorem ofB_no{bs:List (List OpV)}(h:okI bs=false):ofB bs=false/\ofL bs=[]:=by
 have h1:ofB bs=false:=by unfold ofB;rw[h];rfl
 exact⟨h1,by unfold ofL;rw[if_neg (by rw[h1];simp)]⟩
theorem ofB_yes{bs:List (List OpV)}(h:okI bs=true):ofB bs=GG.am (db bs bs.length):=by unfold ofB;rw[h];rfl
theorem kH(n:Nat)(W:World):az n W (.slice none 0 0) []:=⟨[],aT _ _ _ _ (fun _=>rfl),rfl,fun j hj=>absurd hj (Nat.not_lt_zero _)⟩
theorem own_em0(v:Value):v.ownBlock=none∨v.ownBlock≠none:=Classical.em _
theorem oP{B:Nat}{W w1 w2:World}{out v2:Value}{vs:List Value}{to:List (List Int)}{row:List Int}{n:Nat}{a:Option Addr}{cap:Nat}{o:Obj}(hB1:Below B W w1)(hs1:B<=w1.heap.size)(hR:GG.Rows B w1 vs to)(hO:w1.ownsRow B 54 1 out n vs)(hr:w1.ownsRow B 3 1 (.slice a row.length cap) row.length (ao row))
 (ho:w2.ownsRow B 54 1 v2 (n+1) (vs ++ [.slice a row.length cap])) (hg:(w1.alloc o).grownBy w2 out.ownBlock) :
 w2.ownsRow B 54 1 v2 (n+1) (vs ++ [.slice a row.length cap])/\GG.Rows B w2 (vs ++ [.slice a row.length cap]) (to ++ [row])/\Below B W w2 :=
 ⟨ho,((hR.snoc hr).alloc o).kept (hO.alloc o) (by decide) hg,(hB1.alloc hs1 o).grown hg (by simp;omega) (fun k e=>(hO.lt k e).1)⟩
set_option maxRecDepth 100000 in
set_option maxHeartbeats 3200000 in
theorem of_any{v:Value}{bs:List (List OpV)}(x y:Int)(W:World)(hv:bS W.heap.size W v bs)(hl:bs.length<=4294967296)(hll:∀b∈bs,b.length<=17592186044416) :
 Calls Tryz.prog 87 #[.agg #[.int .i64 x,.int .i64 y,v]] W fun e W'=>OfP bs e W W':=by
 obtain⟨va,vc,rfl⟩:=hv.form
 obtain⟨j0,hj0,hy0,hy1,hy2⟩:=info_parts Tryz.infoGRow
 obtain⟨W0,eW0⟩:∃W0,W0=W.alloc (.cells #[.int .i64 x,.int .i64 y,.slice va bs.length vc] 52):=⟨_,rfl⟩
 have HB0:=zH (show Below W.heap.size W W0 by rw[eW0];exact(Below.refl _ _).alloc (Nat.le_refl _) _)
 have HV0:=zH (hv.on HB0.out HB0.out.size)
 have HLL:=zH (fun i (hi:i<bs.length)=>hll _ (GG.bB (d:=[]) hi))
 have EW0:=zH eW0
 clear hv hll eW0
 go_enter Tryz.func87,Tryz.ntmps87
 go_wp2_with fail
 rw[<-EW0.out]
 go_loopw [4,12] (fun o k wr=>∃(i:Nat) (vs:List Value),i<=bs.length/\k=.int .i64 (i:Int)/\wr.ownsRow W0.heap.size 54 1 o i vs/\GG.Rows W0.heap.size wr vs (db bs i)/\Below W0.heap.size W0 wr/\RowKit.Hid (∀j,j<i->(bw (bs[j]?.getD [])).isSome=true)) (fun _ k _=>bs.length-(intOf k).toNat)
 case atStart=>exact⟨0,[],Nat.zero_le _,rfl,World.ownsRow_nil _ _ _ _,GG.Rows.nil _ _,Below.refl _ _,zH (fun j hj=>absurd hj (Nat.not_lt_zero _))⟩
 case round =>
  obtain⟨i,vs,hi,rfl,hO,hR,hB,HOK⟩:=hrel
  have HO:=zH hO
  have HR:=zH hR
  have HB:=zH hB
  clear hO hR hB
  by_cases hlt:i<bs.length
  ·obtain⟨vb,vo,ba,bc,e1,hvb,hx1,hops⟩:=(HV0.out.below HB.out).at hlt
   subst e1
   have i1:(0:Int)<=i/\(i:Int)<bs.length:=by omega
   have b1:=HLL.out i hlt
   have HWS:=zH (qE hlt)
   have HNO:=zH (fun h=>okI_no hlt h)
   obtain⟨r,er⟩:∃r,r=bs[i]?.getD []:=⟨_,rfl⟩
   rw[<-er] at hx1 hops b1 HWS HNO
   have HER:=zH er
   have HOPS:=zH hops
   clear er hops
   cases hs:(bw r).isSome
   ·have HS:=zH hs
    have HN:=zH (ofB_no (HNO.out (by simpa using hs)))
    clear hs
    go_wp2_with (go_at_call 137
                 refine(kG _ (HOPS.out.mono HB.out.size) b1).mono ?_
                 rintro e w1 ⟨a,cap,rfl,ho,hb⟩
                 rw[HS.out]
                 have HB1:=zH (HB.out.trans (hb.mono HB.out.size))
                 clear ho hb)
    go_ret2
    exact⟨_,by rw[HN.out.1];rfl,by rw[HN.out.2];exact kH _ _,HB0.out.trans (HB1.out.mono HB0.out.size)⟩
   ·have HS:=zH hs
    have HN:=zH (show ∀j,j<i+1->(bw (bs[j]?.getD [])).isSome=true from fun j hj=>(Nat.lt_succ_iff_lt_or_eq.1 hj).elim (HOK.out j) (fun e=>by rw[e,<-HER.out];exact hs))
    clear hs
    go_wp2_with (first
     | (go_at_call 137
        refine(kG _ (HOPS.out.mono HB.out.size) b1).mono ?_
        rintro e w1 ⟨a,cap,rfl,ho,hb⟩
        rw[HS.out]
        have HB1:=zH (HB.out.trans (hb.mono HB.out.size))
        have HR1:=zH (GG.Rows.grown HR.out (b:=none) ⟨hb.os,hb.tape,hb.output,hb.size,fun k hk _=>hb.block k hk⟩ (fun k e=>by cases e))
        have HO1:=zH (HO.out.kept (row:=none) ⟨hb.os,hb.tape,hb.output,hb.size,fun k hk _=>hb.block k hk⟩ (own_em0 _))
        have HW1:=zH (iX HB.out.size ho)
        have HSZ:=zH (Nat.le_trans HB.out.size hb.size)
        clear ho hb)
     | (at_builtin
        go_loud (refine GG.wpList_append_any rfl _ _ 32 rfl W0.heap.size 54 j0 (.slice none 0 0) 1 24 Tryz.underlying32 hj0 hy0 hy1 hy2 rfl (by decide) u4 i vs rfl (HO1.out.alloc _) (.slice (some ⟨w1.heap.size,0,none⟩) 1 1) 1 [.slice a ((bw r).getD []).length cap] rfl rfl (.inr ⟨_,_,rfl,GG.aW _ _ _⟩) (by intro u hu;rw[List.mem_singleton.1 hu];rfl) (by unfold maxLen;omega) (by omega) (by have:=HSZ.out;simp;omega) ?_)
        intro v2 w2 ho hg
        have HHO:=zH ho
        have HHG:=zH hg
        clear ho hg))
    have HD:=zH (oP HB1.out HSZ.out HR1.out HO1.out HW1.out HHO.out HHG.out)
    go_roundw
    case rel=>exact⟨i+1,_,by omega,by go_num,HD.out.1,by rw[<-HWS.out];exact HD.out.2.1,HD.out.2.2,HN⟩
    case measure=>simp [intOf];omega
  ·have hie:i=bs.length:=by omega
   have HOKB:=zH (ofB_yes (okI_yes fun j hj=>HOK.out j (by omega)))
   have HG:=zH (show az wr.heap.size wr u4 (db bs bs.length) by
    have h1:=HR.out
    have h2:=HO.out
    rw[hie] at h1 h2
    have h3:(db bs bs.length).length=bs.length:=mg (Nat.le_refl _)
    exact h1.graph (by rw[h3];exact h2))
   have HSM:=zH (oO (Nat.le_refl bs.length) (by omega))
   clear HO HR
   cases hr:GG.am (db bs bs.length)
   ·have HRI:=zH hr
    have HF:=zH (show ofB bs=false/\ofL bs=[] from⟨by rw[HOKB.out,hr],by unfold ofL;rw[if_neg (by rw[HOKB.out,hr];simp)]⟩)
    clear hr hie
    go_wp2_with (go_at_call 35;refine(aG _ (db bs bs.length) _ HG.out HSM.out).mono ?_;rintro e w' ⟨rfl,hb⟩;have HB1:=zH (HB.out.trans (hb.mono HB.out.size));clear hb;rw[HRI.out])
    go_ret2
    exact⟨_,by rw[HF.out.1];rfl,by rw[HF.out.2];exact kH _ _,HB0.out.trans (HB1.out.mono HB0.out.size)⟩
   ·have HRI:=zH hr
    have HF:=zH (show ofB bs=true/\ofL bs=db bs bs.length from⟨by rw[HOKB.out,hr],by unfold ofL;rw[if_pos (by rw[HOKB.out,hr])]⟩)
    clear hr hie
    go_wp2_with (go_at_call 35;refine(aG _ (db bs bs.length) _ HG.out HSM.out).mono ?_;rintro e w' ⟨rfl,hb⟩;have HB1:=zH (HB.out.trans (hb.mono HB.out.size));have HG1:=zH (HG.out.on hb hb.size);clear hb;rw[HRI.out])
    go_ret2
    exact⟨_,by rw[HF.out.1];rfl,by rw[HF.out.2];exact HG1.out,HB0.out.trans (HB1.out.mono HB0.out.size)⟩
end
section
namespace CD
noncomputable def tf (P:Prop):Bool:=@decide P (Classical.propDecidable P)
theorem cA{P:Prop}(h:P):tf P=true:=by unfold tf;exact @decide_eq_true P (Classical.propDecidable P) h
theorem bg{P:Prop}(h:¬P):tf P=false:=by unfold tf;exact @decide_eq_false P (Classical.propDecidable P) h
theorem eP{P:Prop}(h:tf P=true):P:=by unfold tf at h;exact @of_decide_eq_true P (Classical.propDecidable P) h
theorem dk{P:Prop}(h:tf P=false):¬P:=fun p=>by rw[cA p] at h;cases h
theorem tf_eq{P:Prop}{b:Bool}(h:P↔b=true):tf P=b:=by
 cases b
 ·exact bg (fun p=>by have:=h.1 p;cases this)
 ·exact cA (h.2 rfl)
theorem tf_congr{P Q:Prop}(h:P↔Q):tf P=tf Q:=by
 by_cases q:Q
 ·rw[cA q,cA (h.2 q)]
 ·rw[bg q,bg (fun p=>q (h.1 p))]
structure OpP where
 (k o d r a:Int) (xs ys:List Int) (n t:Int)
structure BodyP where
 (pa va:Int) (bs:List (List OpP))
structure CodeP where
 (ar:List (Int × Int)) (fs:List BodyP) (mn0:Int)
def o0:OpP:=⟨0,0,0,0,0,[],[],0,0⟩
def b0:BodyP:=⟨0,0,[]⟩
def ae(l:List OpP)(i:Nat):OpP:=l[i]?.getD o0
def blAt(b:BodyP)(i:Nat):List OpP:=b.bs[i]?.getD []
def fnAt(c:CodeP)(i:Nat):BodyP:=c.fs[i]?.getD b0
structure Cnt where
 (ar fn i o l:Nat)
def Defs(k:Int):Prop:=k=1∨k=2∨k=3∨k=4∨k=5∨k=7∨k=8∨k=10
instance (k:Int):Decidable (Defs k):=by unfold Defs;infer_instance
def Ends(k:Int):Prop:=k=11∨k=12∨k=13
instance (k:Int):Decidable (Ends k):=by unfold Ends;infer_instance
def refN(c:Cnt)(nb:Nat)(k:Int):Nat :=
 if k=4∨k=5∨k=6 then c.ar else if k=7 then c.fn else if k=8 then c.i else if k=9 then c.o else if k=10 then c.l else if k=11∨k=12 then nb else 1
def altN(nb:Nat)(k:Int):Nat:=if k=12 then nb else 1
def argN(k:Int):Nat:=if k=2∨k=6 then 2 else if k=4∨k=5∨k=9∨k=10∨k=12∨k=13 then 1 else 0
def InOk(l:List Int)(n:Int):Prop:=∀i,i<l.length->0<=l[i]?.getD 0/\l[i]?.getD 0<n
def fJ(x:OpP):Prop:=if x.k=2 then (1<=x.o/\x.o<=12)/\x.n=0 else x.o=0/\(x.k=1∨x.n=0)
def paAt(c:CodeP)(r:Int):Int:=(fnAt c r.toNat).pa
def aJ(c:CodeP)(x:OpP):Prop :=
 if x.k=3 then (1<=x.ys.length/\x.ys.length<=64)/\x.xs.length=x.ys.length else if x.k=7 then x.ys.length=0/\(x.xs.length:Int)=paAt c x.r else x.ys.length=0/\x.xs.length=argN x.k
def OpOk(q:Cnt)(c:CodeP)(b:BodyP)(x:OpP)(nx:Int):Prop :=
 (1<=x.k/\x.k<=13)/\fJ x/\(if Defs x.k then x.d=nx else x.d = -1)/\(0<=x.r/\x.r<(refN q b.bs.length x.k:Nat))/\(0<=x.a/\x.a<(altN b.bs.length x.k:Nat))/\aJ c x/\InOk x.xs b.va/\InOk x.ys b.bs.length
def cnt(l:List OpP)(i:Nat):Nat:=((l.take i).filter fun x=>decide (Defs x.k)).length
def iE(l:List OpP)(i:Nat):Prop:=(Ends (ae l i).k↔i+1=l.length)/\((ae l i).k=3->i=0∨(ae l (i-1)).k=3)
def dz(q:Cnt)(c:CodeP)(b:BodyP)(l:List OpP)(nx:Int):Prop:=1<=l.length/\∀i,i<l.length->OpOk q c b (ae l i) (nx+cnt l i)/\iE l i
def cntB(b:BodyP)(k:Nat):Nat:=((b.bs.take k).map fun l=>cnt l l.length).sum
def aL(q:Cnt)(c:CodeP)(b:BodyP):Prop :=
 ((0<=b.pa/\b.pa<=6)/\(1<=b.bs.length/\b.bs.length<=64))/\(∀k,k<b.bs.length->dz q c b (blAt b k) (b.pa+cntB b k))/\b.pa+cntB b b.bs.length=b.va
def kq(q:Cnt)(l:List (Int × Int)):Prop:=∀i,i<l.length->(1<=(l[i]?.getD (0,0)).1/\(l[i]?.getD (0,0)).1<=256)/\(0<=(l[i]?.getD (0,0)).2/\(l[i]?.getD (0,0)).2<(q.l:Nat))
def nA(c:CodeP):Prop:=(0<=c.mn0/\c.mn0<(c.fs.length:Nat))/\paAt c c.mn0=0
def fK(pol:Bool)(q:Cnt)(c:CodeP):Prop:=(pol=true/\c.ar.length<=16/\c.fs.length<=64)/\kq q c.ar/\nA c/\∀i,i<c.fs.length->aL q c (fnAt c i)
structure Few (c:CodeP):Prop where
 f:c.fs.length<=100
 a:c.ar.length<=100
 b:∀i,i<c.fs.length->(fnAt c i).bs.length<=100
 l:∀i,i<c.fs.length->∀k,k<(fnAt c i).bs.length->(blAt (fnAt c i) k).length<=300
 t:(c.fs.map fun b=>(b.bs.map List.length).sum).sum<=300
theorem ew(l:List OpP):cnt l 0=0:=by simp [cnt]
theorem gu{l:List OpP}{i:Nat}(h:i<l.length):cnt l (i+1)=cnt l i+(if Defs (ae l i).k then 1 else 0):=by
 unfold cnt ae
 rw[List.take_add_one,List.getElem?_eq_getElem h,List.filter_append,List.length_append]
 simp only[Option.toList_some,Option.getD_some]
 by_cases hd:Defs l[i].k
 ·simp [hd]
 ·simp [hd]
theorem cnt_le(l:List OpP)(i:Nat):cnt l i<=i:=by
 unfold cnt
 exact Nat.le_trans (List.length_filter_le _ _) (by rw[List.length_take];omega)
theorem cnt_len(l:List OpP)(i:Nat):cnt l i<=l.length:=by
 unfold cnt
 exact Nat.le_trans (List.length_filter_le _ _) (by rw[List.length_take];omega)
theorem mh(b:BodyP):cntB b 0=0:=by simp [cntB]
theorem gS{b:BodyP}{k:Nat}(h:k<b.bs.length):cntB b (k+1)=cntB b k+cnt (blAt b k) (blAt b k).length:=by
 unfold cntB blAt
 rw[List.take_add_one,List.getElem?_eq_getElem h,List.map_append,List.sum_append]
 simp
def lenB(b:BodyP)(k:Nat):Nat:=((b.bs.take k).map List.length).sum
theorem fm{b:BodyP}{k:Nat}(h:k<b.bs.length):lenB b (k+1)=lenB b k+(blAt b k).length:=by
 unfold lenB blAt
 rw[List.take_add_one,List.getElem?_eq_getElem h,List.map_append,List.sum_append]
 simp
theorem cntB_le(b:BodyP)(k:Nat)(hk:k<=b.bs.length):cntB b k<=lenB b k:=by
 induction k with
 | zero=>simp [cntB]
 | succ k ih =>
   rw[gS (by omega),fm (by omega)]
   have:=ih (by omega)
   have:=cnt_le (blAt b k) (blAt b k).length
   omega
def lenC(c:CodeP)(i:Nat):Nat:=((c.fs.take i).map fun b=>lenB b b.bs.length).sum
theorem gT{c:CodeP}{i:Nat}(h:i<c.fs.length):lenC c (i+1)=lenC c i+lenB (fnAt c i) (fnAt c i).bs.length:=by
 unfold lenC fnAt
 rw[List.take_add_one,List.getElem?_eq_getElem h,List.map_append,List.sum_append]
 simp
theorem jF(c:CodeP):lenC c 0=0:=by simp [lenC]
theorem iZ:∀(l:List Nat) (i j:Nat),i<=j->(l.take i).sum<=(l.take j).sum
 | [],i,j,_=>by simp
 | x :: l,0,j,_=>by simp
 | x :: l,i+1,0,h=>by omega
 | x :: l,i+1,j+1,h=>by
   simp only[List.take_succ_cons,List.sum_cons]
   have:=iZ l i j (by omega)
   omega
theorem lenB_mono(b:BodyP){i j:Nat}(h:i<=j):lenB b i<=lenB b j:=by
 unfold lenB
 rw[List.map_take,List.map_take]
 exact iZ _ _ _ h
theorem mi(c:CodeP){i j:Nat}(h:i<=j):lenC c i<=lenC c j:=by
 unfold lenC
 rw[List.map_take,List.map_take]
 exact iZ _ _ _ h
theorem Few.all{c:CodeP}(h:Few c):lenC c c.fs.length<=300:=by
 have e:lenC c c.fs.length=(c.fs.map fun b=>(b.bs.map List.length).sum).sum:=by
  unfold lenC lenB
  rw[List.take_length]
  congr 1
  apply List.map_congr_left
  intro b _
  rw[List.take_length]
 rw[e]
 exact h.t
end CD
end
section
open Go.RowKit
open CD (OpP BodyP CodeP ae blAt fnAt)
def OpOf(n₀:Nat)(W:World)(x:OpV)(p:OpP):Prop :=
 (x.k=p.k/\x.o=p.o/\x.d=p.d/\x.r=p.r/\x.a=p.a/\x.n=p.n/\x.t=p.t)/\Row n₀ W (.slice x.xa x.xl x.xc) p.xs/\Row n₀ W (.slice x.ya x.yl x.yc) p.ys
def opC(p:OpP)(xa:Option Addr)(xc:Nat)(ya:Option Addr)(yc:Nat):OpV:=⟨p.k,p.o,p.d,p.r,p.a,xa,p.xs.length,xc,ya,p.ys.length,yc,p.n,p.t⟩
theorem OpOf.form{n₀:Nat}{W:World}{x:OpV}{p:OpP}(h:OpOf n₀ W x p):∃xa xc ya yc,x=opC p xa xc ya yc/\Row n₀ W (.slice xa p.xs.length xc) p.xs/\Row n₀ W (.slice ya p.ys.length yc) p.ys:=by
 obtain⟨⟨h1,h2,h3,h4,h5,h6,h7⟩,h8,h9⟩:=h
 obtain⟨a,c,e⟩:=h8.form
 obtain⟨a',c',e'⟩:=h9.form
 cases x
 cases e
 cases e'
 simp only at h1 h2 h3 h4 h5 h6 h7
 subst h1 h2 h3 h4 h5 h6 h7
 exact⟨_,_,_,_,rfl,h8,h9⟩
theorem OpOf.below{n₀:Nat}{A B:World}(hb:Below n₀ A B){x:OpV}{p:OpP}(h:OpOf n₀ A x p):OpOf n₀ B x p:=⟨h.1,h.2.1.below hb,h.2.2.below hb⟩
theorem OpOf.mono{n n':Nat}(hn:n<=n'){A:World}{x:OpV}{p:OpP}(h:OpOf n A x p):OpOf n' A x p:=⟨h.1,h.2.1.mono hn,h.2.2.mono hn⟩
def dl(n₀:Nat)(W:World)(vs:List OpV)(l:List OpP):Prop:=vs.length=l.length/\∀i x,vs[i]?=some x->OpOf n₀ W x (ae l i)
theorem dl.below{n₀:Nat}{A B:World}(hb:Below n₀ A B){vs:List OpV}{l:List OpP}(h:dl n₀ A vs l):dl n₀ B vs l:=⟨h.1,fun i x e=>(h.2 i x e).below hb⟩
theorem dl.mono{n n':Nat}(hn:n<=n'){A:World}{vs:List OpV}{l:List OpP}(h:dl n A vs l):dl n' A vs l:=⟨h.1,fun i x e=>(h.2 i x e).mono hn⟩
def OpsF(n₀:Nat)(W:World)(v:Value)(l:List OpP):Prop:=∃vs,Ops n₀ W v vs/\dl n₀ W vs l
theorem OpsF.below{n₀:Nat}{A B:World}(hb:Below n₀ A B){v:Value}{l:List OpP}:OpsF n₀ A v l->OpsF n₀ B v l
 | ⟨vs,h1,h2⟩=>⟨vs,h1.below hb,h2.below hb⟩
theorem OpsF.form{n₀:Nat}{A:World}{v:Value}{l:List OpP}(h:OpsF n₀ A v l):∃a cap,v=.slice a l.length cap:=by
 obtain⟨vs,h1,h2⟩:=h
 obtain⟨a,c,rfl⟩:=h1.form
 exact⟨a,c,by rw[h2.1]⟩
theorem OpsF.at{n₀:Nat}{W:World}{a:Option Addr}{n cap:Nat}{l:List OpP}(h:OpsF n₀ W (.slice a n cap) l){i:Nat}(hi:i<l.length) :
 ∃blk off xa xc ya yc,a=some ⟨blk,off,none⟩/\blk<n₀/\(∀c u,(aF (opC (ae l i) xa xc ya yc))[c]?=some u->W.cell? ⟨blk,off+i*9+c,none⟩=some u)/\Row n₀ W (.slice xa (ae l i).xs.length xc) (ae l i).xs/\Row n₀ W (.slice ya (ae l i).ys.length yc) (ae l i).ys:=by
 obtain⟨vs,h1,h2⟩:=h
 rcases h1 with⟨_,rfl⟩ | ⟨blk,off,cap',e,hb,hc⟩
 ·have:=h2.1;simp at this;omega
 ·cases e
  have hvl:i<vs.length:=by rw[h2.1];exact hi
  have hx:vs[i]?=some vs[i]:=List.getElem?_eq_getElem hvl
  obtain⟨xa,xc,ya,yc,e,r1,r2⟩:=(h2.2 i _ hx).form
  exact⟨blk,off,xa,xc,ya,yc,rfl,hb,fun c u hu=>hc i _ hx c u (by rw[e];exact hu),r1,r2⟩
def aX(n₀:Nat)(W:World)(v:Value)(bs:List (List OpP)):Prop:=∃ls,bS n₀ W v ls/\ls.length=bs.length/\∀j,j<bs.length->dl n₀ W (ls[j]?.getD []) (bs[j]?.getD [])
theorem aX.below{n₀:Nat}{A B:World}(hb:Below n₀ A B){v:Value}{bs:List (List OpP)}:aX n₀ A v bs->aX n₀ B v bs
 | ⟨ls,h1,h2,h3⟩=>⟨ls,h1.below hb,h2,fun j hj=>(h3 j hj).below hb⟩
theorem aX.mono{n n':Nat}(hn:n<=n'){A:World}{v:Value}{bs:List (List OpP)}:aX n A v bs->aX n' A v bs
 | ⟨ls,h1,h2,h3⟩=>⟨ls,h1.mono hn,h2,fun j hj=>(h3 j hj).mono hn⟩
theorem aX.form{n₀:Nat}{A:World}{v:Value}{bs:List (List OpP)}(h:aX n₀ A v bs):∃a cap,v=.slice a bs.length cap:=by
 obtain⟨ls,h1,h2,_⟩:=h
 obtain⟨a,c,rfl⟩:=h1.form
 exact⟨a,c,by rw[h2]⟩
theorem aX.at{n₀:Nat}{W:World}{a:Option Addr}{n cap:Nat}{bs:List (List OpP)}(h:aX n₀ W (.slice a n cap) bs){j:Nat}(hj:j<bs.length) :
 ∃b off a' cap',a=some ⟨b,off,none⟩/\b<n₀/\W.cell? ⟨b,off+j,none⟩=some (.slice a' (bs[j]?.getD []).length cap')/\OpsF n₀ W (.slice a' (bs[j]?.getD []).length cap') (bs[j]?.getD []):=by
 obtain⟨ls,h1,h2,h3⟩:=h
 obtain⟨b,off,a',cap',e,hb,hc,ho⟩:=h1.at (j:=j) (by omega)
 have hr:=h3 j hj
 rw[hr.1] at hc ho
 exact⟨b,off,a',cap',e,hb,hc,_,ho,hr⟩
def bodyC(b:BodyP)(ba:Option Addr)(bc:Nat):List Value:=[.int .i64 b.pa,.int .i64 b.va,.slice ba b.bs.length bc]
def bh(n₀:Nat)(W:World)(v:Value)(fs:List BodyP):Prop :=
 ((∃a cap,v=.slice a 0 cap)/\fs=[])∨∃blk off cap,v=.slice (some ⟨blk,off,none⟩) fs.length cap/\blk<n₀/\∀i,i<fs.length->∃ba bc,(∀c u,(bodyC (fs[i]?.getD CD.b0) ba bc)[c]?=some u->W.cell? ⟨blk,off+i*3+c,none⟩=some u)/\aX n₀ W (.slice ba (fs[i]?.getD CD.b0).bs.length bc) (fs[i]?.getD CD.b0).bs
theorem bh.below{n₀:Nat}{A B:World}(h:Below n₀ A B){v:Value}{fs:List BodyP}:bh n₀ A v fs->bh n₀ B v fs
 | .inl e=>.inl e
 | .inr ⟨blk,off,cap,e,hb,hc⟩=>.inr ⟨blk,off,cap,e,hb,fun i hi=>by
   obtain⟨ba,bc,h1,h2⟩:=hc i hi
   exact⟨ba,bc,fun c u hu=>(h.cell (p:=⟨blk,off+i*3+c,none⟩) hb).trans (h1 c u hu),h2.below h⟩⟩
theorem bh.mono{n n':Nat}(h:n<=n'){A:World}{v:Value}{fs:List BodyP}:bh n A v fs->bh n' A v fs
 | .inl e=>.inl e
 | .inr ⟨blk,off,cap,e,hb,hc⟩=>.inr ⟨blk,off,cap,e,by omega,fun i hi=>by
   obtain⟨ba,bc,h1,h2⟩:=hc i hi
   exact⟨ba,bc,h1,h2.mono h⟩⟩
theorem bh.form{n₀:Nat}{A:World}{v:Value}{fs:List BodyP}(h:bh n₀ A v fs):∃a cap,v=.slice a fs.length cap:=by
 rcases h with⟨⟨_,_,rfl⟩,rfl⟩ | ⟨blk,off,cap,rfl,_⟩
 ·exact⟨_,_,rfl⟩
 ·exact⟨_,_,rfl⟩
theorem bh.at{n₀:Nat}{W:World}{a:Option Addr}{n cap:Nat}{fs:List BodyP}(h:bh n₀ W (.slice a n cap) fs){i:Nat}(hi:i<fs.length) :
 ∃blk off ba bc,a=some ⟨blk,off,none⟩/\blk<n₀/\W.cell? ⟨blk,off+i*3,none⟩=some (.int .i64 (fs[i]?.getD CD.b0).pa)/\W.cell? ⟨blk,off+i*3+1,none⟩=some (.int .i64 (fs[i]?.getD CD.b0).va)/\W.cell? ⟨blk,off+i*3+2,none⟩=some (.slice ba (fs[i]?.getD CD.b0).bs.length bc)/\aX n₀ W (.slice ba (fs[i]?.getD CD.b0).bs.length bc) (fs[i]?.getD CD.b0).bs:=by
 rcases h with⟨_,rfl⟩ | ⟨blk,off,cap',e,hb,hc⟩
 ·simp at hi
 ·cases e
  obtain⟨ba,bc,h1,h2⟩:=hc i hi
  exact⟨blk,off,ba,bc,rfl,hb,h1 0 _ rfl,h1 1 _ rfl,h1 2 _ rfl,h2⟩
def bK(n₀:Nat)(W:World)(v:Value)(l:List (Int × Int)):Prop :=
 ((∃a cap,v=.slice a 0 cap/\(a=none->cap=0))/\l=[])∨∃blk off cap,v=.slice (some ⟨blk,off,none⟩) l.length cap/\blk<n₀/\∀i,i<l.length->W.cell? ⟨blk,off+i*2,none⟩=some (.int .i64 (l[i]?.getD (0,0)).1)/\W.cell? ⟨blk,off+i*2+1,none⟩=some (.int .i64 (l[i]?.getD (0,0)).2)
theorem bK.below{n₀:Nat}{A B:World}(h:Below n₀ A B){v:Value}{l:List (Int × Int)}:bK n₀ A v l->bK n₀ B v l
 | .inl e=>.inl e
 | .inr ⟨blk,off,cap,e,hb,hc⟩=>.inr ⟨blk,off,cap,e,hb,fun i hi=>⟨(h.cell (p:=⟨blk,off+i*2,none⟩) hb).trans (hc i hi).1,(h.cell (p:=⟨blk,off+i*2+1,none⟩) hb).trans (hc i hi).2⟩⟩
theorem bK.mono{n n':Nat}(h:n<=n'){A:World}{v:Value}{l:List (Int × Int)}:bK n A v l->bK n' A v l
 | .inl e=>.inl e
 | .inr ⟨blk,off,cap,e,hb,hc⟩=>.inr ⟨blk,off,cap,e,by omega,hc⟩
theorem bK.form{n₀:Nat}{A:World}{v:Value}{l:List (Int × Int)}(h:bK n₀ A v l):∃a cap,v=.slice a l.length cap:=by
 rcases h with⟨⟨_,_,rfl,_⟩,rfl⟩ | ⟨blk,off,cap,rfl,_⟩
 ·exact⟨_,_,rfl⟩
 ·exact⟨_,_,rfl⟩
theorem bK.at{n₀:Nat}{W:World}{a:Option Addr}{n cap:Nat}{l:List (Int × Int)}(h:bK n₀ W (.slice a n cap) l){i:Nat}(hi:i<l.length) :
 ∃blk off,a=some ⟨blk,off,none⟩/\blk<n₀/\W.cell? ⟨blk,off+i*2,none⟩=some (.int .i64 (l[i]?.getD (0,0)).1)/\W.cell? ⟨blk,off+i*2+1,none⟩=some (.int .i64 (l[i]?.getD (0,0)).2):=by
 rcases h with⟨_,rfl⟩ | ⟨blk,off,cap',e,hb,hc⟩
 ·simp at hi
 ·cases e
  exact⟨blk,off,rfl,hb,hc i hi⟩
def CodeF(n₀:Nat)(W:World)(av fv:Value)(c:CodeP):Prop:=bK n₀ W av c.ar/\bh n₀ W fv c.fs
def eA(p:OpP):Prop:=p.xs.length<=17592186044416/\p.ys.length<=17592186044416
def fd(c:CodeP):Prop:=∀i,i<c.fs.length->∀k,k<(fnAt c i).bs.length->∀j,j<(blAt (fnAt c i) k).length->eA (ae (blAt (fnAt c i) k) j)
end
section
open Go.RowKit
open CD (OpP BodyP CodeP ae blAt fnAt)
theorem ends_b(k:Int){b1 b2 b3:Bool}(h1:(k == (11:Int))=b1)(h2:(k == (12:Int))=b2)(h3:(k == (13:Int))=b3):decide (CD.Ends k)=(b1 || b2 || b3):=by
 subst h1 h2 h3
 unfold CD.Ends
 cases e1:(k == (11:Int)) <;> cases e2:(k == (12:Int)) <;> cases e3:(k == (13:Int)) <;> simp at e1 e2 e3 <;> simp [e1,e2,e3]
theorem nends_any(k:Int)(w:World):Calls Tryz.prog 227 #[.int .u8 k] w fun e w'=>e=.returned (.bool (decide (CD.Ends k)))/\w'=w:=by
 obtain⟨z,ez⟩:∃z,z=decide (CD.Ends k):=⟨_,rfl⟩
 rw[<-ez]
 cases h1:(k == (11:Int)) <;> cases h2:(k == (12:Int)) <;> cases h3:(k == (13:Int)) <;>
  (rw[ends_b k h1 h2 h3] at ez
   simp only[Bool.or_true,Bool.or_false,Bool.true_or,Bool.false_or] at ez
   subst ez
   go_enter Tryz.func227,Tryz.ntmps227
   go_wp2_with fail
   go_ret
   exact⟨rfl,rfl⟩)
def jG(k ahead:Int)(last:Bool):Int:=if (decide (CD.Ends k) != last)=true then 15 else if k=3/\¬ahead=3 then 18 else 0
theorem gw(k ahead:Int)(last:Bool)(w:World):Calls Tryz.prog 218 #[.int .u8 k,.int .u8 ahead,.bool last] w fun e w'=>e=.returned (.int .i64 (jG k ahead last))/\w'=w:=by
 obtain⟨z,ez⟩:∃z,z=decide (CD.Ends k):=⟨_,rfl⟩
 obtain⟨y,ey⟩:∃y,y=jG k ahead last:=⟨_,rfl⟩
 rw[<-ey]
 unfold jG at ey
 rw[<-ez] at ey
 have HZ:=zH ez
 clear ez
 cases h1:(k == (3:Int)) <;> cases h2:(ahead == (3:Int)) <;> cases z <;> cases last <;>
  (have e1:=h1
   have e2:=h2
   simp at e1 e2
   simp [e1,e2] at ey
   clear e1 e2
   subst ey
   go_enter Tryz.func218,Tryz.ntmps218
   go_wp2_with (go_at_call 227;refine(nends_any _ _).mono ?_;rintro e w1 ⟨rfl,rfl⟩;rw[<-HZ.out])
   go_ret
   exact⟨rfl,rfl⟩)
def ckC(av fv:Value)(mn0:Int)(q:CD.Cnt)(nb nv nx lf:Int):Array Value :=
 #[av,fv,.int .i64 mn0,.int .i64 1,.int .i64 q.ar,.int .i64 q.fn,.int .i64 q.i,.int .i64 q.o,.int .i64 q.l,.int .i64 nb,.int .i64 nv,.int .i64 nx,.int .i64 lf]
def Ck(B:Nat)(w:World)(cs:Array Value):Prop:=w.heap[B]?=some (.cells cs 157)
theorem Ck.at{B:Nat}{w:World}{cs:Array Value}(h:Ck B w cs)(j:Nat){u:Value}(hj:cs[j]?=some u):w.cell? ⟨B,j,none⟩=some u:=by
 rw[cell_of_row w B j cs _ _ h];exact hj
theorem Ck.free{B:Nat}{w:World}{cs:Array Value}(h:Ck B w cs)(j:Nat):w.frozen? ⟨B,j,none⟩=false:=by
 have h1:w.heap[B]?=some (.cells cs 157):=h
 simp [World.frozen?,h1]
theorem Ck.lt{B:Nat}{w:World}{cs:Array Value}(h:Ck B w cs):B<w.heap.size:=(Array.getElem?_eq_some_iff.1 h).1
theorem Ck.on{B:Nat}{w w':World}{cs:Array Value}(h:Ck B w cs)(hb:Below w.heap.size w w'):Ck B w' cs:=(hb.block _ h.lt).trans h
theorem Ck.set{B:Nat}{w:World}{cs:Array Value}(h:Ck B w cs)(j:Nat)(u:Value):Ck B (w.setCell ⟨B,j,none⟩ u) (cs.setIfInBounds j u):=by
 have h1:w.heap[B]?=some (.cells cs 157):=h
 unfold Ck
 simp [World.setCell,Array.getElem?_modify,h1,Array.setIfInBounds]
theorem aA{a b c:World}{r:Option Nat}(h:a.grownBy b r)(k:b.grownBy c r):a.grownBy c r :=
 ⟨k.os.trans h.os,k.tape.trans h.tape,k.output.trans h.output,Nat.le_trans h.size k.size,fun i hi hr=>(k.block i (Nat.lt_of_lt_of_le hi h.size) hr).trans (h.block i hi hr)⟩
theorem aN{a b:World}(r:Option Nat)(h:Below a.heap.size a b):a.grownBy b r:=⟨h.os,h.tape,h.output,h.size,fun k hk _=>h.block k hk⟩
theorem fp{a b:World}{B:Nat}(h:a.grownBy b (some B))(j:Nat)(u:Value):a.grownBy (b.setCell ⟨B,j,none⟩ u) (some B) :=
 ⟨h.os,h.tape,h.output,by simpa [World.setCell] using h.size,fun k hk hr=>(Below.heap_setCell _ _ _ _ (fun e=>hr (by rw[e]))).trans (h.block k hk hr)⟩
theorem aI{n B:Nat}{a b:World}(h:a.grownBy b (some B))(hn:n<=B)(hz:n<=a.heap.size):Below n a b:=⟨h.os,h.tape,h.output,h.size,fun k hk=>h.block k (by omega) (fun e=>by cases e;omega)⟩
theorem ja(B j:Nat)(n T:Int)(w:World)(hj:j<8)(hc:w.cell? ⟨B,3+j,none⟩=some (.int .i64 T)) :
 Calls Tryz.prog 135 #[.pointer (some ⟨B,0,none⟩),.int .u8 (j:Int),.int .i64 n] w fun e w'=>e=.returned (.bool (decide (0<=n/\n<T)))/\w'=w:=by
 have i1:(0:Int)<=j/\(j:Int)<8:=by omega
 by_cases h1:(0:Int)<=n
 ·cases h2:decide (n<T)
  ·have h3:=of_decide_eq_false h2
   rw[decide_eq_false (show ¬(0<=n/\n<T) from fun h=>h3 h.2)]
   clear h3
   go_enter Tryz.func135,Tryz.ntmps135
   go_wp2_with fail
   go_ret
   exact⟨rfl,rfl⟩
  ·have h3:=of_decide_eq_true h2
   rw[decide_eq_true (show (0<=n/\n<T) from⟨h1,h3⟩)]
   clear h3
   go_enter Tryz.func135,Tryz.ntmps135
   go_wp2_with fail
   go_ret
   exact⟨rfl,rfl⟩
 ·rw[decide_eq_false (show ¬(0<=n/\n<T) from fun h=>h1 h.1)]
  go_enter Tryz.func135,Tryz.ntmps135
  go_wp2_with fail
  go_ret
  exact⟨rfl,rfl⟩
theorem oQ{n₀:Nat}(B j:Nat)(v:Value)(l:List Int)(T:Int)(w:World)(hj:j<8)(hc:w.cell? ⟨B,3+j,none⟩=some (.int .i64 T))(hv:Row n₀ w v l)(hl:l.length<=17592186044416) :
 Calls Tryz.prog 234 #[.pointer (some ⟨B,0,none⟩),.int .u8 (j:Int),v] w fun e w'=>e=.returned (.bool (CD.tf (CD.InOk l T)))/\w'=w:=by
 obtain⟨a,c,rfl⟩:=hv.form
 have HV:=zH hv
 have HJ:=zH hj
 clear hv hj
 obtain⟨z,ez⟩:∃z,z=CD.tf (CD.InOk l T):=⟨_,rfl⟩
 rw[<-ez]
 have HZ:=zH ez
 clear ez
 go_enter Tryz.func234,Tryz.ntmps234
 go_wp2_with fail
 go_loopw [11] (fun k wr=>∃i:Nat,i<=l.length/\k=.int .i64 (i:Int)/\w=wr/\RowKit.Hid (∀x,x<i->0<=l[x]?.getD 0/\l[x]?.getD 0<T)) (fun k _=>l.length-(intOf k).toNat)
 case atStart=>exact⟨0,Nat.zero_le _,rfl,rfl,zH (fun x hx=>absurd hx (Nat.not_lt_zero _))⟩
 case round =>
  obtain⟨i,hi,rfl,rfl,HI⟩:=hrel
  by_cases hlt:i<l.length
  ·obtain⟨b,off,ea,hx⟩:=HV.out.cellAt hlt
   subst ea
   have i1:(0:Int)<=i/\(i:Int)<l.length:=by omega
   obtain⟨x,ex⟩:∃x,x=l[i]?.getD 0:=⟨_,rfl⟩
   have HX:=zH ex
   rw[<-ex] at hx
   clear ex
   cases hq:decide (0<=x/\x<T)
   ·have HQ:=zH hq
    clear hq
    have e0:z=false:=by rw[HZ.out];exact CD.bg (fun h=>of_decide_eq_false HQ.out (by rw[HX.out];exact h i hlt))
    subst e0
    go_wp2_with (go_at_call 135;refine(ja B j _ T _ HJ.out hc).mono ?_;rintro e w1 ⟨rfl,rfl⟩;rw[HQ.out])
    go_ret
    exact⟨rfl,rfl⟩
   ·have HQ:=zH hq
    clear hq
    have HN:=zH (show ∀y,y<i+1->0<=l[y]?.getD 0/\l[y]?.getD 0<T from fun y hy=>by
     by_cases e:y=i
     ·rw[e,<-HX.out];exact of_decide_eq_true HQ.out
     ·exact HI.out y (by omega))
    go_wp2_with (go_at_call 135;refine(ja B j _ T _ HJ.out hc).mono ?_;rintro e w1 ⟨rfl,rfl⟩;rw[HQ.out])
    go_roundw
    case rel=>exact⟨i+1,by omega,by go_num,by first | rfl | trivial,HN⟩
    case measure=>simp [intOf];omega
  ·have e0:z=true:=by rw[HZ.out];exact CD.cA (fun y hy=>HI.out y (by omega))
   subst e0
   go_wp2_with fail
   go_ret
   first | exact⟨rfl,rfl⟩ | simp
end
section
open Go.RowKit
open CD (OpP BodyP CodeP ae blAt fnAt)
def opA(p:OpP)(xa:Option Addr)(xc:Nat)(ya:Option Addr)(yc:Nat):Value :=
 .agg #[.int .u8 p.k,.int .u8 p.o,.int .i64 p.d,.int .i64 p.r,.int .i64 p.a,.slice xa p.xs.length xc,.slice ya p.ys.length yc,.int .i64 p.n,.int .i64 p.t]
set_option maxHeartbeats 3200000 in
theorem dV(p:OpP)(xa:Option Addr)(xc:Nat)(ya:Option Addr)(yc:Nat)(w:World) :
 Calls Tryz.prog 228 #[opA p xa xc ya yc] w fun e w'=>e=.returned (.bool (CD.tf (CD.fJ p)))/\Below w.heap.size w w':=by
 unfold opA
 obtain⟨z,ez⟩:∃z,z=CD.tf (CD.fJ p):=⟨_,rfl⟩
 rw[<-ez]
 have HZ:=zH ez
 clear ez
 rcases Decidable.em (p.k=2) with hk | hk
 ·rcases Decidable.em (1<=p.o) with o1 | o1 <;> rcases Decidable.em (p.o<=12) with o2 | o2 <;> rcases Decidable.em (p.n=0) with n0 | n0 <;>
  (first | (exfalso;omega) | skip) <;>
  ((first
    | (have e0:z=true:=(by rw[HZ.out];exact CD.cA (by unfold CD.fJ;rw[if_pos hk];omega));clear HZ;subst e0)
    | (have e0:z=false:=(by rw[HZ.out];exact CD.bg (by unfold CD.fJ;rw[if_pos hk];omega));clear HZ;subst e0))
   have b1:(p.k == (2:Int))=true:=by simpa using hk
   (first | (have b2:(p.n == (0:Int))=true:=by simpa using n0) | (have b2:(p.n == (0:Int))=false:=by simpa using n0))
   clear hk n0
   go_enter Tryz.func228,Tryz.ntmps228
   go_wp2_with fail
   go_ret
   exact⟨rfl,(Below.refl _ _).alloc (Nat.le_refl _) _⟩)
 ·rcases Decidable.em (p.o=0) with o1 | o1 <;> rcases Decidable.em (p.k=1) with k1 | k1 <;> rcases Decidable.em (p.n=0) with n0 | n0 <;>
  ((first
    | (have e0:z=true:=(by rw[HZ.out];exact CD.cA (by unfold CD.fJ;rw[if_neg hk];omega));clear HZ;subst e0)
    | (have e0:z=false:=(by rw[HZ.out];exact CD.bg (by unfold CD.fJ;rw[if_neg hk];omega));clear HZ;subst e0))
   have b1:(p.k == (2:Int))=false:=by simpa using hk
   (first | (have b2:(p.n == (0:Int))=true:=by simpa using n0) | (have b2:(p.n == (0:Int))=false:=by simpa using n0))
   (first | (have b3:(p.o == (0:Int))=true:=by simpa using o1) | (have b3:(p.o == (0:Int))=false:=by simpa using o1))
   (first | (have b4:(p.k == (1:Int))=true:=by simpa using k1) | (have b4:(p.k == (1:Int))=false:=by simpa using k1))
   clear hk n0 o1 k1
   go_enter Tryz.func228,Tryz.ntmps228
   go_wp2_with fail
   go_ret
   exact⟨rfl,(Below.refl _ _).alloc (Nat.le_refl _) _⟩)
def refW(k:Int):Int:=if k=4∨k=5∨k=6 then 1 else if k=7 then 2 else if k=8 then 3 else if k=9 then 4 else if k=10 then 5 else if k=11∨k=12 then 6 else 0
def altW(k:Int):Int:=if k=12 then 6 else 0
def shA(k:Int):Value:=.agg #[.int .u8 (refW k),.int .u8 (altW k),.bool (decide (CD.Defs k)),.int .i64 (CD.argN k:Nat)]
def nextI(k nx:Int):Int:=if CD.Defs k then nx+1 else nx
set_option maxHeartbeats 3200000 in
theorem gx(B:Nat)(av fv:Value)(mn0:Int)(q:CD.Cnt)(nb nv nx lf k d:Int)(w:World)(h:Ck B w (ckC av fv mn0 q nb nv nx lf))(hx:0<=nx/\nx<=1048576) :
 Calls Tryz.prog 229 #[.pointer (some ⟨B,0,none⟩),shA k,.int .i64 d] w fun e w'=>e=.returned (.bool (decide (if CD.Defs k then d=nx else d = -1)))/\w.grownBy w' (some B)/\Ck B w' (ckC av fv mn0 q nb nv (nextI k nx) lf):=by
 unfold shA nextI
 generalize refW k=r1
 generalize altW k=r2
 generalize CD.argN k=r3
 have hlt:=h.lt
 by_cases hd:CD.Defs k
 ·rw[decide_eq_true hd]
  simp only[if_pos hd]
  clear hd
  have HS:=zH (show Ck B ((w.setCell ⟨B,11,none⟩ (.int .i64 (nx+1))).alloc (.cells #[.int .u8 r1,.int .u8 r2,.bool true,.int .i64 (r3:Nat)] 304)) (ckC av fv mn0 q nb nv (nx+1) lf) from(h.set 11 (.int .i64 (nx+1))).on ((Below.refl _ _).alloc (Nat.le_refl _) _))
  have HGS:=zH (show w.grownBy ((w.setCell ⟨B,11,none⟩ (.int .i64 (nx+1))).alloc (.cells #[.int .u8 r1,.int .u8 r2,.bool true,.int .i64 (r3:Nat)] 304)) (some B) from
   aA (fp (aN _ (Below.refl _ _)) 11 (.int .i64 (nx+1))) (aN _ ((Below.refl _ _).alloc (Nat.le_refl _) _)))
  have hc0:w.cell? ⟨B,11,none⟩=some (.int .i64 nx):=h.at 11 rfl
  have hf0:w.frozen? ⟨B,11,none⟩=false:=h.free 11
  clear h
  have i0:nx+1-1=nx:=by omega
  cases hq:(d == nx)
  ·have hq2:¬d=nx:=by simpa using hq
   rw[decide_eq_false hq2]
   clear hq2
   go_enter Tryz.func229,Tryz.ntmps229
   go_wp2_with fail
   go_ret
   exact⟨rfl,HGS.out,HS.out⟩
  ·have hq2:d=nx:=by simpa using hq
   rw[decide_eq_true hq2]
   clear hq2
   go_enter Tryz.func229,Tryz.ntmps229
   go_wp2_with fail
   go_ret
   exact⟨rfl,HGS.out,HS.out⟩
 ·rw[decide_eq_false hd]
  simp only[if_neg hd]
  clear hd
  cases hq:(d == (-1:Int))
  ·have hq2:¬d = -1:=by simpa using hq
   rw[decide_eq_false hq2]
   clear hq2
   go_enter Tryz.func229,Tryz.ntmps229
   go_wp2_with fail
   go_ret
   exact⟨rfl,aN _ ((Below.refl _ _).alloc (Nat.le_refl _) _),h.on ((Below.refl _ _).alloc (Nat.le_refl _) _)⟩
  ·have hq2:d = -1:=by simpa using hq
   rw[decide_eq_true hq2]
   clear hq2
   go_enter Tryz.func229,Tryz.ntmps229
   go_wp2_with fail
   go_ret
   exact⟨rfl,aN _ ((Below.refl _ _).alloc (Nat.le_refl _) _),h.on ((Below.refl _ _).alloc (Nat.le_refl _) _)⟩
set_option maxHeartbeats 6400000 in
theorem oR{n₀:Nat}(B:Nat)(av fv:Value)(c:CodeP)(q:CD.Cnt)(nb nv nx lf:Int)(p:OpP)(xa:Option Addr)(xc:Nat)(ya:Option Addr)(yc:Nat)(w:World)(h:Ck B w (ckC av fv c.mn0 q nb nv nx lf))(hf:bh n₀ w fv c.fs)(hn:n₀<=w.heap.size)(hfl:c.fs.length<=100)(hs:eA p)(hr:p.k=7->0<=p.r/\p.r<(c.fs.length:Nat)) :
 Calls Tryz.prog 233 #[.pointer (some ⟨B,0,none⟩),shA p.k,opA p xa xc ya yc] w fun e w'=>e=.returned (.bool (CD.tf (CD.aJ c p)))/\Below w.heap.size w w':=by
 obtain⟨fa,fc,rfl⟩:=hf.form
 unfold opA shA
 generalize refW p.k=r1
 generalize altW p.k=r2
 generalize decide (CD.Defs p.k)=r3
 have HS:=zH hs
 have b1:(p.xs.length:Int)<=17592186044416:=by have:=hs.1;omega
 have b2:(p.ys.length:Int)<=17592186044416:=by have:=hs.2;omega
 have HBW:=zH (show Below w.heap.size w ((w.alloc (.cells #[.int .u8 r1,.int .u8 r2,.bool r3,.int .i64 (CD.argN p.k:Nat)] 304)).alloc (.cells #[.int .u8 p.k,.int .u8 p.o,.int .i64 p.d,.int .i64 p.r,.int .i64 p.a,.slice xa p.xs.length xc,.slice ya p.ys.length yc,.int .i64 p.n,.int .i64 p.t] 56)) from((Below.refl _ _).alloc (Nat.le_refl _) _).alloc (by simp) _)
 obtain⟨z,ez⟩:∃z,z=CD.tf (CD.aJ c p):=⟨_,rfl⟩
 rw[<-ez]
 have HZ:=zH ez
 clear ez hs
 rcases Decidable.em (p.k=3) with hk | hk
 ·rcases Decidable.em (1<=(p.ys.length:Int)) with o1 | o1
  ·rcases Decidable.em ((p.ys.length:Int)<=64) with o2 | o2
   ·rcases Decidable.em ((p.xs.length:Int)=p.ys.length) with o3 | o3
    ·have e0:z=true:=by rw[HZ.out];exact CD.cA (by unfold CD.aJ;rw[if_pos hk];omega)
     clear HZ;subst e0
     have c1:(p.k == (3:Int))=true:=by simpa using hk
     have c2:((p.xs.length:Int) == (p.ys.length:Int))=true:=by simpa using o3
     clear hk o3
     go_enter Tryz.func233,Tryz.ntmps233
     go_wp2_with fail
     go_ret
     exact⟨rfl,HBW.out⟩
    ·have e0:z=false:=by rw[HZ.out];exact CD.bg (by unfold CD.aJ;rw[if_pos hk];omega)
     clear HZ;subst e0
     have c1:(p.k == (3:Int))=true:=by simpa using hk
     have c2:((p.xs.length:Int) == (p.ys.length:Int))=false:=by simpa using o3
     clear hk o3
     go_enter Tryz.func233,Tryz.ntmps233
     go_wp2_with fail
     go_ret
     exact⟨rfl,HBW.out⟩
   ·have e0:z=false:=by rw[HZ.out];exact CD.bg (by unfold CD.aJ;rw[if_pos hk];omega)
    clear HZ;subst e0
    have c1:(p.k == (3:Int))=true:=by simpa using hk
    clear hk
    go_enter Tryz.func233,Tryz.ntmps233
    go_wp2_with fail
    go_ret
    exact⟨rfl,HBW.out⟩
  ·have e0:z=false:=by rw[HZ.out];exact CD.bg (by unfold CD.aJ;rw[if_pos hk];omega)
   clear HZ;subst e0
   have c1:(p.k == (3:Int))=true:=by simpa using hk
   clear hk
   go_enter Tryz.func233,Tryz.ntmps233
   go_wp2_with fail
   go_ret
   exact⟨rfl,HBW.out⟩
 ·have c1:(p.k == (3:Int))=false:=by simpa using hk
  rcases Decidable.em (p.k=7) with h7 | h7
  ·have c2:(p.k == (7:Int))=true:=by simpa using h7
   obtain⟨hr1,hr2⟩:=hr h7
   rcases Decidable.em ((p.ys.length:Int)=0) with o1 | o1
   ·obtain⟨blk,off,ba,bc,efa,hblk,hp,_⟩:=hf.at (i:=p.r.toNat) (by omega)
    subst efa
    have hp2:w.cell? ⟨blk,off+p.r.toNat*3,none⟩=some (.int .i64 (CD.paAt c p.r)):=hp
    have hc1:w.cell? ⟨B,1,none⟩=some (.slice (some ⟨blk,off,none⟩) c.fs.length fc):=h.at 1 rfl
    have hblkw:blk<w.heap.size:=by omega
    have hBw:=h.lt
    have i1:(0:Int)<=p.r/\p.r<(c.fs.length:Int):=⟨hr1,hr2⟩
    have i2:(c.fs.length:Int)<=100:=by omega
    obtain⟨pa,epa⟩:∃pa,pa=CD.paAt c p.r:=⟨_,rfl⟩
    rw[<-epa] at hp2
    clear hp h hf
    rcases Decidable.em ((p.xs.length:Int)=pa) with o3 | o3
    ·have e0:z=true:=by rw[HZ.out];exact CD.cA (by unfold CD.aJ;rw[if_neg hk,if_pos h7,<-epa];omega)
     clear HZ epa;subst e0
     have c3:((p.ys.length:Int) == (0:Int))=true:=by simpa using o1
     have c4:((p.xs.length:Int) == pa)=true:=by simpa using o3
     clear hk h7 o1 o3
     go_enter Tryz.func233,Tryz.ntmps233
     go_wp2_with fail
     go_quiet (fail)
     go_wp2_with fail
     go_ret
     exact⟨rfl,HBW.out.trans ⟨rfl,rfl,rfl,Nat.le_refl _,fun _ _=>rfl⟩⟩
    ·have e0:z=false:=by rw[HZ.out];exact CD.bg (by unfold CD.aJ;rw[if_neg hk,if_pos h7,<-epa];omega)
     clear HZ epa;subst e0
     have c3:((p.ys.length:Int) == (0:Int))=true:=by simpa using o1
     have c4:((p.xs.length:Int) == pa)=false:=by simpa using o3
     clear hk h7 o1 o3
     go_enter Tryz.func233,Tryz.ntmps233
     go_wp2_with fail
     go_quiet (fail)
     go_wp2_with fail
     go_ret
     exact⟨rfl,HBW.out.trans ⟨rfl,rfl,rfl,Nat.le_refl _,fun _ _=>rfl⟩⟩
   ·have e0:z=false:=by rw[HZ.out];exact CD.bg (by unfold CD.aJ;rw[if_neg hk,if_pos h7];omega)
    clear HZ;subst e0
    have c3:((p.ys.length:Int) == (0:Int))=false:=by simpa using o1
    clear hk h7 o1
    go_enter Tryz.func233,Tryz.ntmps233
    go_wp2_with fail
    go_quiet (fail)
    go_wp2_with fail
    go_ret
    exact⟨rfl,HBW.out.trans ⟨rfl,rfl,rfl,Nat.le_refl _,fun _ _=>rfl⟩⟩
  ·have c2:(p.k == (7:Int))=false:=by simpa using h7
   rcases Decidable.em ((p.ys.length:Int)=0) with o1 | o1
   ·rcases Decidable.em ((p.xs.length:Int)=(CD.argN p.k:Nat)) with o3 | o3
    ·have e0:z=true:=by rw[HZ.out];exact CD.cA (by unfold CD.aJ;rw[if_neg hk,if_neg h7];omega)
     clear HZ;subst e0
     have c3:((p.ys.length:Int) == (0:Int))=true:=by simpa using o1
     have c4:((p.xs.length:Int) == ((CD.argN p.k:Nat):Int))=true:=by simpa using o3
     clear hk h7 o1 o3
     go_enter Tryz.func233,Tryz.ntmps233
     go_wp2_with fail
     go_ret
     exact⟨rfl,HBW.out⟩
    ·have e0:z=false:=by rw[HZ.out];exact CD.bg (by unfold CD.aJ;rw[if_neg hk,if_neg h7];omega)
     clear HZ;subst e0
     have c3:((p.ys.length:Int) == (0:Int))=true:=by simpa using o1
     have c4:((p.xs.length:Int) == ((CD.argN p.k:Nat):Int))=false:=by simpa using o3
     clear hk h7 o1 o3
     go_enter Tryz.func233,Tryz.ntmps233
     go_wp2_with fail
     go_ret
     exact⟨rfl,HBW.out⟩
   ·have e0:z=false:=by rw[HZ.out];exact CD.bg (by unfold CD.aJ;rw[if_neg hk,if_neg h7];omega)
    clear HZ;subst e0
    have c3:((p.ys.length:Int) == (0:Int))=false:=by simpa using o1
    clear hk h7 o1
    go_enter Tryz.func233,Tryz.ntmps233
    go_wp2_with fail
    go_ret
    exact⟨rfl,HBW.out⟩
end
section
open Go.RowKit
open CD (OpP BodyP CodeP ae blAt fnAt)
abbrev shG:Nat:=1
def ShT(w:World):Prop:=∀k:Nat,k<14->w.cell? ⟨shG,k*4,none⟩=some (.int .u8 (refW k))/\w.cell? ⟨shG,k*4+1,none⟩=some (.int .u8 (altW k))/\w.cell? ⟨shG,k*4+2,none⟩=some (.bool (decide (CD.Defs k)))/\w.cell? ⟨shG,k*4+3,none⟩=some (.int .i64 (CD.argN k:Nat))
theorem ShT.lt{w:World}(h:ShT w):shG<w.heap.size:=by
 have hc:=(h 0 (by decide)).1
 apply Classical.byContradiction;intro hn
 simp [World.cell?,Array.getElem?_eq_none (Nat.le_of_not_lt hn)] at hc
theorem ShT.kept{A B:World}(h:ShT A)(k:B.heap[shG]?=A.heap[shG]?):ShT B:=fun j hj =>
 ⟨(World.cell?_of_block (w:=A) (a:=⟨shG,j*4,none⟩) k).trans (h j hj).1,(World.cell?_of_block (w:=A) (a:=⟨shG,j*4+1,none⟩) k).trans (h j hj).2.1,(World.cell?_of_block (w:=A) (a:=⟨shG,j*4+2,none⟩) k).trans (h j hj).2.2.1,(World.cell?_of_block (w:=A) (a:=⟨shG,j*4+3,none⟩) k).trans (h j hj).2.2.2⟩
theorem ShT.on{w W:World}(h:ShT w)(hb:Below w.heap.size w W):ShT W:=h.kept (hb.block _ h.lt)
theorem ShT.grown{w W:World}{B:Nat}(h:ShT w)(hg:w.grownBy W (some B))(hB:B≠shG):ShT W:=h.kept (hg.block _ h.lt (fun e=>hB (Option.some.inj e).symm))
theorem jc{w:World}{b:Nat}{t:TypeId}{v0 v1 v2 v3 v4 v5 v6 v7 v8:Value}(h:w.heap[b]?=some (.cells #[v0,v1,v2,v3,v4,v5,v6,v7,v8] t)):w.cell? ⟨b,5,none⟩=some v5:=by
 rw[cell_of_row _ _ 5 _ _ _ h];rfl
theorem jd{w:World}{b:Nat}{t:TypeId}{v0 v1 v2 v3 v4 v5 v6 v7 v8:Value}(h:w.heap[b]?=some (.cells #[v0,v1,v2,v3,v4,v5,v6,v7,v8] t)):w.cell? ⟨b,6,none⟩=some v6:=by
 rw[cell_of_row _ _ 6 _ _ _ h];rfl
set_option maxRecDepth 100000 in
set_option maxHeartbeats 3200000 in
theorem kI{n₀:Nat}(B:Nat)(av fv:Value)(c:CodeP)(q:CD.Cnt)(nb nv nx lf:Int)(p:OpP)(xa:Option Addr)(xc:Nat)(ya:Option Addr)(yc:Nat)(w:World)(h:Ck B w (ckC av fv c.mn0 q nb nv nx lf))(hf:bh n₀ w fv c.fs)(hn:n₀<=w.heap.size)(hfl:c.fs.length<=100)(hs:eA p)(hr:p.k=7->0<=p.r/\p.r<(c.fs.length:Nat))
 (hx:Row n₀ w (.slice xa p.xs.length xc) p.xs) (hy:Row n₀ w (.slice ya p.ys.length yc) p.ys) :
 Calls Tryz.prog 230 #[.pointer (some ⟨B,0,none⟩),shA p.k,opA p xa xc ya yc] w fun e w'=>e=.returned (.bool (CD.tf (CD.aJ c p/\CD.InOk p.xs nv/\CD.InOk p.ys nb)))/\Below w.heap.size w w':=by
 have HS:=zH hs
 obtain⟨z,ez⟩:∃z,z=CD.tf (CD.aJ c p/\CD.InOk p.xs nv/\CD.InOk p.ys nb):=⟨_,rfl⟩
 rw[<-ez]
 have HZ:=zH ez
 clear ez
 obtain⟨w2,ew2⟩:∃w2,w2=(w.alloc (.cells #[.int .u8 (refW p.k),.int .u8 (altW p.k),.bool (decide (CD.Defs p.k)),.int .i64 (CD.argN p.k:Nat)] 304)).alloc (.cells #[.int .u8 p.k,.int .u8 p.o,.int .i64 p.d,.int .i64 p.r,.int .i64 p.a,.slice xa p.xs.length xc,.slice ya p.ys.length yc,.int .i64 p.n,.int .i64 p.t] 56):=⟨_,rfl⟩
 have hb2:Below w.heap.size w w2:=by rw[ew2];exact((Below.refl _ _).alloc (Nat.le_refl _) _).alloc (by simp) _
 have HB2:=zH hb2
 have HCT:=zH (oR B av fv c q nb nv nx lf p xa xc ya yc w2 (h.on hb2) (hf.below (hb2.mono hn)) (Nat.le_trans hn hb2.size) hfl hs hr)
 have HA1:=zH (fun w3 (hb:Below w2.heap.size w2 w3)=>oQ (n₀:=n₀) B 7 _ p.xs nv w3 (by decide) (((h.on hb2).on hb).at 10 rfl) ((hx.below (hb2.mono hn)).below (hb.mono (Nat.le_trans hn hb2.size))) hs.1)
 have HA2:=zH (fun w3 (hb:Below w2.heap.size w2 w3)=>oQ (n₀:=n₀) B 6 _ p.ys nb w3 (by decide) (((h.on hb2).on hb).at 9 rfl) ((hy.below (hb2.mono hn)).below (hb.mono (Nat.le_trans hn hb2.size))) hs.2)
 have hk0:w2.heap[w.heap.size+1]?=some (.cells #[.int .u8 p.k,.int .u8 p.o,.int .i64 p.d,.int .i64 p.r,.int .i64 p.a,.slice xa p.xs.length xc,.slice ya p.ys.length yc,.int .i64 p.n,.int .i64 p.t] 56):=by
  rw[ew2]
  have e:=heap_alloc_new (w.alloc (.cells #[.int .u8 (refW p.k),.int .u8 (altW p.k),.bool (decide (CD.Defs p.k)),.int .i64 (CD.argN p.k:Nat)] 304)) (.cells #[.int .u8 p.k,.int .u8 p.o,.int .i64 p.d,.int .i64 p.r,.int .i64 p.a,.slice xa p.xs.length xc,.slice ya p.ys.length yc,.int .i64 p.n,.int .i64 p.t] 56)
  rw[show (w.alloc (.cells #[.int .u8 (refW p.k),.int .u8 (altW p.k),.bool (decide (CD.Defs p.k)),.int .i64 (CD.argN p.k:Nat)] 304)).heap.size=w.heap.size+1 by simp] at e
  exact e
 have HK:=zH (fun w3 (hb:Below w2.heap.size w2 w3)=>show w3.heap[w.heap.size+1]?=_ from(hb.block _ (Array.getElem?_eq_some_iff.1 hk0).1).trans hk0)
 clear h hf hs hr hx hy hb2 hk0
 cases h1:CD.tf (CD.aJ c p)
 ·have e0:z=false:=by rw[HZ.out];exact CD.bg (fun h=>CD.dk h1 h.1)
  have H1:=zH h1
  clear HZ h1;subst e0
  unfold opA shA
  go_enter Tryz.func230,Tryz.ntmps230
  go_wp2_with (go_at_call 233;rw[<-ew2];refine HCT.out.mono ?_;rintro e w3 ⟨rfl,hb3⟩;rw[H1.out];have HB3:=zH hb3;clear hb3;have hk5:=jc (HK.out w3 HB3.out);have hk6:=jd (HK.out w3 HB3.out))
  go_ret
  exact⟨rfl,HB2.out.trans (HB3.out.mono HB2.out.size)⟩
 ·cases h2:CD.tf (CD.InOk p.xs nv)
  ·have e0:z=false:=by rw[HZ.out];exact CD.bg (fun h=>CD.dk h2 h.2.1)
   have H1:=zH h1
   have H2:=zH h2
   have G1:=zH True.intro
   clear HZ h1 h2;subst e0
   unfold opA shA
   go_enter Tryz.func230,Tryz.ntmps230
   go_wp2_with (first | (go_at_call 233;rw[<-ew2];refine HCT.out.mono ?_;rintro e w3 ⟨rfl,hb3⟩;rw[H1.out];have HB3:=zH hb3;clear hb3;have hk5:=jc (HK.out w3 HB3.out);have hk6:=jd (HK.out w3 HB3.out)) | (clear G1;go_at_call 234;refine(HA1.out w3 HB3.out).mono ?_;rintro e w4 ⟨rfl,e4⟩;rewrite [e4];clear e4;rw[H2.out]))
   go_ret
   exact⟨rfl,HB2.out.trans (HB3.out.mono HB2.out.size)⟩
  ·cases h3:CD.tf (CD.InOk p.ys nb)
   ·have e0:z=false:=by rw[HZ.out];exact CD.bg (fun h=>CD.dk h3 h.2.2)
    have H1:=zH h1
    have H2:=zH h2
    have H3:=zH h3
    have G1:=zH True.intro
    clear HZ h1 h2 h3;subst e0
    unfold opA shA
    go_enter Tryz.func230,Tryz.ntmps230
    go_wp2_with (first | (go_at_call 233;rw[<-ew2];refine HCT.out.mono ?_;rintro e w3 ⟨rfl,hb3⟩;rw[H1.out];have HB3:=zH hb3;clear hb3;have hk5:=jc (HK.out w3 HB3.out);have hk6:=jd (HK.out w3 HB3.out)) | (clear G1;go_at_call 234;refine(HA1.out w3 HB3.out).mono ?_;rintro e w4 ⟨rfl,e4⟩;rewrite [e4];clear e4;rw[H2.out]) | (go_at_call 234;refine(HA2.out w3 HB3.out).mono ?_;rintro e w4 ⟨rfl,e4⟩;rewrite [e4];clear e4;rw[H3.out]))
    go_ret
    exact⟨rfl,HB2.out.trans (HB3.out.mono HB2.out.size)⟩
   ·have e0:z=true:=by rw[HZ.out];exact CD.cA ⟨CD.eP h1,CD.eP h2,CD.eP h3⟩
    have H1:=zH h1
    have H2:=zH h2
    have H3:=zH h3
    have G1:=zH True.intro
    clear HZ h1 h2 h3;subst e0
    unfold opA shA
    go_enter Tryz.func230,Tryz.ntmps230
    go_wp2_with (first | (go_at_call 233;rw[<-ew2];refine HCT.out.mono ?_;rintro e w3 ⟨rfl,hb3⟩;rw[H1.out];have HB3:=zH hb3;clear hb3;have hk5:=jc (HK.out w3 HB3.out);have hk6:=jd (HK.out w3 HB3.out)) | (clear G1;go_at_call 234;refine(HA1.out w3 HB3.out).mono ?_;rintro e w4 ⟨rfl,e4⟩;rewrite [e4];clear e4;rw[H2.out]) | (go_at_call 234;refine(HA2.out w3 HB3.out).mono ?_;rintro e w4 ⟨rfl,e4⟩;rewrite [e4];clear e4;rw[H3.out]))
    go_ret
    exact⟨rfl,HB2.out.trans (HB3.out.mono HB2.out.size)⟩
end
section
open Go.RowKit
open CD (OpP BodyP CodeP ae blAt fnAt)
theorem eB(B:Nat)(j n T:Int)(w:World)(hj:0<=j/\j<8)(hc:w.cell? ⟨B,3+j.toNat,none⟩=some (.int .i64 T)) :
 Calls Tryz.prog 135 #[.pointer (some ⟨B,0,none⟩),.int .u8 j,.int .i64 n] w fun e w'=>e=.returned (.bool (decide (0<=n/\n<T)))/\w'=w:=by
 obtain⟨k,rfl⟩:=Int.eq_ofNat_of_zero_le hj.1
 exact ja B k n T w (by omega) (by simpa using hc)
theorem refW_lt(k:Int):0<=refW k/\refW k<8:=by
 unfold refW
 repeat' split
 all_goals omega
theorem altW_lt(k:Int):0<=altW k/\altW k<8:=by
 unfold altW
 split <;> omega
theorem nB(av fv:Value)(mn0:Int)(q:CD.Cnt)(nb:Nat)(nv nx lf k:Int):(ckC av fv mn0 q nb nv nx lf)[3+(refW k).toNat]?=some (.int .i64 (CD.refN q nb k:Nat)):=by
 unfold refW CD.refN
 repeat' split
 all_goals first | rfl | (exfalso;omega)
theorem ck_alt(av fv:Value)(mn0:Int)(q:CD.Cnt)(nb:Nat)(nv nx lf k:Int):(ckC av fv mn0 q nb nv nx lf)[3+(altW k).toNat]?=some (.int .i64 (CD.altN nb k:Nat)):=by
 unfold altW CD.altN
 split <;> rfl
theorem box9{w:World}{b:Nat}{t:TypeId}{v0 v1 v2 v3 v4 v5 v6 v7 v8:Value}(h:w.heap[b]?=some (.cells #[v0,v1,v2,v3,v4,v5,v6,v7,v8] t)) :
 w.cell? ⟨b,0,none⟩=some v0/\w.cell? ⟨b,1,none⟩=some v1/\w.cell? ⟨b,2,none⟩=some v2/\w.cell? ⟨b,3,none⟩=some v3/\w.cell? ⟨b,4,none⟩=some v4/\w.cell? ⟨b,5,none⟩=some v5/\w.cell? ⟨b,6,none⟩=some v6/\w.cell? ⟨b,7,none⟩=some v7/\w.cell? ⟨b,8,none⟩=some v8 :=
 ⟨cell_of_row _ _ 0 _ _ _ h,cell_of_row _ _ 1 _ _ _ h,cell_of_row _ _ 2 _ _ _ h,cell_of_row _ _ 3 _ _ _ h,cell_of_row _ _ 4 _ _ _ h,cell_of_row _ _ 5 _ _ _ h,cell_of_row _ _ 6 _ _ _ h,cell_of_row _ _ 7 _ _ _ h,cell_of_row _ _ 8 _ _ _ h⟩
theorem box4{w:World}{b:Nat}{t:TypeId}{v0 v1 v2 v3:Value}(h:w.heap[b]?=some (.cells #[v0,v1,v2,v3] t)) :
 w.cell? ⟨b,0,none⟩=some v0/\w.cell? ⟨b,1,none⟩=some v1/\w.cell? ⟨b,2,none⟩=some v2/\w.cell? ⟨b,3,none⟩=some v3 :=
 ⟨cell_of_row _ _ 0 _ _ _ h,cell_of_row _ _ 1 _ _ _ h,cell_of_row _ _ 2 _ _ _ h,cell_of_row _ _ 3 _ _ _ h⟩
def opO(p:OpP)(xa:Option Addr)(xc:Nat)(ya:Option Addr)(yc:Nat):Obj :=
 .cells #[.int .u8 p.k,.int .u8 p.o,.int .i64 p.d,.int .i64 p.r,.int .i64 p.a,.slice xa p.xs.length xc,.slice ya p.ys.length yc,.int .i64 p.n,.int .i64 p.t] 56
def shO(k:Int):Obj:=.cells #[.int .u8 (refW k),.int .u8 (altW k),.bool (decide (CD.Defs k)),.int .i64 (CD.argN k:Nat)] 304
set_option maxRecDepth 100000 in
set_option maxHeartbeats 12800000 in
theorem nop_any{n₀:Nat}(B:Nat)(av fv:Value)(c:CodeP)(b:BodyP)(q:CD.Cnt)(nx lf:Int)(p:OpP)(xa:Option Addr)(xc:Nat)(ya:Option Addr)(yc:Nat)(w:World)(h:Ck B w (ckC av fv c.mn0 q b.bs.length b.va nx lf))(hf:bh n₀ w fv c.fs)(hn:n₀<=B)(hfl:c.fs.length<=100)(hqf:q.fn=c.fs.length)(hs:eA p)(hnx:0<=nx/\nx<=1048576)(hT:ShT w)(hBT:B≠shG)
 (hx:Row n₀ w (.slice xa p.xs.length xc) p.xs) (hy:Row n₀ w (.slice ya p.ys.length yc) p.ys) :
 Calls Tryz.prog 219 #[.pointer (some ⟨B,0,none⟩),opA p xa xc ya yc] w fun e w'=>e=.returned (.bool (CD.tf (CD.OpOk q c b p nx)))/\w.grownBy w' (some B)/\(CD.OpOk q c b p nx->Ck B w' (ckC av fv c.mn0 q b.bs.length b.va (nextI p.k nx) lf)):=by
 obtain⟨z,ez⟩:∃z,z=CD.tf (CD.OpOk q c b p nx):=⟨_,rfl⟩
 rw[<-ez]
 have HZ:=zH ez
 clear ez
 have hBw:=h.lt
 obtain⟨w1,ew1⟩:∃w1,w1=w.alloc (opO p xa xc ya yc):=⟨_,rfl⟩
 have hb1:Below w.heap.size w w1:=by rw[ew1];exact(Below.refl _ _).alloc (Nat.le_refl _) _
 have HB1:=zH hb1
 rcases Decidable.em (1<=p.k) with k1 | k1
 ·rcases Decidable.em (p.k<=13) with k2 | k2
  ·obtain⟨w2,ew2⟩:∃w2,w2=(w.alloc (opO p xa xc ya yc)).alloc (shO p.k):=⟨_,rfl⟩
   have hb2:Below w.heap.size w w2:=by rw[ew2];exact((Below.refl _ _).alloc (Nat.le_refl _) _).alloc (by simp) _
   have hz2:w2.heap.size=w.heap.size+2:=by rw[ew2];simp
   have hk9:w2.heap[w.heap.size]?=some (opO p xa xc ya yc):=by
    rw[ew2,Below.heap_alloc _ _ _ (by simp)];exact heap_alloc_new _ _
   have hk4:w2.heap[w.heap.size+1]?=some (shO p.k):=by
    have e:=heap_alloc_new (w.alloc (opO p xa xc ya yc)) (shO p.k)
    rw[show (w.alloc (opO p xa xc ya yc)).heap.size=w.heap.size+1 by simp] at e
    rw[ew2];exact e
   have HK9:=zH (fun w3 (hg:w2.grownBy w3 (some B))=>box9 (show w3.heap[w.heap.size]?=some (opO p xa xc ya yc) from(hg.block _ (by omega) (fun e=>by cases e;omega)).trans hk9))
   have HK4:=zH (fun w3 (hg:w2.grownBy w3 (some B))=>box4 (show w3.heap[w.heap.size+1]?=some (shO p.k) from(hg.block _ (by omega) (fun e=>by cases e;omega)).trans hk4))
   have HC2:=zH (h.on hb2)
   have HF2:=zH (hf.below (hb2.mono (by omega)))
   have HX2:=zH (hx.below (hb2.mono (by omega)))
   have HY2:=zH (hy.below (hb2.mono (by omega)))
   have HG2:=zH (aN (some B) hb2)
   have HN:=zH (show n₀<=w2.heap.size by omega)
   have HBZ:=zH hBw
   have hsh:=hT p.k.toNat (by omega)
   rw[show ((p.k.toNat:Nat):Int)=p.k by omega] at hsh
   have hs0:w1.cell? ⟨shG,p.k.toNat*4,none⟩=some (.int .u8 (refW p.k)):=(hb1.cell (p:=⟨shG,p.k.toNat*4,none⟩) hT.lt).trans hsh.1
   have hs1:w1.cell? ⟨shG,p.k.toNat*4+1,none⟩=some (.int .u8 (altW p.k)):=(hb1.cell (p:=⟨shG,p.k.toNat*4+1,none⟩) hT.lt).trans hsh.2.1
   have hs2:w1.cell? ⟨shG,p.k.toNat*4+2,none⟩=some (.bool (decide (CD.Defs p.k))):=(hb1.cell (p:=⟨shG,p.k.toNat*4+2,none⟩) hT.lt).trans hsh.2.2.1
   have hs3:w1.cell? ⟨shG,p.k.toNat*4+3,none⟩=some (.int .i64 (CD.argN p.k:Nat)):=(hb1.cell (p:=⟨shG,p.k.toNat*4+3,none⟩) hT.lt).trans hsh.2.2.2
   rw[ew1] at hs0 hs1 hs2 hs3
   unfold opO at hs0 hs1 hs2 hs3
   have HR:=zH (fun(hr:0<=p.r/\p.r<(CD.refN q b.bs.length p.k:Nat)) (e7:p.k=7)=>show 0<=p.r/\p.r<(c.fs.length:Nat) by
    rw[e7] at hr
    have e:CD.refN q b.bs.length 7=q.fn:=rfl
    rw[e,hqf] at hr
    exact hr)
   have i1:(1:Int)<=p.k/\p.k<=13:=⟨k1,k2⟩
   clear hsh hT h hf hx hy hb2 hk9 hk4 hz2 hb1 ew1 HB1
   have HRW:=zH (refW_lt p.k)
   have HAW:=zH (altW_lt p.k)
   have HSM:=zH hs
   have HNX:=zH hnx
   have HFL:=zH hfl
   clear hs hnx hfl hqf
   cases h1:CD.tf (CD.fJ p)
   ·have e0:z=false:=by rw[HZ.out];exact CD.bg (fun h=>CD.dk h1 h.2.1)
    have H1:=zH h1
    have G1:=zH True.intro
    have G2:=zH True.intro
    have HNO:=zH (show ¬CD.OpOk q c b p nx from fun h=>CD.dk h1 h.2.1)
    clear HZ h1
    subst e0
    unfold opA
    go_enter Tryz.func219,Tryz.ntmps219
    go_wp2_with (first | (go_at_call 228;unfold opO shO at ew2;rw[<-ew2];refine(dV p xa xc ya yc w2).mono ?_;rintro e w3 ⟨rfl,hb⟩;rw[H1.out];have HG3:=zH (aN (some B) hb);have HC3:=zH (HC2.out.on hb);clear hb hs0 hs1 hs2 hs3;obtain⟨hc0,hc1,hc2,hc3,hc4,hc5,hc6,hc7,hc8⟩:=HK9.out w3 HG3.out;obtain⟨hd0,hd1,hd2,hd3⟩:=HK4.out w3 HG3.out))
    go_ret
    exact⟨rfl,aA HG2.out HG3.out,fun h=>absurd h HNO.out⟩
   ·skip
    cases h2:decide (if CD.Defs p.k then p.d=nx else p.d = -1)
    ·have e0:z=false:=by rw[HZ.out];exact CD.bg (fun h=>of_decide_eq_false h2 h.2.2.1)
     have H1:=zH h1
     have H2:=zH h2
     have G1:=zH True.intro
     have G2:=zH True.intro
     have HNO:=zH (show ¬CD.OpOk q c b p nx from fun h=>of_decide_eq_false h2 h.2.2.1)
     clear HZ h1 h2
     subst e0
     unfold opA
     go_enter Tryz.func219,Tryz.ntmps219
     go_wp2_with (first | (go_at_call 228;unfold opO shO at ew2;rw[<-ew2];refine(dV p xa xc ya yc w2).mono ?_;rintro e w3 ⟨rfl,hb⟩;rw[H1.out];have HG3:=zH (aN (some B) hb);have HC3:=zH (HC2.out.on hb);clear hb hs0 hs1 hs2 hs3;obtain⟨hc0,hc1,hc2,hc3,hc4,hc5,hc6,hc7,hc8⟩:=HK9.out w3 HG3.out;obtain⟨hd0,hd1,hd2,hd3⟩:=HK4.out w3 HG3.out) | (go_at_call 229;refine(gx B av fv c.mn0 q b.bs.length b.va nx lf p.k p.d w3 HC3.out HNX.out).mono ?_;rintro e w4 ⟨rfl,hg,hck⟩;rw[H2.out];have HG4:=zH (aA HG3.out hg);have HC4:=zH hck;clear hg hck hc0 hc1 hc2 hc3 hc4 hc5 hc6 hc7 hc8 hd0 hd1 hd2 hd3;obtain⟨hc0,hc1,hc2,hc3,hc4,hc5,hc6,hc7,hc8⟩:=HK9.out w4 HG4.out;obtain⟨hd0,hd1,hd2,hd3⟩:=HK4.out w4 HG4.out))
     go_ret
     exact⟨rfl,aA HG2.out HG4.out,fun h=>absurd h HNO.out⟩
    ·skip
     cases h3:decide (0<=p.r/\p.r<(CD.refN q b.bs.length p.k:Nat))
     ·have e0:z=false:=by rw[HZ.out];exact CD.bg (fun h=>of_decide_eq_false h3 h.2.2.2.1)
      have H1:=zH h1
      have H2:=zH h2
      have H3:=zH h3
      have G1:=zH True.intro
      have G2:=zH True.intro
      have HNO:=zH (show ¬CD.OpOk q c b p nx from fun h=>of_decide_eq_false h3 h.2.2.2.1)
      clear HZ h1 h2 h3
      subst e0
      unfold opA
      go_enter Tryz.func219,Tryz.ntmps219
      go_wp2_with (first | (go_at_call 228;unfold opO shO at ew2;rw[<-ew2];refine(dV p xa xc ya yc w2).mono ?_;rintro e w3 ⟨rfl,hb⟩;rw[H1.out];have HG3:=zH (aN (some B) hb);have HC3:=zH (HC2.out.on hb);clear hb hs0 hs1 hs2 hs3;obtain⟨hc0,hc1,hc2,hc3,hc4,hc5,hc6,hc7,hc8⟩:=HK9.out w3 HG3.out;obtain⟨hd0,hd1,hd2,hd3⟩:=HK4.out w3 HG3.out) | (go_at_call 229;refine(gx B av fv c.mn0 q b.bs.length b.va nx lf p.k p.d w3 HC3.out HNX.out).mono ?_;rintro e w4 ⟨rfl,hg,hck⟩;rw[H2.out];have HG4:=zH (aA HG3.out hg);have HC4:=zH hck;clear hg hck hc0 hc1 hc2 hc3 hc4 hc5 hc6 hc7 hc8 hd0 hd1 hd2 hd3;obtain⟨hc0,hc1,hc2,hc3,hc4,hc5,hc6,hc7,hc8⟩:=HK9.out w4 HG4.out;obtain⟨hd0,hd1,hd2,hd3⟩:=HK4.out w4 HG4.out) | (clear G1;go_at_call 135;refine(eB B (refW p.k) p.r (CD.refN q b.bs.length p.k:Nat) w4 HRW.out (HC4.out.at _ (nB av fv c.mn0 q b.bs.length b.va _ lf p.k))).mono ?_;rintro e w5 ⟨rfl,e5⟩;rewrite [e5];clear e5;rw[H3.out]))
      go_ret
      exact⟨rfl,aA HG2.out HG4.out,fun h=>absurd h HNO.out⟩
     ·skip
      cases h4:decide (0<=p.a/\p.a<(CD.altN b.bs.length p.k:Nat))
      ·have e0:z=false:=by rw[HZ.out];exact CD.bg (fun h=>of_decide_eq_false h4 h.2.2.2.2.1)
       have H1:=zH h1
       have H2:=zH h2
       have H3:=zH h3
       have H4:=zH h4
       have G1:=zH True.intro
       have G2:=zH True.intro
       have HNO:=zH (show ¬CD.OpOk q c b p nx from fun h=>of_decide_eq_false h4 h.2.2.2.2.1)
       clear HZ h1 h2 h3 h4
       subst e0
       unfold opA
       go_enter Tryz.func219,Tryz.ntmps219
       go_wp2_with (first | (go_at_call 228;unfold opO shO at ew2;rw[<-ew2];refine(dV p xa xc ya yc w2).mono ?_;rintro e w3 ⟨rfl,hb⟩;rw[H1.out];have HG3:=zH (aN (some B) hb);have HC3:=zH (HC2.out.on hb);clear hb hs0 hs1 hs2 hs3;obtain⟨hc0,hc1,hc2,hc3,hc4,hc5,hc6,hc7,hc8⟩:=HK9.out w3 HG3.out;obtain⟨hd0,hd1,hd2,hd3⟩:=HK4.out w3 HG3.out) | (go_at_call 229;refine(gx B av fv c.mn0 q b.bs.length b.va nx lf p.k p.d w3 HC3.out HNX.out).mono ?_;rintro e w4 ⟨rfl,hg,hck⟩;rw[H2.out];have HG4:=zH (aA HG3.out hg);have HC4:=zH hck;clear hg hck hc0 hc1 hc2 hc3 hc4 hc5 hc6 hc7 hc8 hd0 hd1 hd2 hd3;obtain⟨hc0,hc1,hc2,hc3,hc4,hc5,hc6,hc7,hc8⟩:=HK9.out w4 HG4.out;obtain⟨hd0,hd1,hd2,hd3⟩:=HK4.out w4 HG4.out) | (clear G1;go_at_call 135;refine(eB B (refW p.k) p.r (CD.refN q b.bs.length p.k:Nat) w4 HRW.out (HC4.out.at _ (nB av fv c.mn0 q b.bs.length b.va _ lf p.k))).mono ?_;rintro e w5 ⟨rfl,e5⟩;rewrite [e5];clear e5;rw[H3.out]) | (clear G2;go_at_call 135;refine(eB B (altW p.k) p.a (CD.altN b.bs.length p.k:Nat) w4 HAW.out (HC4.out.at _ (ck_alt av fv c.mn0 q b.bs.length b.va _ lf p.k))).mono ?_;rintro e w5 ⟨rfl,e5⟩;rewrite [e5];clear e5;rw[H4.out]))
       go_ret
       exact⟨rfl,aA HG2.out HG4.out,fun h=>absurd h HNO.out⟩
      ·skip
       cases h5:CD.tf (CD.aJ c p/\CD.InOk p.xs b.va/\CD.InOk p.ys b.bs.length)
       ·have e0:z=false:=by rw[HZ.out];exact CD.bg (fun h=>CD.dk h5 h.2.2.2.2.2)
        have H1:=zH h1
        have H2:=zH h2
        have H3:=zH h3
        have H4:=zH h4
        have H5:=zH h5
        have G1:=zH True.intro
        have G2:=zH True.intro
        have HNO:=zH (show ¬CD.OpOk q c b p nx from fun h=>CD.dk h5 h.2.2.2.2.2)
        clear HZ h1 h2 h3 h4 h5
        subst e0
        unfold opA
        go_enter Tryz.func219,Tryz.ntmps219
        go_wp2_with (first | (go_at_call 228;unfold opO shO at ew2;rw[<-ew2];refine(dV p xa xc ya yc w2).mono ?_;rintro e w3 ⟨rfl,hb⟩;rw[H1.out];have HG3:=zH (aN (some B) hb);have HC3:=zH (HC2.out.on hb);clear hb hs0 hs1 hs2 hs3;obtain⟨hc0,hc1,hc2,hc3,hc4,hc5,hc6,hc7,hc8⟩:=HK9.out w3 HG3.out;obtain⟨hd0,hd1,hd2,hd3⟩:=HK4.out w3 HG3.out) | (go_at_call 229;refine(gx B av fv c.mn0 q b.bs.length b.va nx lf p.k p.d w3 HC3.out HNX.out).mono ?_;rintro e w4 ⟨rfl,hg,hck⟩;rw[H2.out];have HG4:=zH (aA HG3.out hg);have HC4:=zH hck;clear hg hck hc0 hc1 hc2 hc3 hc4 hc5 hc6 hc7 hc8 hd0 hd1 hd2 hd3;obtain⟨hc0,hc1,hc2,hc3,hc4,hc5,hc6,hc7,hc8⟩:=HK9.out w4 HG4.out;obtain⟨hd0,hd1,hd2,hd3⟩:=HK4.out w4 HG4.out) | (clear G1;go_at_call 135;refine(eB B (refW p.k) p.r (CD.refN q b.bs.length p.k:Nat) w4 HRW.out (HC4.out.at _ (nB av fv c.mn0 q b.bs.length b.va _ lf p.k))).mono ?_;rintro e w5 ⟨rfl,e5⟩;rewrite [e5];clear e5;rw[H3.out]) | (clear G2;go_at_call 135;refine(eB B (altW p.k) p.a (CD.altN b.bs.length p.k:Nat) w4 HAW.out (HC4.out.at _ (ck_alt av fv c.mn0 q b.bs.length b.va _ lf p.k))).mono ?_;rintro e w5 ⟨rfl,e5⟩;rewrite [e5];clear e5;rw[H4.out]) | (go_at_call 230;refine(kI (n₀:=n₀) B av fv c q b.bs.length b.va _ lf p xa xc ya yc w4 HC4.out (HF2.out.below (aI HG4.out hn HN.out)) (Nat.le_trans HN.out HG4.out.size) HFL.out HSM.out (HR.out (of_decide_eq_true H3.out)) (HX2.out.below (aI HG4.out hn HN.out)) (HY2.out.below (aI HG4.out hn HN.out))).mono ?_;rintro e w6 ⟨rfl,hb6⟩;rw[H5.out];have HG6:=zH (aA HG4.out (aN (some B) hb6));have HC6:=zH (HC4.out.on hb6);clear hb6))
        go_ret
        exact⟨rfl,aA HG2.out HG6.out,fun h=>absurd h HNO.out⟩
       ·skip
        have e0:z=true:=by rw[HZ.out];exact CD.cA ⟨i1,CD.eP h1,of_decide_eq_true h2,of_decide_eq_true h3,of_decide_eq_true h4,CD.eP h5⟩
        have H1:=zH h1
        have H2:=zH h2
        have H3:=zH h3
        have H4:=zH h4
        have H5:=zH h5
        have G1:=zH True.intro
        have G2:=zH True.intro
        clear HZ h1 h2 h3 h4 h5
        subst e0
        unfold opA
        go_enter Tryz.func219,Tryz.ntmps219
        go_wp2_with (first | (go_at_call 228;unfold opO shO at ew2;rw[<-ew2];refine(dV p xa xc ya yc w2).mono ?_;rintro e w3 ⟨rfl,hb⟩;rw[H1.out];have HG3:=zH (aN (some B) hb);have HC3:=zH (HC2.out.on hb);clear hb hs0 hs1 hs2 hs3;obtain⟨hc0,hc1,hc2,hc3,hc4,hc5,hc6,hc7,hc8⟩:=HK9.out w3 HG3.out;obtain⟨hd0,hd1,hd2,hd3⟩:=HK4.out w3 HG3.out) | (go_at_call 229;refine(gx B av fv c.mn0 q b.bs.length b.va nx lf p.k p.d w3 HC3.out HNX.out).mono ?_;rintro e w4 ⟨rfl,hg,hck⟩;rw[H2.out];have HG4:=zH (aA HG3.out hg);have HC4:=zH hck;clear hg hck hc0 hc1 hc2 hc3 hc4 hc5 hc6 hc7 hc8 hd0 hd1 hd2 hd3;obtain⟨hc0,hc1,hc2,hc3,hc4,hc5,hc6,hc7,hc8⟩:=HK9.out w4 HG4.out;obtain⟨hd0,hd1,hd2,hd3⟩:=HK4.out w4 HG4.out) | (clear G1;go_at_call 135;refine(eB B (refW p.k) p.r (CD.refN q b.bs.length p.k:Nat) w4 HRW.out (HC4.out.at _ (nB av fv c.mn0 q b.bs.length b.va _ lf p.k))).mono ?_;rintro e w5 ⟨rfl,e5⟩;rewrite [e5];clear e5;rw[H3.out]) | (clear G2;go_at_call 135;refine(eB B (altW p.k) p.a (CD.altN b.bs.length p.k:Nat) w4 HAW.out (HC4.out.at _ (ck_alt av fv c.mn0 q b.bs.length b.va _ lf p.k))).mono ?_;rintro e w5 ⟨rfl,e5⟩;rewrite [e5];clear e5;rw[H4.out]) | (go_at_call 230;refine(kI (n₀:=n₀) B av fv c q b.bs.length b.va _ lf p xa xc ya yc w4 HC4.out (HF2.out.below (aI HG4.out hn HN.out)) (Nat.le_trans HN.out HG4.out.size) HFL.out HSM.out (HR.out (of_decide_eq_true H3.out)) (HX2.out.below (aI HG4.out hn HN.out)) (HY2.out.below (aI HG4.out hn HN.out))).mono ?_;rintro e w6 ⟨rfl,hb6⟩;rw[H5.out];have HG6:=zH (aA HG4.out (aN (some B) hb6));have HC6:=zH (HC4.out.on hb6);clear hb6))
        go_ret
        exact⟨rfl,aA HG2.out HG6.out,fun _=>HC6.out⟩
  ·have e0:z=false:=by rw[HZ.out];exact CD.bg (fun h=>absurd h.1.2 k2)
   have HNO:=zH (show ¬CD.OpOk q c b p nx from fun h=>absurd h.1.2 k2)
   clear HZ
   subst e0
   unfold opA
   go_enter Tryz.func219,Tryz.ntmps219
   go_wp2_with fail
   go_ret
   exact⟨rfl,aN _ ((Below.refl _ _).alloc (Nat.le_refl _) _),fun h=>absurd h HNO.out⟩
 ·have e0:z=false:=by rw[HZ.out];exact CD.bg (fun h=>absurd h.1.1 k1)
  have HNO:=zH (show ¬CD.OpOk q c b p nx from fun h=>absurd h.1.1 k1)
  clear HZ
  subst e0
  unfold opA
  go_enter Tryz.func219,Tryz.ntmps219
  go_wp2_with fail
  go_ret
  exact⟨rfl,aN _ ((Below.refl _ _).alloc (Nat.le_refl _) _),fun h=>absurd h HNO.out⟩
end
section
open Go.RowKit
open CD (OpP BodyP CodeP ae blAt fnAt)
theorem stand_iff(l:List OpP)(i:Nat)(hi:i<l.length):jG (ae l i).k (if i=0 then 3 else (ae l (i-1)).k) (decide (i+1=l.length))=0↔CD.iE l i:=by
 unfold jG CD.iE
 by_cases h1:CD.Ends (ae l i).k <;> by_cases h2:i+1=l.length <;> simp only[h1,h2,decide_true,decide_false,bne_self_eq_false,if_false,if_true,Bool.false_eq_true]
 ·by_cases h0:i=0
  ·simp [h0]
  ·simp only[if_neg h0]
   split
   ·rename_i h;simp [h.1,h.2,h0]
   ·rename_i h;simp [h0];intro e;exact Classical.byContradiction fun e2=>h ⟨e,e2⟩
 ·simp
 ·simp
 ·by_cases h0:i=0
  ·simp [h0]
  ·simp only[if_neg h0]
   split
   ·rename_i h;simp [h.1,h.2,h0]
   ·rename_i h;simp [h0];intro e;exact Classical.byContradiction fun e2=>h ⟨e,e2⟩
theorem next_cnt{l:List OpP}{i:Nat}(hi:i<l.length)(nx:Int):nextI (ae l i).k (nx+CD.cnt l i)=nx+CD.cnt l (i+1):=by
 unfold nextI
 rw[CD.gu hi]
 split
 ·simp;omega
 ·simp
theorem mj{n₀:Nat}{W:World}{a:Option Addr}{n cap:Nat}{l:List OpP}(h:OpsF n₀ W (.slice a n cap) l){i:Nat}(hi:i<l.length) :
 ∃blk off xa xc ya yc,a=some ⟨blk,off,none⟩/\blk<n₀/\(W.cell? ⟨blk,off+i*9,none⟩=some (.int .u8 (ae l i).k)/\W.cell? ⟨blk,off+i*9+1,none⟩=some (.int .u8 (ae l i).o)/\W.cell? ⟨blk,off+i*9+2,none⟩=some (.int .i64 (ae l i).d)/\W.cell? ⟨blk,off+i*9+3,none⟩=some (.int .i64 (ae l i).r)/\W.cell? ⟨blk,off+i*9+4,none⟩=some (.int .i64 (ae l i).a) /\
  W.cell? ⟨blk,off+i*9+5,none⟩=some (.slice xa (ae l i).xs.length xc)/\W.cell? ⟨blk,off+i*9+6,none⟩=some (.slice ya (ae l i).ys.length yc)/\W.cell? ⟨blk,off+i*9+7,none⟩=some (.int .i64 (ae l i).n)/\W.cell? ⟨blk,off+i*9+8,none⟩=some (.int .i64 (ae l i).t)) /\
  Row n₀ W (.slice xa (ae l i).xs.length xc) (ae l i).xs/\Row n₀ W (.slice ya (ae l i).ys.length yc) (ae l i).ys:=by
 obtain⟨blk,off,xa,xc,ya,yc,e,hb,hc,r1,r2⟩:=h.at hi
 exact⟨blk,off,xa,xc,ya,yc,e,hb,⟨hc 0 _ rfl,hc 1 _ rfl,hc 2 _ rfl,hc 3 _ rfl,hc 4 _ rfl,hc 5 _ rfl,hc 6 _ rfl,hc 7 _ rfl,hc 8 _ rfl⟩,r1,r2⟩
set_option maxRecDepth 100000 in
set_option maxHeartbeats 12800000 in
theorem qH{n₀:Nat}(B:Nat)(av fv:Value)(c:CodeP)(b:BodyP)(q:CD.Cnt)(nx lf:Int)(v:Value)(l:List OpP)(w:World)(h:Ck B w (ckC av fv c.mn0 q b.bs.length b.va nx lf))(hf:bh n₀ w fv c.fs)(hn:n₀<=B)(hfl:c.fs.length<=100)(hqf:q.fn=c.fs.length)(hl:l.length<=300)(hs:∀j,j<l.length->eA (ae l j))(hnx:0<=nx/\nx<=100000)(hlf:(l.length:Int)<=lf/\lf<=4096)(hT:ShT w)(hBT:B≠shG)
 (hv:OpsF n₀ w v l) :
 Calls Tryz.prog 180 #[.pointer (some ⟨B,0,none⟩),v] w fun e w'=>e=.returned (.bool (CD.tf (CD.dz q c b l nx)))/\w.grownBy w' (some B)/\(CD.dz q c b l nx->Ck B w' (ckC av fv c.mn0 q b.bs.length b.va (nx+CD.cnt l l.length) (lf-l.length))):=by
 obtain⟨a,cap,rfl⟩:=hv.form
 have hBw:=h.lt
 by_cases h0:l.length=0
 ·have hno:¬CD.dz q c b l nx:=fun h=>absurd h.1 (by omega)
  rw[CD.bg hno]
  have HNO:=zH hno
  clear hno
  have e0:(l.length:Int)<1:=by omega
  clear h0 hs hl hlf
  go_enter Tryz.func180,Tryz.ntmps180
  go_wp2_with fail
  go_ret
  exact⟨rfl,aN _ (Below.refl _ _),fun h=>absurd h HNO.out⟩
 ·obtain⟨z,ez⟩:∃z,z=CD.tf (CD.dz q c b l nx):=⟨_,rfl⟩
  rw[<-ez]
  have HZ:=zH ez
  clear ez
  have HL0:=zH (show 1<=l.length by omega)
  have i1:¬((l.length:Int)<1):=by omega
  have i2:¬(lf<(l.length:Int)):=by omega
  have i3:(l.length:Int)<=300:=by omega
  have HV:=zH hv
  have HF:=zH hf
  have HS:=zH hs
  have HT:=zH hT
  have HFL:=zH hfl
  have HQF:=zH hqf
  have hc12:w.cell? ⟨B,12,none⟩=some (.int .i64 lf):=h.at 12 rfl
  have hf12:w.frozen? ⟨B,12,none⟩=false:=h.free 12
  have HC0:=zH (show Ck B (w.setCell ⟨B,12,none⟩ (.int .i64 (lf-l.length))) (ckC av fv c.mn0 q b.bs.length b.va nx (lf-l.length)) from h.set 12 (.int .i64 (lf-l.length)))
  have HG0:=zH (fp (aN (some B) (Below.refl w.heap.size w)) 12 (.int .i64 (lf-l.length)))
  have i4:lf-(l.length:Int)<=4096/\0<=lf-(l.length:Int):=by omega
  clear h0 hs hl hv hf hT hfl hqf h
  go_enter Tryz.func180,Tryz.ntmps180
  go_wp2_with fail
  generalize w.setCell ⟨B,12,none⟩ (.int .i64 (lf-l.length))=w0 at HC0 HG0 ⊢
  go_loopw [5,31] (fun ah k wr=>∃i:Nat,i<=l.length/\k=.int .i64 (i:Int)/\ah=.int .u8 (if i=0 then 3 else (ae l (i-1)).k)/\RowKit.Hid ((∀j,j<i->CD.OpOk q c b (ae l j) (nx+CD.cnt l j)/\CD.iE l j)/\w.grownBy wr (some B)/\Ck B wr (ckC av fv c.mn0 q b.bs.length b.va (nx+CD.cnt l i) (lf-l.length)))) (fun _ k _=>l.length-(intOf k).toNat)
  case atStart=>exact⟨0,Nat.zero_le _,rfl,rfl,zH ⟨fun j hj=>absurd hj (Nat.not_lt_zero _),HG0.out,by rw[CD.ew];simpa using HC0.out⟩⟩
  case round =>
   clear HC0 HG0 hc12 hf12
   obtain⟨w4,rfl⟩:∃w4,w4=wr:=⟨_,rfl⟩
   obtain⟨i,hi,rfl,rfl,HI⟩:=hrel
   by_cases hlt:i<l.length
   ·obtain⟨blk,off,xa,xc,ya,yc,ea,hblk,hcs,r1,r2⟩:=mj HV.out hlt
    subst ea
    have HBN:=zH (show n₀<=w.heap.size by omega)
    have HB4:=zH (aI HI.out.2.1 hn HBN.out)
    have HLT:=zH hlt
    obtain⟨p,ep⟩:∃p,p=ae l i:=⟨_,rfl⟩
    have HP:=zH ep
    rw[<-ep] at hcs r1 r2
    have HSP:=zH (show eA p by rw[ep];exact HS.out i hlt)
    have hx0:=(HB4.out.cell (p:=⟨blk,off+i*9,none⟩) hblk).trans hcs.1
    have hx1:=(HB4.out.cell (p:=⟨blk,off+i*9+1,none⟩) hblk).trans hcs.2.1
    have hx2:=(HB4.out.cell (p:=⟨blk,off+i*9+2,none⟩) hblk).trans hcs.2.2.1
    have hx3:=(HB4.out.cell (p:=⟨blk,off+i*9+3,none⟩) hblk).trans hcs.2.2.2.1
    have hx4:=(HB4.out.cell (p:=⟨blk,off+i*9+4,none⟩) hblk).trans hcs.2.2.2.2.1
    have hx5:=(HB4.out.cell (p:=⟨blk,off+i*9+5,none⟩) hblk).trans hcs.2.2.2.2.2.1
    have hx6:=(HB4.out.cell (p:=⟨blk,off+i*9+6,none⟩) hblk).trans hcs.2.2.2.2.2.2.1
    have hx7:=(HB4.out.cell (p:=⟨blk,off+i*9+7,none⟩) hblk).trans hcs.2.2.2.2.2.2.2.1
    have hx8:=(HB4.out.cell (p:=⟨blk,off+i*9+8,none⟩) hblk).trans hcs.2.2.2.2.2.2.2.2
    have HR1:=zH r1
    have HR2:=zH r2
    have i5:(0:Int)<=i/\(i:Int)<l.length:=by omega
    obtain⟨ah,eah⟩:∃ah:Int,ah=(if i=0 then 3 else (ae l (i-1)).k):=⟨_,rfl⟩
    rw[<-eah]
    obtain⟨dd,edd⟩:∃dd,dd=decide (i+1=l.length):=⟨_,rfl⟩
    have hdd:((i:Int) == (l.length:Int)-1)=dd:=by
     rw[edd]
     by_cases e:i+1=l.length
     ·rw[decide_eq_true e];simp;omega
     ·rw[decide_eq_false e];simp;omega
    obtain⟨st,est⟩:∃st,st=jG p.k ah dd:=⟨_,rfl⟩
    have HST:=zH est
    have HSI:=zH (show st=0↔CD.iE l i by rw[est,ep,eah,edd];exact stand_iff l i hlt)
    obtain⟨w5,ew5⟩:∃w5,w5=w4.alloc (opO p xa xc ya yc):=⟨_,rfl⟩
    have HB5:=zH (show Below w4.heap.size w4 w5 by rw[ew5];exact(Below.refl _ _).alloc (Nat.le_refl _) _)
    have HK9:=zH (show w5.heap[w4.heap.size]?=some (opO p xa xc ya yc) by rw[ew5];exact heap_alloc_new _ _)
    have HG5:=zH (aA HI.out.2.1 (aN (some B) HB5.out))
    unfold opO at ew5
    clear est eah edd ep hcs r1 r2 hlt
    cases hs0:(st != 0)
    ·have HSY:=zH (show CD.iE l i from HSI.out.1 (by simpa using hs0))
     have HNX:=zH (show 0<=nx+CD.cnt l i/\nx+(CD.cnt l i:Int)<=1048576 by have:=CD.cnt_len l i;omega)
     have HBX:=zH (show B≠w4.heap.size by have:=HI.out.2.2.lt;omega)
     cases hop:CD.tf (CD.OpOk q c b p (nx+CD.cnt l i))
     ·have HOP:=zH hop
      have HNO:=zH (show ¬CD.dz q c b l nx from fun h=>CD.dk hop (by rw[HP.out];exact(h.2 i HLT.out).1))
      have e1:z=false:=by rw[HZ.out];exact CD.bg HNO.out
      clear hop hs0
      subst e1
      have hs0:(st != 0)=false:=by simpa using HSI.out.2 HSY.out
      go_wp2_with (first | (go_at_call 218;refine(gw p.k ah dd _).mono ?_;rintro e w6 ⟨rfl,e6⟩;rewrite [e6];clear e6;rw[<-HST.out]) | (go_at_call 219;rw[<-ew5];refine(nop_any (n₀:=n₀) B av fv c b q (nx+CD.cnt l i) (lf-l.length) p xa xc ya yc w5 (HI.out.2.2.on HB5.out) (HF.out.below (aI HG5.out hn HBN.out)) hn HFL.out HQF.out HSP.out HNX.out (HT.out.grown HG5.out hBT) hBT (HR1.out.below (aI HG5.out hn HBN.out)) (HR2.out.below (aI HG5.out hn HBN.out))).mono ?_;rintro e w7 ⟨rfl,hg,hck⟩;rw[HOP.out];have HG7:=zH (aA HG5.out hg);have HC7:=zH hck;have hk0:=(box9 ((hg.block _ (Array.getElem?_eq_some_iff.1 HK9.out).1 (fun e=>HBX.out (Option.some.inj e).symm)).trans HK9.out)).1;clear hg hck))
      go_ret
      exact⟨rfl,HG7.out,fun h=>absurd h HNO.out⟩
     ·have HOP:=zH hop
      clear hop
      go_wp2_with (first | (go_at_call 218;refine(gw p.k ah dd _).mono ?_;rintro e w6 ⟨rfl,e6⟩;rewrite [e6];clear e6;rw[<-HST.out]) | (go_at_call 219;rw[<-ew5];refine(nop_any (n₀:=n₀) B av fv c b q (nx+CD.cnt l i) (lf-l.length) p xa xc ya yc w5 (HI.out.2.2.on HB5.out) (HF.out.below (aI HG5.out hn HBN.out)) hn HFL.out HQF.out HSP.out HNX.out (HT.out.grown HG5.out hBT) hBT (HR1.out.below (aI HG5.out hn HBN.out)) (HR2.out.below (aI HG5.out hn HBN.out))).mono ?_;rintro e w7 ⟨rfl,hg,hck⟩;rw[HOP.out];have HG7:=zH (aA HG5.out hg);have HC7:=zH hck;have hk0:=(box9 ((hg.block _ (Array.getElem?_eq_some_iff.1 HK9.out).1 (fun e=>HBX.out (Option.some.inj e).symm)).trans HK9.out)).1;clear hg hck))
      have HN:=zH (show (∀j,j<i+1->CD.OpOk q c b (ae l j) (nx+CD.cnt l j)/\CD.iE l j)/\w.grownBy w7 (some B)/\Ck B w7 (ckC av fv c.mn0 q b.bs.length b.va (nx+CD.cnt l (i+1)) (lf-l.length)) from
       ⟨fun j hj=>by
        by_cases e:j=i
        ·rw[e,<-HP.out];exact⟨CD.eP HOP.out,HSY.out⟩
        ·exact HI.out.1 j (by omega),HG7.out,by
        have h:=HC7.out (CD.eP HOP.out)
        rw[HP.out,next_cnt HLT.out] at h
        exact h⟩)
      go_roundw
      case rel=>exact⟨i+1,by have:=HLT.out;omega,by go_num,by rw[if_neg (by omega),Nat.add_sub_cancel,<-HP.out],HN⟩
      case measure=>have:=HLT.out;simp [intOf];omega
    ·have HNO:=zH (show ¬CD.dz q c b l nx from fun h=>by
      have h1:=HSI.out.2 (h.2 i HLT.out).2
      rw[h1] at hs0
      exact absurd hs0 (by decide))
     have e1:z=false:=by rw[HZ.out];exact CD.bg HNO.out
     subst e1
     go_wp2_with (go_at_call 218;refine(gw p.k ah dd _).mono ?_;rintro e w6 ⟨rfl,e6⟩;rewrite [e6];clear e6;rw[<-HST.out])
     go_ret
     exact⟨rfl,by rw[<-ew5];exact HG5.out,fun h=>absurd h HNO.out⟩
   ·have e0:i=l.length:=by omega
    subst e0
    have e1:z=true:=by rw[HZ.out];exact CD.cA ⟨HL0.out,HI.out.1⟩
    subst e1
    go_wp2_with fail
    go_ret
    exact⟨by first | rfl | simp,HI.out.2.1,fun _=>HI.out.2.2⟩
end
end Go.Proofs.YtjngffgkllakaaaGreatDoor
