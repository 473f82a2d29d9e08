/- A part of a proof: laws that the last text uses. -/
import Derived.Test.YtjngffgkllakaaaGreatDoorY05
import Derived.Test.YtjngffgkllakaaaGreatDoorY06
import Derived.Test.YtjngffgkllakaaaGreatDoorY07
import Derived.Deep.Cut
import Derived.Deep.RegionHeld3
import Derived.StillTailTactics
import Derived.Deep.QuietTactic
import Derived.RegionTactic
set_option linter.unusedSimpArgs false
set_option linter.unusedVariables false
namespace Go.Proofs.YtjngffgkllakaaaGreatDoor
open List renaming getElem_toArray → zA, getElem_cons_succ → zB, getElem_cons_zero → zC, setIfInBounds_toArray → zD, set_cons_zero → zE, set_cons_succ → zF
open Lib renaming hid → zH
section
open Go.RowKit
theorem Strs.take{n:Nat}{w:World}{a:Option Addr}{m cap j:Nat}{ss:List ByteArray}(h:Strs n w (.slice a m cap) ss)(hj:j<=ss.length):Strs n w (.slice a j cap) (ss.take j):=by
 have hl:(ss.take j).length=j:=by rw[List.length_take];omega
 rcases h with⟨⟨b,c,e,hn⟩,rfl⟩ | ⟨b,off,c,e,hb,hc,hcell⟩
 ·cases e
  obtain rfl:j=0:=by simpa using hj
  exact .inl ⟨⟨_,_,rfl,hn⟩,rfl⟩
 ·cases e
  refine .inr ⟨b,off,cap,by rw[hl],hb,by omega,fun k hk=>?_⟩
  rw[hl] at hk
  rw[List.getElem?_take_of_lt hk]
  exact hcell k (by omega)
theorem Strs.at{n:Nat}{w:World}{a:Option Addr}{m cap j:Nat}{ss:List ByteArray}(h:Strs n w (.slice a m cap) ss)(hj:j<ss.length):∃b off,a=some ⟨b,off,none⟩/\j<=cap/\w.cell? ⟨b,off+j,none⟩=some (.string (wd6 ss j)):=by
 rcases h with⟨_,rfl⟩ | ⟨b,off,c,e,hb,hc,hcell⟩
 ·simp at hj
 ·cases e
  exact⟨b,off,rfl,by omega,hcell j hj⟩
theorem names_no{ss:List ByteArray}{f k:Nat}(h:dH (wd6 ss k)=false):bO ss (f+1) k=false:=by
 unfold bO;rw[if_pos h]
theorem rF{ss:List ByteArray}{f k:Nat}(h:0<=cB (ss.take k) (wd6 ss k)):bO ss (f+1) k=false:=by
 unfold bO;split
 ·rfl
 ·first | rfl | rw[if_pos h]
theorem rG{ss:List ByteArray}{f k:Nat}(h:dH (wd6 ss k)=true)(h2:¬0<=cB (ss.take k) (wd6 ss k)):bO ss (f+1) k=bO ss f (k+1):=by
 conv=>lhs;unfold bO
 rw[if_neg (by rw[h];simp),if_neg h2]
set_option maxRecDepth 100000 in
set_option maxHeartbeats 1600000 in
theorem dA(v:Value)(ss:List ByteArray)(w:World)(hv:Strs w.heap.size w v ss)(hx:ss.length<=9223372036854775807)(hz:∀j,j<ss.length->(wd6 ss j).size<=562949953421312) :
 Calls Tryz.prog 77 #[v] w fun e w'=>e=.returned (.bool (gF ss))/\Below w.heap.size w w':=by
 obtain⟨a,cap,rfl⟩:=hv.form
 have HV:=zH hv
 have HZ:=zH hz
 clear hv hz
 go_enter Tryz.func77,Tryz.ntmps77
 go_wp2_with fail
 go_loopw [7] (fun k wr=>∃j:Nat,j<=ss.length/\k=.int .i64 (j:Int)/\Below w.heap.size w wr/\RowKit.Hid (gF ss=bO ss (ss.length-j) j)) (fun k _=>ss.length-(intOf k).toNat)
 case atStart=>exact⟨0,Nat.zero_le _,rfl,Below.refl _ _,rfl⟩
 case round =>
  obtain⟨j,hj,rfl,hB,HP⟩:=hrel
  have HB:=zH hB
  clear hB
  by_cases hlt:j<ss.length
  ·obtain⟨b,off,rfl,hjc,hc⟩:=(HV.out.below HB.out).at hlt
   have i1:(0:Int)<=j/\(j:Int)<ss.length:=by omega
   have hzj:=HZ.out j hlt
   have HT:=zH ((HV.out.below HB.out).take hj)
   have hf:ss.length-j=(ss.length-(j+1))+1:=by omega
   obtain⟨q,eq⟩:∃q,q=wd6 ss j:=⟨_,rfl⟩
   have HN0:=zH (fun h=>HP.out.trans ((congrArg (fun f=>bO ss f j) hf).trans (names_no (f:=ss.length-(j+1)) h)))
   have HN1:=zH (fun h=>HP.out.trans ((congrArg (fun f=>bO ss f j) hf).trans (rF (f:=ss.length-(j+1)) h)))
   have HN2:=zH (fun h h2=>HP.out.trans ((congrArg (fun f=>bO ss f j) hf).trans (rG (f:=ss.length-(j+1)) h h2)))
   rw[<-eq] at hc hzj HN0 HN1 HN2
   clear eq hf
   cases hp:dH q
   ·have HR:=zH (HN0.out hp)
    clear HN0 HN1 HN2
    have HPF:=zH hp
    clear hp
    go_wp2_with (go_at_call 122;refine(iK q _ hzj).mono ?_;rintro e w' ⟨rfl,hb⟩;rw[HPF.out];have HB1:=zH (HB.out.trans (hb.mono HB.out.size));clear hb)
    go_ret
    exact⟨af HR.out.symm,HB1.out⟩
   ·have HPF:=zH hp
    by_cases hs:0<=cB (ss.take j) q
    ·have HR:=zH (HN1.out hs)
     have HS:=zH (decide_eq_true hs)
     clear HN0 HN1 HN2 hp hs
     go_wp2_with (first
      | (go_at_call 122;refine(iK q _ hzj).mono ?_;rintro e w' ⟨rfl,hb⟩;rw[HPF.out];have HB1:=zH (HB.out.trans (hb.mono HB.out.size));have HT1:=zH (HT.out.below (hb.mono HB.out.size));clear hb)
      | (go_at_call 123;refine(lm _ _ q _ _ HT1.out (by rw[List.length_take];omega)).mono ?_;rintro e w' ⟨rfl,rfl⟩;rw[HS.out]))
     go_ret
     exact⟨af HR.out.symm,HB1.out⟩
    ·have HR:=zH (HN2.out hp hs)
     have HS:=zH (decide_eq_false hs)
     clear HN0 HN1 HN2 hp hs
     go_wp2_with (first
      | (go_at_call 122;refine(iK q _ hzj).mono ?_;rintro e w' ⟨rfl,hb⟩;rw[HPF.out];have HB1:=zH (HB.out.trans (hb.mono HB.out.size));have HT1:=zH (HT.out.below (hb.mono HB.out.size));clear hb)
      | (go_at_call 123;refine(lm _ _ q _ _ HT1.out (by rw[List.length_take];omega)).mono ?_;rintro e w' ⟨rfl,rfl⟩;rw[HS.out]))
     go_roundw
     case rel=>exact⟨j+1,by omega,by go_num,HB1.out,HR⟩
     case measure=>simp [intOf];omega
  ·obtain rfl:j=ss.length:=by omega
   go_wp2_with fail
   go_ret
   exact⟨af (by rw[HP.out,Nat.sub_self];rfl),HB.out⟩
end
section
open Go.RowKit
theorem pO{w':World}(w:World)(h:w' = { w with heap:=w'.heap })(e:w'.heap=w.heap):w'=w:=by
 rw[e] at h;exact h
theorem gM(w:World)(old cs:Array Value)(t:TypeId):(w.alloc (.cells old t)).setRow w.heap.size cs=w.alloc (.cells cs t):=by
 have e:((w.alloc (.cells old t)).setRow w.heap.size cs).heap=(w.alloc (.cells cs t)).heap:=by
  apply Array.ext_getElem?
  intro k
  by_cases h:k=w.heap.size
  ·subst h
   rw[setRow_heap _ _ old cs t (0,0) (heap_alloc_new _ _),heap_alloc_new]
  ·simp only[World.setRow,Array.getElem?_modify]
   rw[if_neg (fun e=>h e.symm)]
   by_cases h2:k<w.heap.size
   ·rw[heap_alloc_old _ _ h2,heap_alloc_old _ _ h2]
   ·rw[Array.getElem?_eq_none (by simp;omega),Array.getElem?_eq_none (by simp;omega)]
 exact pO (w':=(w.alloc (.cells old t)).setRow w.heap.size cs) (w.alloc (.cells cs t)) rfl e
theorem cell_one6(w:World)(v:Value)(t:TypeId){b:Nat}(h:w.heap.size=b):∀(j:Nat) (u:Value),[v][j]?=some u->(w.alloc (.cells #[v] t)).cell? ((⟨b,0,none⟩:Addr).add j)=some u:=by
 subst h
 intro j u hj
 rw[Addr.add_lit,Nat.zero_add]
 simp only[World.cell?,heap_alloc_new]
 simpa using hj
theorem rH(w:World):(zeroValue 196).run Tryz.prog w=.ok (.agg #[.string ⟨#[]⟩,.int .i64 0]) w:=by
 have h:=Tryz.infoChan6
 cases hi:Tryz.prog.info? 196 with
 | none=>rw[hi] at h;cases h
 | some i =>
   rw[hi] at h
   simp only[Option.map_some,Option.some.injEq,Prod.mk.injEq] at h
   simp [zeroValue,typeInfo,hi,h.1]
theorem fg{ops:Array Oper}{rest:List Oper}{o:Oper}{a:Act}{w:World}{Q:Exit->Act->World->Prop}(hgd:o.guard=none)(x:Operand)(ho:o.op=.load 196 x)
 (blk off:Nat) (hx:a.eval x=.pointer (some ⟨blk,off,none⟩)) (p q:Value) (h1:w.cell? ⟨blk,off,none⟩=some p) (h2:w.cell? ⟨blk,off+1,none⟩=some q)
 (h:wpList Tryz.prog ops Q rest (a.put o.dst (.agg #[p,q])) w):wpList Tryz.prog ops Q (o :: rest) a w:=by
 have hl:(loadCells ⟨blk,off,none⟩ 2).run Tryz.prog w=.ok #[p,q] w :=
  run_loadCells_list (P:=Tryz.prog) w ⟨blk,off,none⟩ [p,q] (fun j u hu=>by
   rw[Addr.add_lit]
   match j,hu with
   | 0,hu=>simp at hu;subst hu;exact h1
   | 1,hu=>simp at hu;subst hu;exact h2)
 have hagg:(isAgg 196).run Tryz.prog w=.ok true w:=by kernel_rfl
 have hs:(sizeOf 196).run Tryz.prog w=.ok 2 w:=by kernel_rfl
 refine wpList_plain hgd fun K hK=>?_
 unfold Oper.wp execOp
 simp only[ho,hx,Instr.loadAt,Instr.sureAddr,Sem.run_bind,Sem.run_pure,Result.andThen_ok]
 simp only[loadVar,Sem.run_bind,hagg,hs,hl,Result.andThen_ok,if_true,Sem.run_pure]
 exact hK _ _ h
theorem dM.at{n:Nat}{w:World}{a:Option Addr}{m cap j:Nat}{cs:List (ByteArray × Int)}(h:dM n w (.slice a m cap) cs)(hj:j<cs.length) :
 ∃b off,a=some ⟨b,off,none⟩/\w.cell? ⟨b,off+j*2,none⟩=some (.string (chAt cs j).1)/\w.cell? ⟨b,off+j*2+1,none⟩=some (.int .i64 (chAt cs j).2):=by
 rcases h with⟨_,rfl⟩ | ⟨b,off,c,e,hb,hc,hcell⟩
 ·simp at hj
 ·cases e
  exact⟨b,off,rfl,hcell j hj⟩
theorem chans_no{N:Int}{cs:List (ByteArray × Int)}{k:Nat}(hk:k<cs.length)(h:¬(0<=(chAt cs k).2/\(chAt cs k).2<N)):cT N cs=false:=by
 cases e:cT N cs
 ·rfl
 ·exact absurd (ch_lev (gL e).2.1 hk) h
theorem chans_yes{N:Int}{cs:List (ByteArray × Int)}(h32:cs.length<=32)(h:∀k,k<cs.length->0<=(chAt cs k).2/\(chAt cs k).2<N):cT N cs=gF (cs.map (·.1)):=by
 have:mK N cs=true:=by
  unfold mK
  rw[List.all_eq_true]
  intro c hc
  obtain⟨k,hk,e⟩:=List.getElem_of_mem hc
  have h1:=h k hk
  have e2:chAt cs k=c:=by unfold chAt;rw[List.getElem?_eq_getElem hk];exact e
  rw[e2] at h1
  rw[Bool.and_eq_true,decide_eq_true_eq,decide_eq_true_eq]
  exact h1
 unfold cT
 rw[this,decide_eq_true h32];rfl
def nmV(cs:List (ByteArray × Int))(i:Nat):List Value:=((cs.map (·.1)).take i).map Value.string
theorem nmV_succ{cs:List (ByteArray × Int)}{i:Nat}(hi:i<cs.length):nmV cs i ++ [.string (chAt cs i).1]=nmV cs (i+1):=by
 unfold nmV
 have hl:i<(cs.map (·.1)).length:=by simpa using hi
 rw[List.take_succ_eq_append_getElem hl,List.map_append]
 simp [chAt,List.getElem?_eq_getElem hi]
theorem nm_in{B:Nat}{w wr w2:World}{u v2:Value}{i:Nat}{xs:List Value}{o o2:Obj}(hB:Below B w wr)(hs:B<=wr.heap.size)(hO:wr.ownsRow B 9 1 u i xs)(hg:((wr.alloc o).alloc o2).grownBy w2 u.ownBlock):Below B w w2 :=
 ((hB.alloc hs o).alloc (by simp;omega) o2).grown hg (by simp;omega) (fun k e=>(hO.lt k e).1)
theorem pP(w:World)(p q:Value)(t:TypeId):(w.alloc (.cells #[p,q] t)).cell? ⟨w.heap.size,0,none⟩=some p/\(w.alloc (.cells #[p,q] t)).cell? ⟨w.heap.size,1,none⟩=some q:=by
 constructor <;> (simp only[World.cell?,heap_alloc_new];rfl)
theorem ch_one(s:ByteArray)(l:Int):(#[.string s,.int .i64 l]:Array Value).all (·.oneCell')=true:=by
 simp [Value.oneCell']
set_option maxRecDepth 100000 in
set_option maxHeartbeats 3200000 in
theorem fh(v:Value)(cs:List (ByteArray × Int))(N:Int)(w:World)(hv:dM w.heap.size w v cs)(hz:∀j,j<cs.length->(chAt cs j).1.size<=562949953421312) :
 Calls Tryz.prog 78 #[v,.int .i64 N] w fun e w'=>e=.returned (.bool (cT N cs))/\Below w.heap.size w w':=by
 obtain⟨a,cap,rfl⟩:=hv.form
 obtain⟨i0,hi,hz0,hz1,hz2⟩:=info_parts Tryz.infoStr6
 have hzc:=fun(w:World)=>rH w
 have HV:=zH hv
 have HZ:=zH hz
 clear hv hz
 by_cases h32:cs.length<=32
 ·go_enter Tryz.func78,Tryz.ntmps78
  go_wp2_with fail
  go_loopw [5,13] (fun o k wr=>∃i:Nat,i<=cs.length/\k=.int .i64 (i:Int)/\wr.ownsRow w.heap.size 9 1 o i (nmV cs i)/\Below w.heap.size w wr/\RowKit.Hid (∀j,j<i->0<=(chAt cs j).2/\(chAt cs j).2<N)) (fun _ k _=>cs.length-(intOf k).toNat)
  case atStart=>exact⟨0,Nat.zero_le _,rfl,World.ownsRow_nil _ _ _ _,Below.refl _ _,zH (fun j hj=>absurd hj (Nat.not_lt_zero _))⟩
  case round =>
   obtain⟨i,hil,rfl,hO,hB,HK⟩:=hrel
   have HO:=zH hO
   have HB:=zH hB
   clear hO hB
   by_cases hlt:i<cs.length
   ·obtain⟨b,off,rfl,c1,c2⟩:=(HV.out.below HB.out).at hlt
    have i1:(0:Int)<=i/\(i:Int)<cs.length:=by omega
    have HNV:=zH (nmV_succ hlt)
    have HNO:=zH (fun h=>chans_no (N:=N) hlt h)
    have HST:=zH (fun(h:0<=(chAt cs i).2/\(chAt cs i).2<N) j (hj:j<i+1)=>(Nat.lt_succ_iff_lt_or_eq.1 hj).elim (HK.out j) (fun e=>by rw[e];exact h))
    obtain⟨s,es⟩:∃s,s=(chAt cs i).1:=⟨_,rfl⟩
    obtain⟨l,el⟩:∃l,l=(chAt cs i).2:=⟨_,rfl⟩
    rw[<-es] at c1 HNV
    rw[<-el] at c2 HNO HST
    clear es el
    have h1:=(pP wr (.string s) (.int .i64 l) 196).1
    have h2:=(pP wr (.string s) (.int .i64 l) 196).2
    by_cases l0:l<0
    ·have HR:=zH (HNO.out (by omega))
     clear HNO HST HNV
     go_wp2_with (first
      | (refine fg rfl (.tmp 15) rfl b (off+i*2) rfl _ _ c1 c2 ?_)
      | (refine wpList_store_row rfl 196 (.tmp 7) (.tmp 16) rfl _ #[.string s,.int .i64 l] rfl rfl 196 #[.string ⟨#[]⟩,.int .i64 0] (heap_alloc_new _ _) (by kernel_rfl) rfl (ch_one s l) ?_
         rw[gM]))
     go_ret
     exact⟨af HR.out.symm,HB.out.alloc HB.out.size _⟩
    ·by_cases l1:l<N
     ·have l2:¬N<=l:=by omega
      have HS:=zH (HST.out (by omega))
      clear HNO HST
      go_wp2_with (first
       | (refine fg rfl (.tmp 15) rfl b (off+i*2) rfl _ _ c1 c2 ?_)
       | (refine wpList_store_row rfl 196 (.tmp 7) (.tmp 16) rfl _ #[.string s,.int .i64 l] rfl rfl 196 #[.string ⟨#[]⟩,.int .i64 0] (heap_alloc_new _ _) (by kernel_rfl) rfl (ch_one s l) ?_
          rw[gM])
       | (at_builtin
          refine wpList_append_any rfl _ _ 22 rfl w.heap.size 9 i0 (.string ⟨#[]⟩) 1 16 Tryz.underlying22 hi hz0 hz1 hz2 rfl (by decide) u5 i (nmV cs i) rfl ((HO.out.alloc _).alloc _) (.slice (some ⟨_,0,none⟩) 1 1) 1 [.string s] rfl rfl (.inr ⟨_,_,rfl,cell_one6 _ _ _ (by simp)⟩) (by intro u hu;rw[List.mem_singleton.1 hu];rfl) (by unfold maxLen;omega) (by omega) (by have:=HB.out.size;simp;omega) ?_
          intro v2 w2 ho hg
          have HD:=zH ho
          have HE:=zH (nm_in (v2:=v2) HB.out HB.out.size HO.out hg)
          clear ho hg))
      go_roundw
      case rel=>exact⟨i+1,by omega,by go_num,by rw[<-HNV.out];exact HD.out,HE.out,zH HS.out⟩
      case measure=>simp [intOf];omega
     ·have l2:N<=l:=by omega
      have HR:=zH (HNO.out (by omega))
      clear HNO HST HNV
      go_wp2_with (first
       | (refine fg rfl (.tmp 15) rfl b (off+i*2) rfl _ _ c1 c2 ?_)
       | (refine wpList_store_row rfl 196 (.tmp 7) (.tmp 16) rfl _ #[.string s,.int .i64 l] rfl rfl 196 #[.string ⟨#[]⟩,.int .i64 0] (heap_alloc_new _ _) (by kernel_rfl) rfl (ch_one s l) ?_
          rw[gM]))
      go_ret
      exact⟨af HR.out.symm,HB.out.alloc HB.out.size _⟩
   ·have hie:i=cs.length:=by omega
    have HY:=zH (chans_yes (N:=N) h32 (fun k hk=>HK.out k (by omega)))
    have HS:=zH (show Strs wr.heap.size wr u5 (cs.map (·.1)) by
     have h:=HO.out
     rw[hie] at h
     refine pC (base:=w.heap.size) (e:=9) ?_
     rw[List.length_map]
     have e:nmV cs cs.length=(cs.map (·.1)).map Value.string:=by unfold nmV;rw[List.take_of_length_le (by simp)]
     rw[<-e];exact h)
    have HZ2:=zH (show ∀j,j<(cs.map (·.1)).length->(wd6 (cs.map (·.1)) j).size<=562949953421312 from fun j hj=>by
     have hj':j<cs.length:=by simpa using hj
     rw[ch_name hj'];exact HZ.out j hj')
    clear hie
    go_wp2_with (go_at_call 77;refine(dA _ (cs.map (·.1)) _ HS.out (by rw[List.length_map];omega) HZ2.out).mono ?_;rintro e w' ⟨rfl,hb⟩)
    go_ret
    exact⟨af HY.out.symm,HB.out.trans (hb.mono HB.out.size)⟩
 ·have HR:=zH (show cT N cs=false by unfold cT;rw[decide_eq_false h32];rfl)
  go_enter Tryz.func78,Tryz.ntmps78
  go_wp2_with fail
  go_ret
  exact⟨af HR.out.symm,Below.refl _ _⟩
end
section
open Go.RowKit
structure Short6 (st:PSt):Prop where
 l:∀j,j<st.L.length->(wd6 st.L j).size<=562949953421312
 i:∀j,j<st.I.length->(chAt st.I j).1.size<=562949953421312
 o:∀j,j<st.O.length->(chAt st.O j).1.size<=562949953421312
theorem dY{st:PSt}{S:List Int}(h:aS st S=true->False):aS st S=false:=by
 cases e:aS st S
 ·rfl
 ·exact(h e).elim
theorem pol_cells(w:World)(p0 p1 p2 p3 p4:Value)(t:TypeId):∀(c:Nat) (u:Value),[p0,p1,p2,p3,p4][c]?=some u->(w.alloc (.cells #[p0,p1,p2,p3,p4] t)).cell? ⟨w.heap.size,c,none⟩=some u:=by
 intro c u h
 simp only[World.cell?,heap_alloc_new]
 simpa using h
theorem bstep6{A w w':World}(h:Below A.heap.size A w)(g:Below w.heap.size w w'):Below A.heap.size A w':=h.trans (g.mono h.size)
set_option maxRecDepth 100000 in
set_option maxHeartbeats 3200000 in
theorem fU(v0 v1 v2 v3:Value)(st:PSt)(S:List Int)(w:World)(h:PolIn w v0 v1 v2 v3 st S)(hw:Wide S)(hTz:Tz w)(hsh:Short6 st) :
 Calls Tryz.prog 51 #[.agg #[v0,v1,v2,v3,.int .i64 st.D]] w fun e w'=>e=.returned (.bool (aS st S))/\Below w.heap.size w w':=by
 have hl0:=h.l0
 have hl1:=h.l1
 obtain⟨a0,k0,rfl⟩:=h.s0.form
 obtain⟨a1,k1,rfl⟩:=h.s1.form
 obtain⟨a2,k2,rfl⟩:=h.s2.form
 obtain⟨a3,k3,rfl⟩:=h.s3.form
 obtain⟨W0,eW0⟩:∃W0,W0=w.alloc (.cells #[.slice a0 st.L.length k0,.slice a1 S.length k1,.slice a2 st.I.length k2,.slice a3 st.O.length k3,.int .i64 st.D] 26):=⟨_,rfl⟩
 have HB0:=zH (show Below w.heap.size w W0 by rw[eW0];exact(Below.refl _ _).alloc (Nat.le_refl _) _)
 have HW0:=zH (show w.heap.size<W0.heap.size by rw[eW0];simp)
 have HC0:=zH (show ∀c u,[.slice a0 st.L.length k0,.slice a1 S.length k1,.slice a2 st.I.length k2,.slice a3 st.O.length k3,.int .i64 st.D][c]?=some u->W0.cell? ⟨w.heap.size,c,none⟩=some u by rw[eW0];exact pol_cells _ _ _ _ _ _ _)
 have HP0:=zH (h.below HB0.out)
 have HT0:=zH (hTz.on HB0.out)
 have HSH:=zH hsh
 have EW0:=zH eW0
 have q0:=HC0.out 0 _ rfl
 have q1:=HC0.out 1 _ rfl
 have q2:=HC0.out 2 _ rfl
 have q3:=HC0.out 3 _ rfl
 have q4:=HC0.out 4 _ rfl
 rw[eW0] at q0 q1 q2 q3 q4
 have HKC:=zH (fun(w1:World) (hb:Below W0.heap.size W0 w1) c u (hu:[.slice a0 st.L.length k0,.slice a1 S.length k1,.slice a2 st.I.length k2,.slice a3 st.O.length k3,.int .i64 st.D][c]?=some u)=>(hb.cell (p:=⟨w.heap.size,c,none⟩) HW0.out).trans (HC0.out c u hu))
 clear h hTz hsh eW0
 by_cases c1:1<=st.D
 ·by_cases c2:st.D<=64
  ·by_cases c3:S.length=st.L.length
   ·have HC3:=zH c3
    have t3:((S.length:Int) == (st.L.length:Int))=true:=beq_iff_eq.2 (by omega)
    clear c3
    by_cases c4:LL.bL S=true
    ·have HR4:=zH c4
     by_cases c5:gF st.L=true
     ·have HR5:=zH c5
      by_cases c6:cT st.L.length st.I=true
      ·have HR6:=zH c6
       have HN:=zH (show aS st S=cT st.L.length st.O by unfold aS;rw[decide_eq_true (show 1<=st.D/\st.D<=64 from⟨c1,c2⟩),decide_eq_true HC3.out,c4,c5,c6];simp)
       clear c4 c5 c6
       go_enter Tryz.func51,Tryz.ntmps51
       go_wp2_with (first
        | (go_at_call 78;refine(fh (.slice a3 st.O.length k3) st.O st.L.length w3 (gG HP0.out.s3 HB3.out) HSH.out.o).mono ?_;rintro e w4 ⟨rfl,hb⟩;have HB4:=zH (bstep6 HB3.out hb);clear hb p0 p2 p3)
        | (go_at_call 78;refine(fh (.slice a2 st.I.length k2) st.I st.L.length w2 (gG HP0.out.s2 HB2.out) HSH.out.i).mono ?_;rintro e w3 ⟨rfl,hb⟩;rw[HR6.out];have HB3:=zH (bstep6 HB2.out hb);clear hb p0 p2 p3;have p0:=HKC.out w3 HB3.out 0 _ rfl;have p2:=HKC.out w3 HB3.out 2 _ rfl;have p3:=HKC.out w3 HB3.out 3 _ rfl)
        | (go_at_call 77;refine(dA _ st.L w1 (ku HP0.out.s0 HB1.out) (by omega) HSH.out.l).mono ?_;rintro e w2 ⟨rfl,hb⟩;rw[HR5.out];have HB2:=zH (bstep6 HB1.out hb);clear hb p0 p2 p3;have p0:=HKC.out w2 HB2.out 0 _ rfl;have p2:=HKC.out w2 HB2.out 2 _ rfl;have p3:=HKC.out w2 HB2.out 3 _ rfl)
        | (go_at_call 76;rw[<-EW0.out];refine(fT _ S W0.heap.size _ (jr HP0.out.s1 (Below.refl _ _)) (Nat.le_refl _) hw (by simp only[big5];omega) HT0.out).mono ?_;rintro e w1 ⟨rfl,hb⟩;rw[HR4.out];have HB1:=zH hb;clear hb;have p0:=HKC.out w1 HB1.out 0 _ rfl;have p2:=HKC.out w1 HB1.out 2 _ rfl;have p3:=HKC.out w1 HB1.out 3 _ rfl))
       go_ret
       exact⟨af HN.out.symm,HB0.out.trans (HB4.out.mono HB0.out.size)⟩
      ·have HN:=zH (dY (st:=st) (S:=S) (fun e=>c6 (cq e).2.2.2.2.1))
       have HR6:=zH (eq_false_of_ne_true c6)
       clear c4 c5 c6
       go_enter Tryz.func51,Tryz.ntmps51
       go_wp2_with (first
        | (go_at_call 78;refine(fh (.slice a2 st.I.length k2) st.I st.L.length w2 (gG HP0.out.s2 HB2.out) HSH.out.i).mono ?_;rintro e w3 ⟨rfl,hb⟩;rw[HR6.out];have HB3:=zH (bstep6 HB2.out hb);clear hb p0 p2 p3;have p0:=HKC.out w3 HB3.out 0 _ rfl;have p2:=HKC.out w3 HB3.out 2 _ rfl;have p3:=HKC.out w3 HB3.out 3 _ rfl)
        | (go_at_call 77;refine(dA _ st.L w1 (ku HP0.out.s0 HB1.out) (by omega) HSH.out.l).mono ?_;rintro e w2 ⟨rfl,hb⟩;rw[HR5.out];have HB2:=zH (bstep6 HB1.out hb);clear hb p0 p2 p3;have p0:=HKC.out w2 HB2.out 0 _ rfl;have p2:=HKC.out w2 HB2.out 2 _ rfl;have p3:=HKC.out w2 HB2.out 3 _ rfl)
        | (go_at_call 76;rw[<-EW0.out];refine(fT _ S W0.heap.size _ (jr HP0.out.s1 (Below.refl _ _)) (Nat.le_refl _) hw (by simp only[big5];omega) HT0.out).mono ?_;rintro e w1 ⟨rfl,hb⟩;rw[HR4.out];have HB1:=zH hb;clear hb;have p0:=HKC.out w1 HB1.out 0 _ rfl;have p2:=HKC.out w1 HB1.out 2 _ rfl;have p3:=HKC.out w1 HB1.out 3 _ rfl))
       go_ret
       exact⟨af HN.out.symm,HB0.out.trans (HB3.out.mono HB0.out.size)⟩
     ·have HN:=zH (dY (st:=st) (S:=S) (fun e=>c5 (cq e).2.2.2.1))
      have HR5:=zH (eq_false_of_ne_true c5)
      clear c4 c5
      go_enter Tryz.func51,Tryz.ntmps51
      go_wp2_with (first
       | (go_at_call 77;refine(dA _ st.L w1 (ku HP0.out.s0 HB1.out) (by omega) HSH.out.l).mono ?_;rintro e w2 ⟨rfl,hb⟩;rw[HR5.out];have HB2:=zH (bstep6 HB1.out hb);clear hb p0 p2 p3;have p0:=HKC.out w2 HB2.out 0 _ rfl;have p2:=HKC.out w2 HB2.out 2 _ rfl;have p3:=HKC.out w2 HB2.out 3 _ rfl)
       | (go_at_call 76;rw[<-EW0.out];refine(fT _ S W0.heap.size _ (jr HP0.out.s1 (Below.refl _ _)) (Nat.le_refl _) hw (by simp only[big5];omega) HT0.out).mono ?_;rintro e w1 ⟨rfl,hb⟩;rw[HR4.out];have HB1:=zH hb;clear hb;have p0:=HKC.out w1 HB1.out 0 _ rfl;have p2:=HKC.out w1 HB1.out 2 _ rfl;have p3:=HKC.out w1 HB1.out 3 _ rfl))
      go_ret
      exact⟨af HN.out.symm,HB0.out.trans (HB2.out.mono HB0.out.size)⟩
    ·have HN:=zH (dY (st:=st) (S:=S) (fun e=>c4 (cq e).2.2.1))
     have HR4:=zH (eq_false_of_ne_true c4)
     clear c4
     go_enter Tryz.func51,Tryz.ntmps51
     go_wp2_with (first
      | (go_at_call 76;rw[<-EW0.out];refine(fT _ S W0.heap.size _ (jr HP0.out.s1 (Below.refl _ _)) (Nat.le_refl _) hw (by simp only[big5];omega) HT0.out).mono ?_;rintro e w1 ⟨rfl,hb⟩;rw[HR4.out];have HB1:=zH hb;clear hb;have p0:=HKC.out w1 HB1.out 0 _ rfl;have p2:=HKC.out w1 HB1.out 2 _ rfl;have p3:=HKC.out w1 HB1.out 3 _ rfl))
     go_ret
     exact⟨af HN.out.symm,HB0.out.trans (HB1.out.mono HB0.out.size)⟩
   ·have HN:=zH (dY (st:=st) (S:=S) (fun e=>c3 (cq e).2.1))
    go_enter Tryz.func51,Tryz.ntmps51
    go_wp2_with fail
    go_ret
    exact⟨af HN.out.symm,by first | exact HB0.out | (rw[<-EW0.out];exact HB0.out)⟩
  ·have HN:=zH (dY (st:=st) (S:=S) (fun e=>c2 (cq e).1.2))
   go_enter Tryz.func51,Tryz.ntmps51
   go_wp2_with fail
   go_ret
   exact⟨af HN.out.symm,by first | exact HB0.out | (rw[<-EW0.out];exact HB0.out)⟩
 ·have HN:=zH (dY (st:=st) (S:=S) (fun e=>c1 (cq e).1.1))
  have d1:st.D<1:=by omega
  go_enter Tryz.func51,Tryz.ntmps51
  go_wp2_with fail
  go_ret
  exact⟨af HN.out.symm,by first | exact HB0.out | (rw[<-EW0.out];exact HB0.out)⟩
end
section
open Go.RowKit
theorem kh{st:PSt}{S:List Int}(h:aS st S=true):st.L.length<=64/\S.length=st.L.length/\st.I.length<=32/\st.O.length<=32/\LL.bL S=true /\
 (∀j,j<st.I.length->0<=(chAt st.I j).2/\(chAt st.I j).2<st.L.length)/\(∀j,j<st.O.length->0<=(chAt st.O j).2/\(chAt st.O j).2<st.L.length):=by
 obtain⟨_,h1,h2,_,h3,h4⟩:=cq h
 have h5:=(LL.fR (LL.fB h2)).2
 obtain⟨a1,a2,_⟩:=gL h3
 obtain⟨b1,b2,_⟩:=gL h4
 exact⟨by omega,h1,a1,b1,h2,fun j hj=>ch_lev a2 hj,fun j hj=>ch_lev b2 hj⟩
theorem fC{W0 W:World}{g:Nat}{c0 c1 c2 c3 c4:Value}{t:TypeId}(h:W0.heap[g]?=some (.cells #[c0,c1,c2,c3,c4] t))(hb:Below W0.heap.size W0 W) :
 W.cell? ⟨g,0,none⟩=some c0/\W.cell? ⟨g,1,none⟩=some c1/\W.cell? ⟨g,2,none⟩=some c2/\W.cell? ⟨g,3,none⟩=some c3/\W.cell? ⟨g,4,none⟩=some c4 :=
 pD ((hb.block g (heap_some_lt h)).trans h)
def NewE(st:PSt)(S:List Int)(A:List (List Int))(e:Ending)(w w':World):Prop :=
 Below w.heap.size w w'/\(((aS st S && cK st.I.length A)=true/\∃kb rb vs,e=.returned (.tuple #[.pointer (some ⟨kb,0,none⟩),.int .i64 0])/\w.heap.size<=kb/\BoxB w' kb rb st.I.length st.O.length st.L.length (.slice none 0 0)/\TabQ w.heap.size w' rb st.I.length vs (cO A)) ∨
  ((aS st S && cK st.I.length A)=false/\e=.returned (.tuple #[.pointer none,.int .i64 1])))
set_option maxRecDepth 100000 in
set_option maxHeartbeats 3200000 in
theorem qnew_any(v0 v1 v2 v3:Value)(st:PSt)(S:List Int)(a:Value)(A:List (List Int))(w:World)(h:PolIn w v0 v1 v2 v3 st S)(hw:Wide S)(hTz:Tz w)(hsh:Short6 st)(ha:az w.heap.size w a A)(hx:cd A) :
 Calls Tryz.prog 24 #[.agg #[v0,v1,v2,v3,.int .i64 st.D],a] w fun e w'=>NewE st S A e w w':=by
 obtain⟨a0,k0,rfl⟩:=h.s0.form
 obtain⟨a1,k1,rfl⟩:=h.s1.form
 obtain⟨a2,k2,rfl⟩:=h.s2.form
 obtain⟨a3,k3,rfl⟩:=h.s3.form
 obtain⟨aa,ca,rfl⟩:=ha.form
 obtain⟨W0,eW0⟩:∃W0,W0=w.alloc (.cells #[.slice a0 st.L.length k0,.slice a1 S.length k1,.slice a2 st.I.length k2,.slice a3 st.O.length k3,.int .i64 st.D] 26):=⟨_,rfl⟩
 have HB0:=zH (show Below w.heap.size w W0 by rw[eW0];exact(Below.refl _ _).alloc (Nat.le_refl _) _)
 have HO0:=zH (show W0.heap[w.heap.size]?=some (.cells #[.slice a0 st.L.length k0,.slice a1 S.length k1,.slice a2 st.I.length k2,.slice a3 st.O.length k3,.int .i64 st.D] 26) by rw[eW0];exact ib rfl rfl)
 have HP0:=zH (h.below HB0.out)
 have HT0:=zH (hTz.on HB0.out)
 have HSH:=zH hsh
 have HWD:=zH hw
 have EW0:=zH eW0
 have HA:=zH ha
 have HX:=zH hx
 clear h hTz hsh hw eW0 ha hx
 cases hr:aS st S
 ·have HR:=zH hr
  have HL:=zH (show (aS st S && cK st.I.length A)=false by rw[hr];rfl)
  clear hr
  go_enter Tryz.func24,Tryz.ntmps24
  go_wp2_with (go_at_call 51;rw[<-EW0.out];refine(fU _ _ _ _ st S _ HP0.out HWD.out HT0.out HSH.out).mono ?_;rintro e w1 ⟨rfl,hb⟩;rw[HR.out];have HB1:=zH (hb.mono HB0.out.size);clear hb)
  go_ret2
  exact⟨HB0.out.trans HB1.out,.inr ⟨HL.out,rfl⟩⟩
 ·have HR:=zH hr
  have i32:=(kh hr).2.2.1
  cases hf:cK st.I.length A
  ·have HF:=zH hf
   have HL:=zH (show (aS st S && cK st.I.length A)=false by rw[hf,Bool.and_false])
   clear hr hf
   go_enter Tryz.func24,Tryz.ntmps24
   go_wp2_with (first
    | (go_at_call 52;refine(pE _ _ _ _ a2 st.I.length k2 _ A _ (by omega) ((HA.out.below (HB0.out.trans (HB1.out.mono HB0.out.size))).mono (Nat.le_trans HB0.out.size HB1.out.size)) HX.out).mono ?_;rintro e w2 ⟨hb2,⟨hf1,_⟩ | ⟨hf1,rfl⟩⟩;(rw[HF.out] at hf1;cases hf1);have HB2:=zH hb2;clear hb2 hf1)
    | (go_at_call 51;rw[<-EW0.out];refine(fU _ _ _ _ st S _ HP0.out HWD.out HT0.out HSH.out).mono ?_;rintro e w1 ⟨rfl,hb⟩;rw[HR.out];have HB1:=zH hb;obtain⟨p0,p1,p2,p3,p4⟩:=fC HO0.out hb;clear hb))
   go_ret2
   exact⟨QQ.step (QQ.step HB0.out HB1.out) HB2.out,.inr ⟨HL.out,rfl⟩⟩
  ·have HF:=zH hf
   have HL:=zH (show (aS st S && cK st.I.length A)=true by rw[hr,hf];rfl)
   clear hr hf
   go_enter Tryz.func24,Tryz.ntmps24
   go_wp2_with (first
    | (go_at_call 53;refine(nW a0 a3 st.L.length k0 st.O.length k3 _ _ _ _).mono ?_;rintro e w3 ⟨rfl,hb3⟩;have HB3:=zH hb3;clear hb3)
    | (go_at_call 52;refine(pE _ _ _ _ a2 st.I.length k2 _ A _ (by omega) ((HA.out.below (HB0.out.trans (HB1.out.mono HB0.out.size))).mono (Nat.le_trans HB0.out.size HB1.out.size)) HX.out).mono ?_;rintro e w2 ⟨hb2,⟨hf1,rb,vs,rfl,hT2⟩ | ⟨hf1,_⟩⟩;(case inr=>rw[HF.out] at hf1;cases hf1);have HB2:=zH hb2;have HT2:=zH hT2;clear p0 p1 p2 p3 p4;obtain⟨p0,p1,p2,p3,p4⟩:=fC HO0.out (HB1.out.trans (hb2.mono HB1.out.size));clear hb2 hf1 hT2)
    | (go_at_call 51;rw[<-EW0.out];refine(fU _ _ _ _ st S _ HP0.out HWD.out HT0.out HSH.out).mono ?_;rintro e w1 ⟨rfl,hb⟩;rw[HR.out];have HB1:=zH hb;obtain⟨p0,p1,p2,p3,p4⟩:=fC HO0.out hb;clear hb))
   have HBA:=zH (QQ.step (QQ.step HB0.out HB1.out) (HB2.out.trans (HB3.out.mono HB2.out.size)))
   go_ret2
   exact⟨HBA.out.alloc HBA.out.size _,.inl ⟨HL.out,w3.heap.size,rb,vs,rfl,HBA.out.size,ib rfl rfl,by
    have h1:=HT2.out.on HB3.out
    have h2:=h1.on ((Below.refl w3.heap.size w3).alloc (Nat.le_refl _) (.cells #[.slice (some ⟨rb,0,none⟩) st.I.length st.I.length,.int .i64 st.O.length,.int .i64 st.L.length,.slice none 0 0] 113))
    exact⟨Nat.le_trans (Nat.le_trans HB0.out.size HB1.out.size) h2.base,h2.tab,fun j hj=>(h2.rows j hj).lower (Nat.le_trans HB0.out.size HB1.out.size)⟩⟩⟩
end
section
open Go.RowKit
structure Put2 (w w':World) (kb:Nat) (row:Option Nat):Prop where
 os:w'.os=w.os
 tape:w'.tape=w.tape
 output:w'.output=w.output
 size:w.heap.size<=w'.heap.size
 block:∀k,k<w.heap.size->k≠kb->some k≠row->w'.heap[k]?=w.heap[k]?
def PutE(B kb rb n o l:Nat)(ve:Value)(rows:Nat->List Int)(es:List Ev)(x:Ev)(e:Ending)(w w':World):Prop :=
 if gC o l x.k x.r x.f x.a=true then e=.returned (.int .i64 0)/\Put2 w w' kb ve.ownBlock/\∃ve',BoxB w' kb rb n o l ve'/\w'.ownsRow B 231 5 ve' (es ++ [x]).length (aY (es ++ [x]))/\(∃vs,TabQ B w' rb n vs rows)/\∀k,ve'.ownBlock=some k->ve.ownBlock=some k∨w.heap.size<=k
 else e=.returned (.int .i64 1)/\Below w.heap.size w w'
theorem dZ{W0 V:World}{kb rb n o l g:Nat}{ve:Value}{x:Ev}(hb:BoxB W0 kb rb n o l ve)(hx:W0.heap[g]?=some (.cells #[.int .u8 x.k,.int .i64 x.r,.int .i64 x.v,.int .i64 x.f,.int .i64 x.a] 231))(h:Below W0.heap.size W0 V) :
 Below W0.heap.size W0 V/\V.cell? ⟨kb,1,none⟩=some (.int .i64 o)/\V.cell? ⟨kb,2,none⟩=some (.int .i64 l)/\V.cell? ⟨g,0,none⟩=some (.int .u8 x.k)/\V.cell? ⟨g,1,none⟩=some (.int .i64 x.r)/\V.cell? ⟨g,2,none⟩=some (.int .i64 x.v)/\V.cell? ⟨g,3,none⟩=some (.int .i64 x.f)/\V.cell? ⟨g,4,none⟩=some (.int .i64 x.a):=by
 have hb':BoxB V kb rb n o l ve:=(h.block _ hb.lt).trans hb
 obtain⟨_,c1,c2,_⟩:=hb'.cells
 obtain⟨p0,p1,p2,p3,p4⟩:=fC hx h
 exact⟨h,c1,c2,p0,p1,p2,p3,p4⟩
theorem cI{V:World}{g:Nat}{x:Ev}(hx:V.heap[g]?=some (.cells #[.int .u8 x.k,.int .i64 x.r,.int .i64 x.v,.int .i64 x.f,.int .i64 x.a] 231)) :
 V.heap[g]?=some (.cells #[.int .u8 x.k,.int .i64 x.r,.int .i64 x.v,.int .i64 x.f,.int .i64 x.a] 231)/\V.cell? ⟨g,0,none⟩=some (.int .u8 x.k)/\V.cell? ⟨g,1,none⟩=some (.int .i64 x.r)/\V.cell? ⟨g,2,none⟩=some (.int .i64 x.v)/\V.cell? ⟨g,3,none⟩=some (.int .i64 x.f)/\V.cell? ⟨g,4,none⟩=some (.int .i64 x.a):=by
 obtain⟨p0,p1,p2,p3,p4⟩:=fC hx (Below.refl _ _)
 exact⟨hx,p0,p1,p2,p3,p4⟩
theorem TabQ.box{B:Nat}{W:World}{rb n kb rb' n' o l:Nat}{ve:Value}{vs:Nat->Value}{rows:Nat->List Int}(h:TabQ B W rb n vs rows)(hb:BoxB W kb rb' n' o l ve)(i:Nat)(u:Value):TabQ B (W.setCell ⟨kb,i,none⟩ u) rb n vs rows:=by
 refine⟨h.base,World.rowIs.of_block h.tab (Below.heap_setCell _ _ _ _ (fun e=>?_)),fun j hj=>(h.rows j hj).kept fun k c fr _ hk=>Below.heap_setCell _ _ _ _ (fun e=>?_)⟩
 ·obtain⟨c',h1,_⟩:=h.tab
  have h2:=hb
  unfold BoxB at h2
  rw[<-show rb=kb from e,h1] at h2
  cases h2
 ·have h2:=hb
  unfold BoxB at h2
  rw[<-show k=kb from e,hk] at h2
  cases h2
theorem put_fin{B kb rb n o l:Nat}{ve v6:Value}{vs:Nat->Value}{rows:Nat->List Int}{es:List Ev}{x:Ev}{w Z w6:World}(hb:BoxB w kb rb n o l ve)(ht:TabQ B w rb n vs rows)(ho:w.ownsRow B 231 5 ve es.length (aY es))(hkb:B<=kb)(h1:Below w.heap.size w Z)
 (hown:w6.ownsRow B 231 5 v6 (es.length+1) (aY es ++ evC x)) (hg:Z.grownBy w6 ve.ownBlock) (hl:∀k,v6.ownBlock=some k->ve.ownBlock=some k∨k=Z.heap.size) :
 w6.cell? ⟨kb,3,none⟩=some ve/\w6.frozen? ⟨kb,3,none⟩=false/\Put2 w (w6.setCell ⟨kb,3,none⟩ v6) kb ve.ownBlock/\BoxB (w6.setCell ⟨kb,3,none⟩ v6) kb rb n o l v6/\(w6.setCell ⟨kb,3,none⟩ v6).ownsRow B 231 5 v6 (es ++ [x]).length (aY (es ++ [x]))/\TabQ B (w6.setCell ⟨kb,3,none⟩ v6) rb n vs rows/\∀k,v6.ownBlock=some k->ve.ownBlock=some k∨w.heap.size<=k:=by
 have hbZ:BoxB Z kb rb n o l ve:=(h1.block _ hb.lt).trans hb
 have hoZ:Z.ownsRow B 231 5 ve es.length (aY es):=own_of_block ho (fun k hk=>h1.block _ (ho.lt k hk).2)
 have hne:=aV hoZ hbZ (by decide)
 have hb6:BoxB w6 kb rb n o l ve:=(hg.block _ hbZ.lt (fun e=>hne e.symm)).trans hbZ
 have ht6:=(ht.on h1).grown hoZ (by decide) (by decide) hg
 obtain⟨_,_,_,c3⟩:=hb6.cells
 have hne6:=aV hown hb6 (by decide)
 refine⟨c3,aj hb6,⟨hg.os.trans h1.os,hg.tape.trans h1.tape,hg.output.trans h1.output,by simpa using Nat.le_trans h1.size hg.size,fun k hk hkk hrow=>?_⟩,?_,?_,ht6.box hb6 3 v6,fun k hk=>?_⟩
 ·exact(Below.heap_setCell _ _ _ _ hkk).trans ((hg.block k (Nat.lt_of_lt_of_le hk h1.size) hrow).trans (h1.block k hk))
 ·exact set_obj (c:=3) v6 hb6
 ·rw[List.length_append,nY]
  exact own_of_block hown (fun k hk=>Below.heap_setCell _ _ _ _ (fun e=>hne6 (by rw[hk];exact congrArg some e)))
 ·rcases hl k hk with e | e
  ·exact .inl e
  ·exact .inr (by rw[e];exact h1.size)
set_option maxRecDepth 100000 in
set_option maxHeartbeats 6400000 in
theorem qput_any{B kb rb n o l:Nat}{ve:Value}{vs:Nat->Value}{rows:Nat->List Int}{es:List Ev}(x:Ev)(w:World)(hb:BoxB w kb rb n o l ve)(ht:TabQ B w rb n vs rows)(ho:w.ownsRow B 231 5 ve es.length (aY es))(hes:es.length<=2000000)(hB:B<=kb) :
 Calls Tryz.prog 130 #[.pointer (some ⟨kb,0,none⟩),.agg #[.int .u8 x.k,.int .i64 x.r,.int .i64 x.v,.int .i64 x.f,.int .i64 x.a]] w fun e w'=>PutE B kb rb n o l ve rows es x e w w':=by
 obtain⟨i0,hi0,hz0,hz1,hz2⟩:=info_parts Tryz.infoQEvent
 obtain⟨W0,eW0⟩:∃W0,W0=w.alloc (.cells #[.int .u8 x.k,.int .i64 x.r,.int .i64 x.v,.int .i64 x.f,.int .i64 x.a] 231):=⟨_,rfl⟩
 have HB0:=zH (show Below w.heap.size w W0 by rw[eW0];exact(Below.refl _ _).alloc (Nat.le_refl _) _)
 have HO0:=zH (show W0.heap[w.heap.size]?=some (.cells #[.int .u8 x.k,.int .i64 x.r,.int .i64 x.v,.int .i64 x.f,.int .i64 x.a] 231) by rw[eW0];exact ib rfl rfl)
 have HBX:=zH hb
 have HTB:=zH ht
 have HOW:=zH ho
 have HK:=zH hB
 have HBO:=zH (show BoxB W0 kb rb n o l ve from(HB0.out.block _ hb.lt).trans hb)
 have EW0:=zH eW0
 clear hb ht ho eW0 hB
 cases hz:gC o l x.k x.r x.f x.a
 ·have HZ:=zH hz
  have HE:=zH (fun e w'=>show PutE B kb rb n o l ve rows es x e w w'↔e=.returned (.int .i64 1)/\Below w.heap.size w w' by unfold PutE;rw[hz,if_neg Bool.false_ne_true])
  clear hz
  go_enter Tryz.func130,Tryz.ntmps130
  go_wp2_with fail
  rw[<-EW0.out]
  refine wp_region_held_drew (S:=(fun V=>Below W0.heap.size W0 V/\V.cell? ⟨kb,1,none⟩=some (.int .i64 o)/\V.cell? ⟨kb,2,none⟩=some (.int .i64 l)/\V.cell? ⟨w.heap.size,0,none⟩=some (.int .u8 x.k)/\V.cell? ⟨w.heap.size,1,none⟩=some (.int .i64 x.r)/\V.cell? ⟨w.heap.size,2,none⟩=some (.int .i64 x.v)/\V.cell? ⟨w.heap.size,3,none⟩=some (.int .i64 x.f)/\V.cell? ⟨w.heap.size,4,none⟩=some (.int .i64 x.a))) (by kernel_rfl) ?_ (fun hHeld=>?_)
  ·first | exact dZ HBO.out HO0.out (Below.refl _ _) | exact dZ HBO.out HO0.out (Below.refl _ _).drew
  refine tkV 0 (.pointer (some ⟨kb,0,none⟩)) rfl (fun W hSW=>?_) hHeld ?_
  ·((try dsimp only at hSW);go_split_ands;go_simp <;> with_reducible rfl)
  try simp only[zA,zB,zC,Act.put,zD,zE,zF]
  refine tkV 1 (.bool false) rfl (fun W hSW=>?_) hHeld ?_
  ·((try dsimp only at hSW);go_split_ands;go_simp <;> with_reducible rfl)
  try simp only[zA,zB,zC,Act.put,zD,zE,zF]
  refine tkV 2 (.bool false) rfl (fun W hSW=>?_) hHeld ?_
  ·((try dsimp only at hSW);go_split_ands;go_simp <;> with_reducible rfl)
  try simp only[zA,zB,zC,Act.put,zD,zE,zF]
  refine tkV 3 (.pointer (some ⟨kb,0,none⟩)) rfl (fun W hSW=>?_) hHeld ?_
  ·((try dsimp only at hSW);go_split_ands;go_simp <;> with_reducible rfl)
  try simp only[zA,zB,zC,Act.put,zD,zE,zF]
  refine tkV 4 (.pointer (some ⟨kb,0,none⟩)) rfl (fun W hSW=>?_) hHeld ?_
  ·((try dsimp only at hSW);go_split_ands;go_simp <;> with_reducible rfl)
  try simp only[zA,zB,zC,Act.put,zD,zE,zF]
  refine tkV 5 (.pointer (some ⟨kb,1,none⟩)) rfl (fun W hSW=>?_) hHeld ?_
  ·((try dsimp only at hSW);go_split_ands;go_simp <;> with_reducible rfl)
  try simp only[zA,zB,zC,Act.put,zD,zE,zF]
  refine tkV 6 (.agg #[.int .i64 o,.int .i64 l]) rfl (fun W hSW=>?_) hHeld ?_
  ·((try dsimp only at hSW);go_split_ands;go_simp <;> with_reducible rfl)
  try simp only[zA,zB,zC,Act.put,zD,zE,zF]
  refine tkV 7 (.agg #[.int .u8 x.k,.int .i64 x.r,.int .i64 x.v,.int .i64 x.f,.int .i64 x.a]) rfl (fun W hSW=>?_) hHeld ?_
  ·((try dsimp only at hSW);go_split_ands;go_simp <;> with_reducible rfl)
  try simp only[zA,zB,zC,Act.put,zD,zE,zF]
  refine wpAnyH_ready (rs:=[8]) (by kernel_rfl) (by simp) ?_
  refine AllReadyH.cons rfl (fun K hK=>?_) AllReadyH.nil
  try simp only[zA,zB,zC]
  go_simp
  (refine(mG o l x.k x.r x.v x.f x.a _).mono ?_;rintro e w1 ⟨rfl,hb⟩;rw[HZ.out])
  try go_wp2_with fail
  refine hK.out _ _ ?_ (fun hHeld=>?_)
  ·exact dZ HBO.out HO0.out (hHeld.1.trans (hb.mono hHeld.1.size))
  clear hK K
  try simp only[zA,zB,zC,Act.put,zD,zE,zF]
  refine tkV 9 (.bool true) rfl (fun W hSW=>?_) hHeld ?_
  ·((try dsimp only at hSW);go_split_ands;go_simp <;> with_reducible rfl)
  try simp only[zA,zB,zC,Act.put,zD,zE,zF]
  refine tkV 10 (.bool true) rfl (fun W hSW=>?_) hHeld ?_
  ·((try dsimp only at hSW);go_split_ands;go_simp <;> with_reducible rfl)
  try simp only[zA,zB,zC,Act.put,zD,zE,zF]
  refine wpAnyH_done (by kernel_rfl) ?_ _
  have HB9:=zH hHeld.1
  clear hHeld
  go_wp2_with fail
  go_ret
  exact(HE.out _ _).2 ⟨rfl,HB0.out.trans (HB9.out.mono HB0.out.size)⟩
 ·have HZ:=zH hz
  have HE:=zH (fun e w'=>show PutE B kb rb n o l ve rows es x e w w'↔e=.returned (.int .i64 0)/\Put2 w w' kb ve.ownBlock/\∃ve',BoxB w' kb rb n o l ve'/\w'.ownsRow B 231 5 ve' (es ++ [x]).length (aY (es ++ [x]))/\(∃vs,TabQ B w' rb n vs rows)/\∀k,ve'.ownBlock=some k->ve.ownBlock=some k∨w.heap.size<=k by unfold PutE;rw[hz,if_pos rfl])
  clear hz
  go_enter Tryz.func130,Tryz.ntmps130
  go_wp2_with fail
  rw[<-EW0.out]
  refine wp_region_held_drew (S:=(fun V=>Below W0.heap.size W0 V/\V.cell? ⟨kb,1,none⟩=some (.int .i64 o)/\V.cell? ⟨kb,2,none⟩=some (.int .i64 l)/\V.cell? ⟨w.heap.size,0,none⟩=some (.int .u8 x.k)/\V.cell? ⟨w.heap.size,1,none⟩=some (.int .i64 x.r)/\V.cell? ⟨w.heap.size,2,none⟩=some (.int .i64 x.v)/\V.cell? ⟨w.heap.size,3,none⟩=some (.int .i64 x.f)/\V.cell? ⟨w.heap.size,4,none⟩=some (.int .i64 x.a))) (by kernel_rfl) ?_ (fun hHeld=>?_)
  ·first | exact dZ HBO.out HO0.out (Below.refl _ _) | exact dZ HBO.out HO0.out (Below.refl _ _).drew
  refine tkV 0 (.pointer (some ⟨kb,0,none⟩)) rfl (fun W hSW=>?_) hHeld ?_
  ·((try dsimp only at hSW);go_split_ands;go_simp <;> with_reducible rfl)
  try simp only[zA,zB,zC,Act.put,zD,zE,zF]
  refine tkV 1 (.bool false) rfl (fun W hSW=>?_) hHeld ?_
  ·((try dsimp only at hSW);go_split_ands;go_simp <;> with_reducible rfl)
  try simp only[zA,zB,zC,Act.put,zD,zE,zF]
  refine tkV 2 (.bool false) rfl (fun W hSW=>?_) hHeld ?_
  ·((try dsimp only at hSW);go_split_ands;go_simp <;> with_reducible rfl)
  try simp only[zA,zB,zC,Act.put,zD,zE,zF]
  refine tkV 3 (.pointer (some ⟨kb,0,none⟩)) rfl (fun W hSW=>?_) hHeld ?_
  ·((try dsimp only at hSW);go_split_ands;go_simp <;> with_reducible rfl)
  try simp only[zA,zB,zC,Act.put,zD,zE,zF]
  refine tkV 4 (.pointer (some ⟨kb,0,none⟩)) rfl (fun W hSW=>?_) hHeld ?_
  ·((try dsimp only at hSW);go_split_ands;go_simp <;> with_reducible rfl)
  try simp only[zA,zB,zC,Act.put,zD,zE,zF]
  refine tkV 5 (.pointer (some ⟨kb,1,none⟩)) rfl (fun W hSW=>?_) hHeld ?_
  ·((try dsimp only at hSW);go_split_ands;go_simp <;> with_reducible rfl)
  try simp only[zA,zB,zC,Act.put,zD,zE,zF]
  refine tkV 6 (.agg #[.int .i64 o,.int .i64 l]) rfl (fun W hSW=>?_) hHeld ?_
  ·((try dsimp only at hSW);go_split_ands;go_simp <;> with_reducible rfl)
  try simp only[zA,zB,zC,Act.put,zD,zE,zF]
  refine tkV 7 (.agg #[.int .u8 x.k,.int .i64 x.r,.int .i64 x.v,.int .i64 x.f,.int .i64 x.a]) rfl (fun W hSW=>?_) hHeld ?_
  ·((try dsimp only at hSW);go_split_ands;go_simp <;> with_reducible rfl)
  try simp only[zA,zB,zC,Act.put,zD,zE,zF]
  refine wpAnyH_ready (rs:=[8]) (by kernel_rfl) (by simp) ?_
  refine AllReadyH.cons rfl (fun K hK=>?_) AllReadyH.nil
  try simp only[zA,zB,zC]
  go_simp
  (refine(mG o l x.k x.r x.v x.f x.a _).mono ?_;rintro e w1 ⟨rfl,hb⟩;rw[HZ.out])
  try go_wp2_with fail
  refine hK.out _ _ ?_ (fun hHeld=>?_)
  ·exact dZ HBO.out HO0.out (hHeld.1.trans (hb.mono hHeld.1.size))
  clear hK K
  try simp only[zA,zB,zC,Act.put,zD,zE,zF]
  refine tkV 9 (.bool false) rfl (fun W hSW=>?_) hHeld ?_
  ·((try dsimp only at hSW);go_split_ands;go_simp <;> with_reducible rfl)
  try simp only[zA,zB,zC,Act.put,zD,zE,zF]
  refine tkV 10 (.bool false) rfl (fun W hSW=>?_) hHeld ?_
  ·((try dsimp only at hSW);go_split_ands;go_simp <;> with_reducible rfl)
  try simp only[zA,zB,zC,Act.put,zD,zE,zF]
  refine wpAnyH_done (by kernel_rfl) ?_ _
  have HB9:=zH hHeld.1
  have HBA:=zH (HB0.out.trans (hHeld.1.mono HB0.out.size))
  have HO9:=zH ((hHeld.1.block _ (heap_some_lt HO0.out)).trans HO0.out)
  have HX9:=zH (show BoxB w1 kb rb n o l ve from(hHeld.1.block _ HBO.out.lt).trans HBO.out)
  clear hHeld hb
  go_upto_region 3 with fail
  have hcA:w1.cell? ⟨kb,3,none⟩=some ve:=HX9.out.cells.2.2.2
  have hcB:w1.drew.cell? ⟨kb,3,none⟩=some ve:=hcA
  have hcC:(w1.alloc (.cells #[.int .u8 x.k,.int .i64 x.r,.int .i64 x.v,.int .i64 x.f,.int .i64 x.a] 231)).cell? ⟨kb,3,none⟩=some ve:=(show BoxB (w1.alloc (.cells #[.int .u8 x.k,.int .i64 x.r,.int .i64 x.v,.int .i64 x.f,.int .i64 x.a] 231)) kb rb n o l ve from((Below.refl w1.heap.size w1).alloc (Nat.le_refl _) _ |>.block _ HX9.out.lt).trans HX9.out).cells.2.2.2
  have hcD:(w1.alloc (.cells #[.int .u8 x.k,.int .i64 x.r,.int .i64 x.v,.int .i64 x.f,.int .i64 x.a] 231)).drew.cell? ⟨kb,3,none⟩=some ve:=hcC
  have hcE:(w1.drew.alloc (.cells #[.int .u8 x.k,.int .i64 x.r,.int .i64 x.v,.int .i64 x.f,.int .i64 x.a] 231)).cell? ⟨kb,3,none⟩=some ve:=hcC
  have HZB:=zH (show Below w1.heap.size w1 (w1.alloc (.cells #[.int .u8 x.k,.int .i64 x.r,.int .i64 x.v,.int .i64 x.f,.int .i64 x.a] 231)) from(Below.refl _ _).alloc (Nat.le_refl _) _)
  have HZN:=zH (show (w1.alloc (.cells #[.int .u8 x.k,.int .i64 x.r,.int .i64 x.v,.int .i64 x.f,.int .i64 x.a] 231)).heap[w1.heap.size]?=some (.cells #[.int .u8 x.k,.int .i64 x.r,.int .i64 x.v,.int .i64 x.f,.int .i64 x.a] 231) from ib rfl rfl)
  refine wp_region_held_drew (S:=(fun V=>V.heap[w.heap.size]?=some (.cells #[.int .u8 x.k,.int .i64 x.r,.int .i64 x.v,.int .i64 x.f,.int .i64 x.a] 231)/\V.cell? ⟨w.heap.size,0,none⟩=some (.int .u8 x.k)/\V.cell? ⟨w.heap.size,1,none⟩=some (.int .i64 x.r)/\V.cell? ⟨w.heap.size,2,none⟩=some (.int .i64 x.v)/\V.cell? ⟨w.heap.size,3,none⟩=some (.int .i64 x.f)/\V.cell? ⟨w.heap.size,4,none⟩=some (.int .i64 x.a))) (by kernel_rfl) ?_ (fun hHeld=>?_)
  ·exact cI HO9.out
  refine tkV 0 (.pointer (some ⟨kb,0,none⟩)) rfl (fun W hSW=>?_) hHeld ?_
  ·((try dsimp only at hSW);go_split_ands;go_simp <;> with_reducible rfl)
  try simp only[zA,zB,zC,Act.put,zD,zE,zF]
  refine tkV 1 (.pointer (some ⟨kb,0,none⟩)) rfl (fun W hSW=>?_) hHeld ?_
  ·((try dsimp only at hSW);go_split_ands;go_simp <;> with_reducible rfl)
  try simp only[zA,zB,zC,Act.put,zD,zE,zF]
  refine tkV 2 (.pointer (some ⟨kb,0,none⟩)) rfl (fun W hSW=>?_) hHeld ?_
  ·((try dsimp only at hSW);go_split_ands;go_simp <;> with_reducible rfl)
  try simp only[zA,zB,zC,Act.put,zD,zE,zF]
  refine tkV 3 (.pointer (some ⟨kb,3,none⟩)) rfl (fun W hSW=>?_) hHeld ?_
  ·((try dsimp only at hSW);go_split_ands;go_simp <;> with_reducible rfl)
  try simp only[zA,zB,zC,Act.put,zD,zE,zF]
  refine tkV 5 (.agg #[.int .u8 x.k,.int .i64 x.r,.int .i64 x.v,.int .i64 x.f,.int .i64 x.a]) rfl (fun W hSW=>?_) hHeld ?_
  ·((try dsimp only at hSW);go_split_ands;go_simp <;> with_reducible rfl)
  try simp only[zA,zB,zC,Act.put,zD,zE,zF]
  refine wpAnyH_ready (rs:=[4,6]) (by kernel_rfl) (by simp) ?_
  refine AllReadyH.cons rfl (fun K hK=>?_) (AllReadyH.cons rfl (fun K hK=>?_) AllReadyH.nil)
  ·skip
   try simp only[zA,zB,zC]
   go_simp
   try go_wp2_with fail
   refine hK.out _ _ ?_ (fun hHeld=>?_)
   ·exact cI hHeld.1
   clear hK K
   try simp only[zA,zB,zC,Act.put,zD,zE,zF]
   refine wpAnyH_ready (rs:=[6]) (by kernel_rfl) (by simp) ?_
   refine AllReadyH.cons rfl (fun K hK=>?_) AllReadyH.nil
   try simp only[zA,zB,zC]
   go_simp
   try go_wp2_with fail
   refine hK.out _ _ ?_ (fun hHeld=>?_)
   ·exact cI ((HZB.out.block _ (heap_some_lt HO9.out)).trans HO9.out)
   clear hK K
   try simp only[zA,zB,zC,Act.put,zD,zE,zF]
   refine wpAnyH_ready (rs:=[7]) (by kernel_rfl) (by simp) ?_
   refine AllReadyH.cons rfl (fun K hK=>?_) AllReadyH.nil
   refine step_append_lies _ rfl (.tmp 20) (.tmp 22) 57 rfl B 231 i0 (.agg #[.int .u8 0,.int .i64 0,.int .i64 0,.int .i64 0,.int .i64 0]) 5 40 Tryz.underlying57 hi0 hz0 hz1 hz2 rfl (by decide) ve es.length (aY es) (by rfl) (own_of_block HOW.out (fun k hk=>(HZB.out.block _ (Nat.lt_of_lt_of_le (HOW.out.lt k hk).2 HBA.out.size)).trans (HBA.out.block _ (HOW.out.lt k hk).2))) ⟨w1.heap.size,0,none⟩ 1 1 (evC x) (by rfl) rfl (World.news_of_block (cs:=#[.int .u8 x.k,.int .i64 x.r,.int .i64 x.v,.int .i64 x.f,.int .i64 x.a]) (t:=231) (fr:=(0,0)) HZN.out) (nX x) (by decide) (by unfold maxLen;omega) (by omega) (Nat.le_trans HK.out (Nat.le_of_lt (Nat.lt_of_lt_of_le HBX.out.lt (Nat.le_trans HBA.out.size HZB.out.size)))) (w1.heap.size+1) (by simp) ?_
   intro g2 cap2 w6 hown hg hat hlt
   have HF:=zH (put_fin HBX.out HTB.out HOW.out HK.out (by first | exact HBA.out.trans (HZB.out.mono HBA.out.size) | exact(HBA.out.trans (HZB.out.mono HBA.out.size)).drew) hown hg (fun k hk=>by cases hk;rcases hat with e | e;exact .inl e;exact .inr (by rw[e];simp)))
   have hc6:=HF.out.1
   have hf6:=HF.out.2.1
   have HO6:=zH ((hg.block _ (heap_some_lt hHeld.1) (fun e=>by have h1:=(HOW.out.lt _ e.symm).2;omega)).trans hHeld.1)
   refine hK.out _ _ ?_ (fun hHeld=>?_)
   ·exact cI HO6.out
   clear hK K
   try simp only[zA,zB,zC,Act.put,zD,zE,zF]
   clear hown hg hat hlt
   refine tkV 8 (.pointer (some ⟨kb,0,none⟩)) rfl (fun W hSW=>?_) hHeld ?_
   ·((try dsimp only at hSW);go_split_ands;go_simp <;> with_reducible rfl)
   try simp only[zA,zB,zC,Act.put,zD,zE,zF]
   refine tkV 9 (.pointer (some ⟨kb,3,none⟩)) rfl (fun W hSW=>?_) hHeld ?_
   ·((try dsimp only at hSW);go_split_ands;go_simp <;> with_reducible rfl)
   try simp only[zA,zB,zC,Act.put,zD,zE,zF]
   refine wpAnyH_ready (rs:=[10]) (by kernel_rfl) (by simp) ?_
   refine AllReadyH.cons rfl (fun K hK=>?_) AllReadyH.nil
   try simp only[zA,zB,zC]
   go_simp
   try go_wp2_with fail
   refine hK.out _ _ ?_ (fun hHeld=>?_)
   ·exact cI ((Below.heap_setCell _ _ _ _ (by have h1:=HBX.out.lt;exact fun e=>absurd e (by show ¬w.heap.size=kb;omega))).trans HO6.out)
   clear hK K
   try simp only[zA,zB,zC,Act.put,zD,zE,zF]
   refine wpAnyH_done (by kernel_rfl) ?_ _
   clear hHeld
   go_wp2_with fail
   go_ret
   exact(HE.out _ _).2 ⟨rfl,HF.out.2.2.1,_,HF.out.2.2.2.1,HF.out.2.2.2.2.1,⟨_,HF.out.2.2.2.2.2.1⟩,HF.out.2.2.2.2.2.2⟩
  ·skip
   try simp only[zA,zB,zC]
   go_simp
   try go_wp2_with fail
   refine hK.out _ _ ?_ (fun hHeld=>?_)
   ·exact cI ((HZB.out.block _ (heap_some_lt HO9.out)).trans HO9.out)
   clear hK K
   try simp only[zA,zB,zC,Act.put,zD,zE,zF]
   refine wpAnyH_ready (rs:=[4]) (by kernel_rfl) (by simp) ?_
   refine AllReadyH.cons rfl (fun K hK=>?_) AllReadyH.nil
   try simp only[zA,zB,zC]
   go_simp
   try go_wp2_with fail
   refine hK.out _ _ ?_ (fun hHeld=>?_)
   ·exact cI hHeld.1
   clear hK K
   try simp only[zA,zB,zC,Act.put,zD,zE,zF]
   refine wpAnyH_ready (rs:=[7]) (by kernel_rfl) (by simp) ?_
   refine AllReadyH.cons rfl (fun K hK=>?_) AllReadyH.nil
   refine step_append_lies _ rfl (.tmp 20) (.tmp 22) 57 rfl B 231 i0 (.agg #[.int .u8 0,.int .i64 0,.int .i64 0,.int .i64 0,.int .i64 0]) 5 40 Tryz.underlying57 hi0 hz0 hz1 hz2 rfl (by decide) ve es.length (aY es) (by rfl) (own_of_block HOW.out (fun k hk=>(HZB.out.block _ (Nat.lt_of_lt_of_le (HOW.out.lt k hk).2 HBA.out.size)).trans (HBA.out.block _ (HOW.out.lt k hk).2))) ⟨w1.heap.size,0,none⟩ 1 1 (evC x) (by rfl) rfl (World.news_of_block (cs:=#[.int .u8 x.k,.int .i64 x.r,.int .i64 x.v,.int .i64 x.f,.int .i64 x.a]) (t:=231) (fr:=(0,0)) HZN.out) (nX x) (by decide) (by unfold maxLen;omega) (by omega) (Nat.le_trans HK.out (Nat.le_of_lt (Nat.lt_of_lt_of_le HBX.out.lt (Nat.le_trans HBA.out.size HZB.out.size)))) (w1.heap.size+1) (by simp) ?_
   intro g2 cap2 w6 hown hg hat hlt
   have HF:=zH (put_fin HBX.out HTB.out HOW.out HK.out (by first | exact HBA.out.trans (HZB.out.mono HBA.out.size) | exact(HBA.out.trans (HZB.out.mono HBA.out.size)).drew) hown hg (fun k hk=>by cases hk;rcases hat with e | e;exact .inl e;exact .inr (by rw[e];simp)))
   have hc6:=HF.out.1
   have hf6:=HF.out.2.1
   have HO6:=zH ((hg.block _ (heap_some_lt hHeld.1) (fun e=>by have h1:=(HOW.out.lt _ e.symm).2;omega)).trans hHeld.1)
   refine hK.out _ _ ?_ (fun hHeld=>?_)
   ·exact cI HO6.out
   clear hK K
   try simp only[zA,zB,zC,Act.put,zD,zE,zF]
   clear hown hg hat hlt
   refine tkV 8 (.pointer (some ⟨kb,0,none⟩)) rfl (fun W hSW=>?_) hHeld ?_
   ·((try dsimp only at hSW);go_split_ands;go_simp <;> with_reducible rfl)
   try simp only[zA,zB,zC,Act.put,zD,zE,zF]
   refine tkV 9 (.pointer (some ⟨kb,3,none⟩)) rfl (fun W hSW=>?_) hHeld ?_
   ·((try dsimp only at hSW);go_split_ands;go_simp <;> with_reducible rfl)
   try simp only[zA,zB,zC,Act.put,zD,zE,zF]
   refine wpAnyH_ready (rs:=[10]) (by kernel_rfl) (by simp) ?_
   refine AllReadyH.cons rfl (fun K hK=>?_) AllReadyH.nil
   try simp only[zA,zB,zC]
   go_simp
   try go_wp2_with fail
   refine hK.out _ _ ?_ (fun hHeld=>?_)
   ·exact cI ((Below.heap_setCell _ _ _ _ (by have h1:=HBX.out.lt;exact fun e=>absurd e (by show ¬w.heap.size=kb;omega))).trans HO6.out)
   clear hK K
   try simp only[zA,zB,zC,Act.put,zD,zE,zF]
   refine wpAnyH_done (by kernel_rfl) ?_ _
   clear hHeld
   go_wp2_with fail
   go_ret
   exact(HE.out _ _).2 ⟨rfl,HF.out.2.2.1,_,HF.out.2.2.2.1,HF.out.2.2.2.2.1,⟨_,HF.out.2.2.2.2.2.1⟩,HF.out.2.2.2.2.2.2⟩
set_option maxRecDepth 100000 in
theorem rI{B kb rb n o l:Nat}{ve:Value}{es:List Ev}(w:World)(hb:BoxB w kb rb n o l ve)(ho:w.ownsRow B 231 5 ve es.length (aY es))(hes:es.length<=2000000) :
 Calls Tryz.prog 31 #[.pointer (some ⟨kb,0,none⟩)] w fun e w'=>(∃v,e=.returned v/\lh w'.heap.size w' v es)/\Below w.heap.size w w':=by
 obtain⟨i0,hi0,hz0,hz1,hz2⟩:=info_parts Tryz.infoQEvent
 obtain⟨_,_,_,c3⟩:=hb.cells
 have HS:=zH (mH ho).src
 clear hb ho
 go_enter Tryz.func31,Tryz.ntmps31
 go_wp2_with (first
  | (at_builtin
     go_loud (
     refine wpList_append_any rfl _ _ 57 rfl w.heap.size 231 i0 (.agg #[.int .u8 0,.int .i64 0,.int .i64 0,.int .i64 0,.int .i64 0]) 5 40 Tryz.underlying57 hi0 hz0 hz1 hz2 rfl (by decide) (.slice none 0 0) 0 [] rfl (World.ownsRow_nil _ _ _ _) ve es.length (aY es) rfl (kf es) HS.out (pF es) (by unfold maxLen;omega) (by omega) (Nat.le_refl _) ?_
     intro v1 w1 ho hg
     have HD:=zH (show lh w1.heap.size w1 v1 es/\Below w.heap.size w w1 from⟨mH (own0 ho),(Below.refl _ _).grown hg (Nat.le_refl _) (fun k e=>by cases e)⟩)
     clear ho hg)))
 go_ret
 exact⟨⟨_,rfl,HD.out.1⟩,HD.out.2⟩
end
end Go.Proofs.YtjngffgkllakaaaGreatDoor
namespace Go.Proofs.YtjngffgkllakaaaGreatDoor.IP
open List renaming getElem_toArray → zA, getElem_cons_succ → zB, getElem_cons_zero → zC, setIfInBounds_toArray → zD, set_cons_zero → zE, set_cons_succ → zF
open Lib renaming hid → zH
section
open Go.RowKit
open CD (OpP BodyP CodeP ae blAt fnAt)
theorem RunM.cells{K:Kst}{W:World}{frv:Value}{st:Int}(h:RunM K W frv st):W.cell? ⟨K.Rb,0,none⟩=some K.fv/\W.cell? ⟨K.Rb,1,none⟩=some K.av/\W.cell? ⟨K.Rb,2,none⟩=some (.pointer (some ⟨K.kb,0,none⟩))/\W.cell? ⟨K.Rb,3,none⟩=some frv/\W.cell? ⟨K.Rb,4,none⟩=some K.rv/\W.cell? ⟨K.Rb,5,none⟩=some K.tv/\W.cell? ⟨K.Rb,6,none⟩=some (.int .i64 K.fuel)/\W.cell? ⟨K.Rb,7,none⟩=some (.int .i64 st) :=
 ⟨cell_of_row _ _ 0 _ _ _ h,cell_of_row _ _ 1 _ _ _ h,cell_of_row _ _ 2 _ _ _ h,cell_of_row _ _ 3 _ _ _ h,cell_of_row _ _ 4 _ _ _ h,cell_of_row _ _ 5 _ _ _ h,cell_of_row _ _ 6 _ _ _ h,cell_of_row _ _ 7 _ _ _ h⟩
theorem FrM.cells{K:Kst}{W:World}{i:Nat}{f:FrS}(h:FrM K W i f):W.cell? ⟨f.fb,0,none⟩=some (.int .i64 f.num)/\W.cell? ⟨f.fb,1,none⟩=some (K.us f.num)/\W.cell? ⟨f.fb,2,none⟩=some (K.rs i)/\W.cell? ⟨f.fb,3,none⟩=some (.int .i64 f.bl)/\W.cell? ⟨f.fb,4,none⟩=some (.int .i64 f.pl) :=
 ⟨cell_of_row _ _ 0 _ _ _ h,cell_of_row _ _ 1 _ _ _ h,cell_of_row _ _ 2 _ _ _ h,cell_of_row _ _ 3 _ _ _ h,cell_of_row _ _ 4 _ _ _ h⟩
structure Top (K:Kst) (W:World) (n:Nat) (f:FrS) (st:Int) (q cap:Nat):Prop where
 run:RunM K W (.slice (some ⟨q,0,none⟩) (n+1) cap) st
 last:W.cell? ⟨q,n,none⟩=some (.pointer (some ⟨f.fb,0,none⟩))
 frm:FrM K W n f
 code:∃g1 c1 g2 c2,K.us f.num=.slice (some ⟨g1,0,none⟩) (K.nb f.num) c1/\W.cell? ⟨g1,f.bl,none⟩=some (.slice (some ⟨g2,0,none⟩) (K.len f.num f.bl) c2)/\W.cell? ⟨g2,f.pl,none⟩=some (insK K f)
 pos:iw K f
 ins:InsV K.nf K.na (K.va f.num) (K.nb f.num) (K.refs f.num) K.B0 W (decide (f.pl+1=K.len f.num f.bl)) (insK K f)
 nD:n<K.D
theorem Mach.top{K:Kst}{mf m:Nat}{W0 A:World}{fs:List FrS}{f:FrS}{st:Int}(g:Mach K mf W0 A (fs ++ [f]) st m):∃q cap,Top K A fs.length f st q cap/\A.ownsRow K.B0 122 1 (.slice (some ⟨q,0,none⟩) (fs.length+1) cap) (fs.length+1) (ptrs (fs ++ [f])):=by
 obtain⟨frv,hr,ho⟩:=g.run
 have hl:(fs ++ [f]).length=fs.length+1:=by simp
 rw[hl] at ho
 have hp:=g.pl.pos f (by simp)
 obtain⟨q,cap,e,hc⟩:∃q cap,frv=.slice (some ⟨q,0,none⟩) (fs.length+1) cap/\A.cell? ⟨q,fs.length,none⟩=some (.pointer (some ⟨f.fb,0,none⟩)):=by
  rcases ho.2 with⟨_,h0⟩ | ⟨q,cap,cur,e,_⟩
  ·omega
  ·subst e
   refine⟨q,cap,rfl,?_⟩
   rw[ho.cellAt fs.length (by omega)]
   simp [ptrs]
 subst e
 obtain⟨g1,c1,e1,h1⟩:=ji (g.core.fn.b f.num hp.1).1 hp.2.1
 obtain⟨g2,c2,e2,h2⟩:=ji (g.core.fn.i f.num f.bl hp.1 hp.2.1).1 hp.2.2
 refine⟨q,cap,⟨hr,hc,g.frm _ _ (aQ _ _),⟨g1,c1,g2,c2,e1,by rw[h1,e2],h2⟩,hp,g.core.fn.v f.num f.bl f.pl hp.1 hp.2.1 hp.2.2,by have:=g.pl.few;simp at this;omega⟩,ho⟩
set_option maxRecDepth 100000 in
theorem pQ{K:Kst}{W:World}{n:Nat}{f:FrS}{st:Int}{q cap:Nat}(h:Top K W n f st q cap)(hn:n<=1000) :
 Calls Tryz.prog 83 #[.pointer (some ⟨K.Rb,0,none⟩)] W fun e w'=>e=.returned (.pointer (some ⟨f.fb,0,none⟩))/\∃d,w'=W.drewN d:=by
 obtain⟨c0,c1,c2,c3,c4,c5,c6,c7⟩:=h.run.cells
 have hl:=h.last
 have i1:(0:Int)<=n/\(n:Int)<((n+1:Nat):Int):=by omega
 have e1:(((n+1:Nat):Int)-1)=n:=by omega
 clear c0 c1 c2 c4 c5 c6 c7
 go_enter Tryz.func83,Tryz.ntmps83
 go_wp2_with fail
 go_region
 go_wp2_with fail
 go_ret
 exact⟨rfl,_,rfl⟩
set_option maxRecDepth 100000 in
theorem ck{K:Kst}{W:World}{n:Nat}{f:FrS}{st:Int}{q cap:Nat}(h:Top K W n f st q cap)(hk:K.nb f.num<=1000/\K.len f.num f.bl<=1000000) :
 Calls Tryz.prog 124 #[.pointer (some ⟨f.fb,0,none⟩)] W fun e w'=>e=.returned (insK K f)/\∃d,w'=W.drewN d:=by
 obtain⟨c0,c1,c2,c3,c4⟩:=h.frm.cells
 obtain⟨g1,p1,g2,p2,e1,h1,h2⟩:=h.code
 rw[e1] at c1
 have hp:=h.pos
 have i1:(0:Int)<=f.bl/\(f.bl:Int)<K.nb f.num:=by have:=hp.2.1;omega
 have i2:(0:Int)<=f.pl/\(f.pl:Int)<K.len f.num f.bl:=by have:=hp.2.2;omega
 clear c0 c2 hp
 go_enter Tryz.func124,Tryz.ntmps124
 go_wp2_with fail
 go_region
 go_wp2_with fail
 go_ret
 exact⟨rfl,_,rfl⟩
end
section
open Go.RowKit
open CD (OpP BodyP CodeP ae blAt fnAt)
theorem obj3{w:World}{b:Nat}{t:TypeId}{v0 v1 v2:Value}(h:w.heap[b]?=some (.cells #[v0,v1,v2] t)):w.cell? ⟨b,0,none⟩=some v0/\w.cell? ⟨b,1,none⟩=some v1/\w.cell? ⟨b,2,none⟩=some v2:=⟨cell_of_row _ _ 0 _ _ _ h,cell_of_row _ _ 1 _ _ _ h,cell_of_row _ _ 2 _ _ _ h⟩
def Over(s:Int):Ending:=.panicked [{ v:=.iface 121 (.agg #[.int .i64 s]),recovered:=false }]
theorem oh(n:Int)(w:World):Calls Tryz.prog 125 #[.int .i64 n,.int .i64 0] w fun e w'=>e=.returned (.int .i64 n)/\w'=w:=by
 go_enter Tryz.func125,Tryz.ntmps125
 go_wp2_with fail
 go_ret
 exact⟨rfl,rfl⟩
theorem oj(n e:Int)(w:World)(he:(e != 0)=true):Calls Tryz.prog 125 #[.int .i64 n,.int .i64 e] w fun r w'=>r=Over e/\w'=w:=by
 go_enter Tryz.func125,Tryz.ntmps125
 go_wp2_with fail
 simp [bodyPost,Over]
theorem pR(n s:Int)(w:World)(hs:1<=s):Calls Tryz.prog 128 #[.int .i64 n,.int .i64 s] w fun r w'=>(∃z,r=.returned (.int .i64 z))/\w'=w:=by
 have t1:(s == 0)=false:=by rw[beq_eq_false_iff_ne];omega
 have t2:¬s=0:=by omega
 go_enter Tryz.func128,Tryz.ntmps128
 go_wp2_with fail
 ·go_ret
  exact⟨⟨_,rfl⟩,rfl⟩
 ·go_ret
  exact⟨⟨_,rfl⟩,rfl⟩
theorem way_any(a bl fi bl' fi':Nat)(v v':Value)(z:Int)(w:World)(l:∃a n c,v=.slice a n c)(l':∃a n c,v'=.slice a n c):Calls Tryz.prog 133 #[.agg #[.int .i64 a,.int .i64 bl,.int .i64 fi,v,.int .i64 bl',.int .i64 fi',v'],.int .i64 z] w fun r w'=>(r=.returned (.agg #[.int .i64 bl,.int .i64 fi,v])∨r=.returned (.agg #[.int .i64 bl',.int .i64 fi',v']))/\Below w.heap.size w w':=by
 obtain⟨va,vn,vc,rfl⟩:=l
 obtain⟨ua,un,uc,rfl⟩:=l'
 cases hz:z != 0
 all_goals (
  go_enter Tryz.func133,Tryz.ntmps133
  go_wp2_with fail)
 ·have h3:=heap_alloc_new (w.alloc (.cells #[.int .i64 a,.int .i64 bl,.int .i64 fi,.slice va vn vc,.int .i64 bl',.int .i64 fi',.slice ua un uc] 218)) (.cells #[.int .i64 bl',.int .i64 fi',.slice ua un uc] 147)
  obtain⟨y0,y1,y2⟩:=obj3 h3
  rw[World.size_alloc] at y0 y1 y2
  refine bodyPost_ret (v:=.agg #[.int .i64 bl',.int .i64 fi',.slice ua un uc]) (by simp [results,Tryz.results133,go_sem,y0,y1,y2]) rfl ?_
  exact⟨.inr rfl,((Below.refl _ _).alloc (Nat.le_refl _) _).alloc (by simp) _⟩
 ·have h3:=heap_alloc_new (w.alloc (.cells #[.int .i64 a,.int .i64 bl,.int .i64 fi,.slice va vn vc,.int .i64 bl',.int .i64 fi',.slice ua un uc] 218)) (.cells #[.int .i64 bl,.int .i64 fi,.slice va vn vc] 147)
  obtain⟨y0,y1,y2⟩:=obj3 h3
  rw[World.size_alloc] at y0 y1 y2
  refine bodyPost_ret (v:=.agg #[.int .i64 bl,.int .i64 fi,.slice va vn vc]) (by simp [results,Tryz.results133,go_sem,y0,y1,y2]) rfl ?_
  exact⟨.inl rfl,((Below.refl _ _).alloc (Nat.le_refl _) _).alloc (by simp) _⟩
end
section
open Go.RowKit
open CD (OpP BodyP CodeP ae blAt fnAt)
theorem Chg.setRow{X:Nat->Prop}{A:World}{g:Nat}{c c':Array Value}(hg:A.heap[g]?=some (.cells c 2 (0,0)))(hs:c'.size=c.size)(hz:∀(j:Nat) (z:Int),c[j]?=some (.int .i64 z)->∃z':Int,c'[j]?=some (.int .i64 z')):Chg X A (A.setRow g c'):=by
 refine⟨rfl,rfl,rfl,by simp [World.setRow],fun b o e _ hi=>?_,fun b d fr e=>?_⟩
 ·by_cases hb:b=g
  ·subst hb;rw[hg] at e;cases e;exact absurd ⟨_,_,rfl⟩ hi
  ·exact(setRow_other _ _ _ _ hb).trans e
 ·by_cases hb:b=g
  ·subst hb
   rw[hg] at e
   cases e
   exact⟨c',setRow_heap _ _ _ _ _ _ hg,hs,hz⟩
  ·exact⟨d,(setRow_other _ _ _ _ hb).trans e,rfl,fun _ z h=>⟨z,h⟩⟩
theorem js(w:World)(ty:TypeId)(g off dLen dCap:Nat)(dp sp:Option Addr)(sLen sCap:Nat)(c:Array Value)(hg:w.heap[g]?=some (.cells c 2 (0,0)))(hdp:0<dLen->dp=some ⟨g,off,none⟩/\off+dLen<=c.size)
 (hsrc:0<sLen->∃ad,sp=some ad/\∀j,j<sLen->∃z:Int,w.cell? (ad.add j)=some (.int .i64 z)) :
 ∃r w',(Builtin.copy_ #[49,49] ty #[.slice dp dLen dCap,.slice sp sLen sCap]).run Tryz.prog w=.ok r w'/\Chg (fun _=>False) w w'/\∀B,B<=g->Below B w w':=by
 by_cases h0:Nat.min sLen dLen=0
 ·exact⟨_,w,run_copy_none (P:=Tryz.prog) w _ _ ty 2 dp sp dLen dCap sLen sCap Tryz.underlying49 (by kernel_rfl) h0,Chg.refl _ _,fun _ _=>Below.refl _ _⟩
 ·have hs0:0<sLen:=by
   rcases Nat.eq_zero_or_pos sLen with e | e
   ·subst e;simp at h0
   ·exact e
  have hd0:0<dLen:=by
   rcases Nat.eq_zero_or_pos dLen with e | e
   ·subst e;simp at h0
   ·exact e
  obtain⟨rfl,hfit⟩:=hdp hd0
  obtain⟨ad,rfl,hz⟩:=hsrc hs0
  have hkl:Nat.min sLen dLen<=sLen:=Nat.min_le_left _ _
  have hkd:Nat.min sLen dLen<=dLen:=Nat.min_le_right _ _
  have hz':∀j,∃z:Int,j<sLen->w.cell? (ad.add j)=some (.int .i64 z):=fun j=>by
   by_cases hj:j<sLen
   ·obtain⟨z,h⟩:=hz j hj;exact⟨z,fun _=>h⟩
   ·exact⟨0,fun h=>absurd h hj⟩
  obtain⟨cs,ecs⟩:∃cs,cs=(List.range (Nat.min sLen dLen)).map fun j=>Value.int .i64 (hz' j).choose:=⟨_,rfl⟩
  have hl:cs.length=Nat.min sLen dLen:=by rw[ecs,List.length_map,List.length_range]
  have hat:∀j,j<Nat.min sLen dLen->cs[j]?=some (.int .i64 (hz' j).choose):=fun j hj=>by rw[ecs,List.getElem?_map,List.getElem?_range hj];rfl
  have hrun:=run_copy_row (P:=Tryz.prog) w 49 49 ty 2 g off dLen dCap ad sLen sCap c 2 cs Tryz.underlying49 (by kernel_rfl) hg hl (fun j v hj=>by
   have hj':=(List.getElem?_eq_some_iff.1 hj).1
   rw[hl] at hj'
   rw[hat j hj'] at hj
   cases hj
   exact(hz' j).choose_spec (by omega)) (by omega) (fun v hv=>by
   rw[ecs] at hv
   obtain⟨j,_,rfl⟩:=List.mem_map.1 hv
   rfl)
  refine⟨_,_,hrun,Chg.setRow hg (by simp;omega) (fun j z hj=>?_),fun B hB=>below_setRow (Below.refl _ _) hB _⟩
  have hj':=(Array.getElem?_eq_some_iff.1 hj).1
  have hcl:c.toList[j]?=some (.int .i64 z):=by simpa using hj
  rw[List.getElem?_toArray,List.append_assoc]
  by_cases h1:j<off
  ·exact⟨z,by rw[List.getElem?_append_left (by simp;omega),List.getElem?_take_of_lt h1];exact hcl⟩
  ·rw[List.getElem?_append_right (by simp;omega)]
   have e1:(c.toList.take off).length=off:=by simp;omega
   rw[e1]
   by_cases h2:j-off<cs.length
   ·rw[List.getElem?_append_left h2,hat _ (by omega)]
    exact⟨_,rfl⟩
   ·rw[List.getElem?_append_right (by omega),List.getElem?_drop,show off+cs.length+(j-off-cs.length)=j by omega]
    exact⟨z,hcl⟩
theorem kp{ops:Array Oper}{rest:List Oper}{o:Oper}{a:Act}{w:World}{Q:Exit->Act->World->Prop}(hgd:o.guard=none)(d s:Operand)(ho:o.op=.call { callee:=.builtin .copy,args:=#[d,s],argTypes:=#[49,49] })(g off dLen dCap:Nat)(dp sp:Option Addr)(sLen sCap:Nat)(hd:a.eval d=.slice dp dLen dCap)(hs:a.eval s=.slice sp sLen sCap)
 (c:Array Value) (hg:w.heap[g]?=some (.cells c 2 (0,0))) (hdp:0<dLen->dp=some ⟨g,off,none⟩/\off+dLen<=c.size) (hsrc:0<sLen->∃ad,sp=some ad/\∀j,j<sLen->∃z:Int,w.cell? (ad.add j)=some (.int .i64 z))
 (h:∀r w',Chg (fun _=>False) w w'->(∀B,B<=g->Below B w w')->wpList Tryz.prog ops Q rest (a.put o.dst r) w'):wpList Tryz.prog ops Q (o :: rest) a w:=by
 obtain⟨r,w',hrun,h1,h2⟩:=js w o.type g off dLen dCap dp sp sLen sCap c hg hdp hsrc
 refine wpList_plain hgd fun K hK=>?_
 unfold Oper.wp
 simp [execOp,ho,resolve,invoke,builtin,hd,hs,hrun,Result.andThen]
 exact hK _ _ (h r w' h1 h2)
theorem lV{ops:Array Oper}{o:Oper}{a:Act}{w:World}{K:Act->World->Prop}{Q:Exit->Act->World->Prop}{E:Prop}(hgd:o.guard=none)(d s:Operand)(ho:o.op=.call { callee:=.builtin .copy,args:=#[d,s],argTypes:=#[49,49] })(g off dLen dCap:Nat)(dp sp:Option Addr)(sLen sCap:Nat)(hd:a.eval d=.slice dp dLen dCap)(hs:a.eval s=.slice sp sLen sCap)
 (c:Array Value) (hg:w.heap[g]?=some (.cells c 2 (0,0))) (hdp:0<dLen->dp=some ⟨g,off,none⟩/\off+dLen<=c.size) (hsrc:0<sLen->∃ad,sp=some ad/\∀j,j<sLen->∃z:Int,w.cell? (ad.add j)=some (.int .i64 z))
 (h:∀r w',Chg (fun _=>False) w w'->(∀B,B<=g->Below B w w')->K (a.put o.dst r) w') :
 if Region.wanted o (yielded ops a.tmps)=true then Oper.wp Tryz.prog o a w K Q else E:=by
 have hw:Region.wanted o (yielded ops a.tmps)=true:=by simp [Region.wanted,hgd]
 rw[if_pos hw]
 obtain⟨r,w',hrun,h1,h2⟩:=js w o.type g off dLen dCap dp sp sLen sCap c hg hdp hsrc
 unfold Oper.wp
 simp [execOp,ho,resolve,invoke,builtin,hd,hs,hrun,Result.andThen]
 exact h r w' h1 h2
set_option maxRecDepth 100000 in
set_option maxHeartbeats 1600000 in
theorem some_any{K:Kst}{W:World}{n:Nat}{f:FrS}(hf:FrM K W n f)(hv:NumV K.B0 W (K.rs n) K.most)(xa:Option Addr)(xc:Nat)(xs:List Int)(hx:Row K.B0 W (.slice xa xs.length xc) xs)(hl:xs.length<=100000)(hm:K.most<=100000)(hi:∀j,j<xs.length->0<=xs[j]?.getD 0/\xs[j]?.getD 0<K.most)(hB:K.B0<=W.heap.size) :
 Calls Tryz.prog 131 #[.pointer (some ⟨f.fb,0,none⟩),.slice xa xs.length xc] W fun e w'=>∃v zs,e=.returned v/\w'.ownsRow W.heap.size 2 1 v xs.length (ao zs)/\Below W.heap.size W w':=by
 obtain⟨i0,hi0,hz0,hz1,hz2⟩:=info_parts Tryz.infoQInt
 obtain⟨g,ev,_,hg⟩:=hv.form
 rw[ev] at hv
 have HF:=zH hf
 have HV:=zH hv
 have HX:=zH hx
 have HI:=zH hi
 have HEV:=zH ev
 have HB:=zH hB
 clear hf hv hx hi ev hB
 go_enter Tryz.func131,Tryz.ntmps131
 go_wp2_with fail
 go_loopw [5,10] (fun s5 s10 wr=>∃(i:Nat) (zs:List Int),i<=xs.length/\s10=.int .i64 (i:Int)/\RowKit.Hid (wr.ownsRow W.heap.size 2 1 s5 i (ao zs)/\Below W.heap.size W wr)) (fun _ s10 _=>xs.length-(intOf s10).toNat)
 case atStart=>exact⟨0,[],Nat.zero_le _,rfl,zH ⟨World.ownsRow_nil _ _ _ _,Below.refl _ _⟩⟩
 case round =>
  obtain⟨w5,rfl⟩:∃w5,w5=wr:=⟨_,rfl⟩
  obtain⟨i,zs,hin,rfl,HO⟩:=hrel
  obtain⟨oa,oc,rfl⟩:=GG.ap HO.out.1
  by_cases hlt:i<xs.length
  ·have hx5:=HX.out.below (HO.out.2.mono HB.out)
   obtain⟨b,off,e1,hc⟩:=hx5.cellAt hlt
   cases e1
   have hb:=HI.out i hlt
   obtain⟨k,ek⟩:∃k:Nat,xs[i]?.getD 0=(k:Int):=⟨(xs[i]?.getD 0).toNat,by omega⟩
   rw[ek] at hc hb
   have hk:k<K.most:=by omega
   have f5:FrM K w5 n f:=HF.out.chg (X:=fun _=>False) (Chg.of_below HO.out.2) (fun e=>e)
   have v5:NumV K.B0 w5 (.slice (some ⟨g,0,none⟩) K.most K.most) K.most:=HV.out.chg (X:=fun _=>False) (Chg.of_below HO.out.2)
   obtain⟨c0,c1,c2,c3,c4⟩:=f5.cells
   rw[HEV.out] at c2
   obtain⟨z,hz⟩:=v5.cell hk
   have HLT:=zH hlt
   have HS:=zH HO.out.2.size
   have i1:(0:Int)<=i/\(i:Int)<xs.length:=by omega
   have i2:(0:Int)<=k/\(k:Int)<K.most:=by omega
   clear hlt hx5 f5 v5 c0 c1 c3 c4 ek hb
   go_wp2_with
    (at_builtin
     refine GG.wpList_append_any rfl _ _ 49 rfl W.heap.size 2 i0 (.int .i64 0) 1 8 Tryz.underlying49 hi0 hz0 hz1 hz2 rfl (by decide) (.slice oa i oc) i (ao zs) rfl (HO.out.1.alloc _) (.slice (some ⟨_,0,none⟩) 1 1) 1 [.int .i64 z] rfl rfl (.inr ⟨_,_,rfl,GG.aW _ _ _⟩) (by intro u hu;rw[List.mem_singleton.1 hu];rfl) (by unfold maxLen;omega) (by omega) (by have:=HS.out;simp;omega) ?_
     intro v1 w7 ho hg7
     have HN:=zH (show w7.ownsRow W.heap.size 2 1 v1 (i+1) (ao (zs ++ [z]))/\Below W.heap.size W w7 from⟨by unfold ao at ho ⊢;rw[List.map_append];exact ho,(HO.out.2.alloc HS.out _).grown hg7 (by have:=HS.out;simp;omega) (fun k e=>(HO.out.1.lt k e).1)⟩)
     clear ho hg7)
   go_roundw
   case rel=>exact⟨i+1,_,HLT.out,by go_num,HN⟩
   case measure=>have:=HLT.out;simp [intOf];omega
  ·have ei:i=xs.length:=by omega
   subst ei
   clear hlt
   go_wp2_with fail
   go_ret
   exact⟨_,zs,rfl,HO.out.1,HO.out.2⟩
end
section
open Go.RowKit
open CD (OpP BodyP CodeP ae blAt fnAt)
theorem Tryz.infoIPtr:(Tryz.prog.info? 122).map (fun i=>(i.zero,i.size,i.bytes))=some (some (.pointer none),1,8):=by kernel_rfl
theorem aK{W V:World}(hb:Below W.heap.size W V){a:Addr}{v:Value}(h:W.cell? a=some v):V.cell? a=some v:=by
 have hl:a.block<W.heap.size:=by
  rcases Nat.lt_or_ge a.block W.heap.size with h1 | h1
  ·exact h1
  ·simp [World.cell?,Array.getElem?_eq_none h1] at h
 exact(hb.cell hl).trans h
def EnterE(K:Kst)(mf:Nat)(W0:World)(fs:List FrS)(st:Int)(m n:Nat)(e:Ending)(w':World):Prop :=
 (fs.length=K.D/\e=Over 22/\Mach K mf W0 w' fs st m)∨(fs.length<K.D/\e=.returned (.tuple #[])/\∃fb,Mach K mf W0 w' (fs ++ [⟨n,0,0,fb⟩]) st m)
set_option maxRecDepth 100000 in
set_option maxHeartbeats 3200000 in
theorem jN{K:Kst}{mf m:Nat}{W0 W:World}{fs:List FrS}{st:Int}(g:Mach K mf W0 W fs st m)(n:Nat)(hn:n<K.nf)(hD:K.D<=1000)(hm:K.most<=100000)(h0:fs=[]->n=mf)(hc:∀x,fs[fs.length-1]?=some x->fQ K x n)(sa:Option Addr)(sl sc:Nat)(hs:0<sl->∃ad,sa=some ad/\∀j,j<sl->∃z:Int,W.cell? (ad.add j)=some (.int .i64 z)) :
 Calls Tryz.prog 29 #[.pointer (some ⟨K.Rb,0,none⟩),.int .i64 n,.slice sa sl sc] W fun e w'=>EnterE K mf W0 fs st m n e w':=by
 obtain⟨frv,hr,ho⟩:=g.run
 obtain⟨fa,fc,rfl⟩:=GG.ap ho
 obtain⟨ra,rc,erv⟩:=GG.ap g.core.rms
 obtain⟨c0,c1,c2,c3,c4,c5,c6,c7⟩:=hr.cells
 have hf:=g.pl.few
 rw[erv] at c4
 by_cases hd:fs.length=K.D
 ·have t1:((fs.length:Int) == (K.D:Int))=true:=by rw[beq_iff_eq];omega
  have t2:(fs.length == K.D)=true:=by rw[beq_iff_eq];omega
  have G:=zH g
  clear c0 c1 c2 c5 c6 c7
  go_enter Tryz.func29,Tryz.ntmps29
  go_wp2_with fail
  simp only[bodyPost,true_and]
  exact .inl ⟨hd,rfl,G.out⟩
 ·have hlt:fs.length<K.D:=by omega
  have t1:((fs.length:Int) == (K.D:Int))=false:=by rw[beq_eq_false_iff_ne];omega
  have t2:(fs.length == K.D)=false:=by rw[beq_eq_false_iff_ne];omega
  obtain⟨i0,hi0,hz0,hz1,hz2⟩:=info_parts Tryz.infoIPtr
  obtain⟨g1,k1,ef,hfn⟩:=ji g.core.fn.f hn
  obtain⟨g2,k2,er,hrn⟩:=ji g.core.rms hlt
  rw[ef] at c0
  rw[erv] at er
  cases er
  obtain⟨q1,q2,eu⟩:=GG.ap (g.core.fn.b n hn).1
  obtain⟨vg,evg,hvB,_⟩:=(g.core.rmn fs.length hlt).form
  rw[eu] at hfn
  rw[evg] at hrn
  have i1:(0:Int)<=n/\(n:Int)<K.nf:=by omega
  have i2:(0:Int)<=fs.length/\(fs.length:Int)<K.D:=by omega
  have G:=zH g
  have HR:=zH hr
  have HO:=zH ho
  have HS:=zH hs
  have H0:=zH h0
  have HC:=zH hc
  have EU:=zH eu
  have EVG:=zH evg
  clear c1 c2 c5 c6 c7 g hr ho hs h0 hc eu evg hf
  go_enter Tryz.func29,Tryz.ntmps29
  go_upto_region 3 with fail
  go_region
  obtain⟨w4,ew4⟩:∃w4,w4=(W.alloc (.cells #[.int .i64 n,.slice q1 (K.nb n) q2,.slice (some ⟨vg,0,none⟩) K.most K.most,.int .i64 0,.int .i64 0] 124)).drew:=⟨_,rfl⟩
  rw[<-ew4]
  have hb4:Below W.heap.size W w4:=by rw[ew4];exact((Below.refl _ _).alloc (Nat.le_refl _) _).trans ⟨rfl,rfl,rfl,Nat.le_refl _,fun _ _=>rfl⟩
  have hF4:FrM K w4 fs.length ⟨n,0,0,W.heap.size⟩:=by
   unfold FrM
   rw[EU.out,EVG.out,ew4]
   exact heap_alloc_new _ _
  have HF4:=zH hF4
  have HB4:=zH hb4
  have G4:=zH (G.out.on hb4)
  have HN4:=zH (show NumV K.B0 w4 (.slice (some ⟨vg,0,none⟩) K.most K.most) K.most by rw[<-EVG.out];exact G4.out.core.rmn fs.length hlt)
  obtain⟨vc,hvc,hvs,_⟩:∃vc:Array Value,w4.heap[vg]?=some (.cells vc 2 (0,0))/\vc.size=K.most/\K.B0<=vg:=by
   obtain⟨g',c',e,hb',hg',hs',_⟩:=HN4.out
   cases e
   exact⟨c',hg',hs',hb'⟩
  have HVC:=zH hvc
  have d2:w4.cell? ⟨W.heap.size,2,none⟩=some (.slice (some ⟨vg,0,none⟩) K.most K.most):=by have:=hF4.cells.2.2.1;rw[EVG.out] at this;exact this
  have HS4:=zH (show 0<sl->∃ad,sa=some ad/\∀j,j<sl->∃z:Int,w4.cell? (ad.add j)=some (.int .i64 z) from fun h=>by
   obtain⟨ad,e,hz⟩:=HS.out h
   exact⟨ad,e,fun j hj=>by obtain⟨z,hz⟩:=hz j hj;exact⟨z,aK hb4 hz⟩⟩)
  clear ew4 hb4 hF4 c0 c3 c4 hfn hrn hvc
  have HPL:=zH (show FrP K mf (fs ++ [⟨n,0,0,W.heap.size⟩]) from G.out.pl.push ⟨hn,(G.out.core.fn.b n hn).2.1,Nat.lt_of_lt_of_le Nat.zero_lt_one (G.out.core.fn.i n 0 hn (G.out.core.fn.b n hn).2.1).2.1⟩ hlt H0.out HC.out)
  have HNW:=zH (show ∀x,x∈fs->x.fb≠W.heap.size from fun x hx e=>by
   obtain⟨i,hi⟩:=List.getElem?_of_mem hx
   have:=(Array.getElem?_eq_some_iff.1 (G.out.frm i x hi)).1
   omega)
  have HBW:=zH (show K.B0<=W.heap.size by have h1:=G.out.base.1;have h2:=(Array.getElem?_eq_some_iff.1 HR.out).1;omega)
  go_wp2_with
   (first
    | (refine kp rfl _ _ rfl vg 0 K.most K.most (some ⟨vg,0,none⟩) sa sl sc rfl rfl vc HVC.out (fun _=>⟨rfl,by omega⟩) HS4.out ?_
       intro r w5 hc5 hb5
       have G5:=zH (G4.out.num hc5 (hb5 _ hvB))
       have HF5:=zH (HF4.out.chg hc5 (fun e=>e))
       have HR5:=zH (show RunM K w5 (.slice fa fs.length fc) st from hc5.rest _ _ (HB4.out.block _ (Array.getElem?_eq_some_iff.1 HR.out).1 |>.trans HR.out) (fun e=>e) (aO (by decide)))
       have HO5:=zH (hc5.own (by decide) (own_of_block HO.out (fun k e=>HB4.out.block k (HO.out.lt k e).2)) (fun _ _ e=>e))
       have HS5:=zH (show W.heap.size<=w5.heap.size from Nat.le_trans HB4.out.size hc5.size)
       have d3:=(RunM.cells HR5.out).2.2.2.1
       clear hc5 hb5 d2)
    | (at_builtin
       refine GG.wpList_append_any rfl _ _ 79 rfl K.B0 122 i0 (.pointer none) 1 8 Tryz.underlying79 hi0 hz0 hz1 hz2 rfl (by decide) (.slice fa fs.length fc) fs.length (ptrs fs) rfl (HO5.out.alloc _) (.slice (some ⟨_,0,none⟩) 1 1) 1 [.pointer (some ⟨W.heap.size,0,none⟩)] rfl rfl (.inr ⟨_,_,rfl,GG.aW _ _ _⟩) (by intro u hu;rw[List.mem_singleton.1 hu];rfl) (by unfold maxLen;omega) (by omega) (by have:=HS5.out;have:=HBW.out;simp;omega) ?_
       intro v7 w7 ho7 hg7
       obtain⟨va7,vc7,rfl⟩:=GG.ap ho7
       have HP:=zH (G5.out.push HF5.out HBW.out HNW.out HR5.out HO5.out ho7 hg7 HPL.out)
       have hr7:RunM K w7 (.slice fa fs.length fc) st:=(hg7.block _ (by have:=(Array.getElem?_eq_some_iff.1 HR5.out).1;simp;omega) (fun e=>by obtain⟨_,_,c',hc'⟩:=GG.own_block HO5.out e.symm;exact aP HR5.out hc' (by decide) rfl)).trans ((heap_alloc_old _ _ (Array.getElem?_eq_some_iff.1 HR5.out).1).trans HR5.out)
       have d7:=(RunM.cells hr7).2.2.2.1
       have z7:=aj (k:=3) hr7
       clear ho7 hg7 hr7 d3))
  go_end0
  exact .inr ⟨hlt,rfl,_,HP.out⟩
end
section
open Go.RowKit
open CD (OpP BodyP CodeP ae blAt fnAt)
set_option maxRecDepth 100000 in
set_option maxHeartbeats 1600000 in
theorem lC(o d r a n t:Int)(xa ya:Option Addr)(xl xc yl yc:Nat)(tov:Value)(W:World) :
 Calls Tryz.prog 81 #[.agg #[.int .u8 1,.int .u8 o,.int .i64 d,.int .i64 r,.int .i64 a,.slice xa xl xc,.slice ya yl yc,.int .i64 n,.int .i64 t],tov] W fun e w'=>e=.returned (.iface 198 (.agg #[.int .i64 d,.int .i64 n]))/\Below W.heap.size W w':=by
 obtain⟨W0,eW0⟩:∃W0,W0=W.alloc (.cells #[.int .u8 1,.int .u8 o,.int .i64 d,.int .i64 r,.int .i64 a,.slice xa xl xc,.slice ya yl yc,.int .i64 n,.int .i64 t] 56):=⟨_,rfl⟩
 have hb0:Below W.heap.size W W0:=by rw[eW0];exact(Below.refl _ _).alloc (Nat.le_refl _) _
 have hx0:W0.heap[W.heap.size]?=some (.cells #[.int .u8 1,.int .u8 o,.int .i64 d,.int .i64 r,.int .i64 a,.slice xa xl xc,.slice ya yl yc,.int .i64 n,.int .i64 t] 56):=by rw[eW0];exact heap_alloc_new _ _
 have c0:=cell_of_row _ _ 0 _ _ _ hx0
 have c1:=cell_of_row _ _ 1 _ _ _ hx0
 have c2:=cell_of_row _ _ 2 _ _ _ hx0
 have c3:=cell_of_row _ _ 3 _ _ _ hx0
 have c4:=cell_of_row _ _ 4 _ _ _ hx0
 have c5:=cell_of_row _ _ 5 _ _ _ hx0
 have c6:=cell_of_row _ _ 6 _ _ _ hx0
 have c7:=cell_of_row _ _ 7 _ _ _ hx0
 have c8:=cell_of_row _ _ 8 _ _ _ hx0
 have HB:=zH hb0
 have EW:=zH eW0
 clear eW0 hx0 hb0
 go_enter Tryz.func81,Tryz.ntmps81
 go_upto_region 1 with fail
 rw[<-EW.out]
 go_wp2_with fail
 go_ret
 exact⟨rfl,HB.out⟩
set_option maxRecDepth 100000 in
set_option maxHeartbeats 1600000 in
theorem ol(o d r a n t:Int)(xa ya:Option Addr)(xl xc yl yc:Nat)(tov:Value)(W:World)(x0 x1:Int)(b off:Nat)(ea:xa=some ⟨b,off,none⟩)(hl:2<=xl)(hl2:xl<=100000)(h0:W.cell? ⟨b,off+0,none⟩=some (.int .i64 x0))(h1:W.cell? ⟨b,off+1,none⟩=some (.int .i64 x1)) :
 Calls Tryz.prog 81 #[.agg #[.int .u8 2,.int .u8 o,.int .i64 d,.int .i64 r,.int .i64 a,.slice xa xl xc,.slice ya yl yc,.int .i64 n,.int .i64 t],tov] W fun e w'=>e=.returned (.iface 200 (.agg #[.int .i64 d,.int .u8 o,.int .i64 x0,.int .i64 x1]))/\Below W.heap.size W w':=by
 obtain⟨W0,eW0⟩:∃W0,W0=W.alloc (.cells #[.int .u8 2,.int .u8 o,.int .i64 d,.int .i64 r,.int .i64 a,.slice xa xl xc,.slice ya yl yc,.int .i64 n,.int .i64 t] 56):=⟨_,rfl⟩
 have hb0:Below W.heap.size W W0:=by rw[eW0];exact(Below.refl _ _).alloc (Nat.le_refl _) _
 have hx0:W0.heap[W.heap.size]?=some (.cells #[.int .u8 2,.int .u8 o,.int .i64 d,.int .i64 r,.int .i64 a,.slice xa xl xc,.slice ya yl yc,.int .i64 n,.int .i64 t] 56):=by rw[eW0];exact heap_alloc_new _ _
 have c0:=cell_of_row _ _ 0 _ _ _ hx0
 have c1:=cell_of_row _ _ 1 _ _ _ hx0
 have c2:=cell_of_row _ _ 2 _ _ _ hx0
 have c3:=cell_of_row _ _ 3 _ _ _ hx0
 have c4:=cell_of_row _ _ 4 _ _ _ hx0
 have c5:=cell_of_row _ _ 5 _ _ _ hx0
 have c6:=cell_of_row _ _ 6 _ _ _ hx0
 have c7:=cell_of_row _ _ 7 _ _ _ hx0
 have c8:=cell_of_row _ _ 8 _ _ _ hx0
 subst ea
 have g0:=aK hb0 h0
 have g1:=aK hb0 h1
 rw[Nat.add_zero] at g0
 have i0:(0:Int)<xl:=by omega
 have i1:(1:Int)<xl:=by omega
 have HB:=zH hb0
 have EW:=zH eW0
 clear eW0 hx0 hb0 h0 h1
 go_enter Tryz.func81,Tryz.ntmps81
 go_upto_region 1 with fail
 rw[<-EW.out]
 go_wp2_with fail
 go_region
 go_wp2_with fail
 go_ret
 exact⟨rfl,HB.out.trans ⟨rfl,rfl,rfl,Nat.le_refl _,fun _ _=>rfl⟩⟩
set_option maxRecDepth 100000 in
set_option maxHeartbeats 1600000 in
theorem rJ(o d r a n t:Int)(xa ya:Option Addr)(xl xc yl yc:Nat)(tov:Value)(W:World)(x0:Int)(b off:Nat)(ea:xa=some ⟨b,off,none⟩)(hl:1<=xl)(hl2:xl<=100000)(h0:W.cell? ⟨b,off+0,none⟩=some (.int .i64 x0)) :
 Calls Tryz.prog 81 #[.agg #[.int .u8 4,.int .u8 o,.int .i64 d,.int .i64 r,.int .i64 a,.slice xa xl xc,.slice ya yl yc,.int .i64 n,.int .i64 t],tov] W fun e w'=>e=.returned (.iface 202 (.agg #[.int .i64 d,.int .i64 r,.int .i64 x0]))/\Below W.heap.size W w':=by
 obtain⟨W0,eW0⟩:∃W0,W0=W.alloc (.cells #[.int .u8 4,.int .u8 o,.int .i64 d,.int .i64 r,.int .i64 a,.slice xa xl xc,.slice ya yl yc,.int .i64 n,.int .i64 t] 56):=⟨_,rfl⟩
 have hb0:Below W.heap.size W W0:=by rw[eW0];exact(Below.refl _ _).alloc (Nat.le_refl _) _
 have hx0:W0.heap[W.heap.size]?=some (.cells #[.int .u8 4,.int .u8 o,.int .i64 d,.int .i64 r,.int .i64 a,.slice xa xl xc,.slice ya yl yc,.int .i64 n,.int .i64 t] 56):=by rw[eW0];exact heap_alloc_new _ _
 have c0:=cell_of_row _ _ 0 _ _ _ hx0
 have c1:=cell_of_row _ _ 1 _ _ _ hx0
 have c2:=cell_of_row _ _ 2 _ _ _ hx0
 have c3:=cell_of_row _ _ 3 _ _ _ hx0
 have c4:=cell_of_row _ _ 4 _ _ _ hx0
 have c5:=cell_of_row _ _ 5 _ _ _ hx0
 have c6:=cell_of_row _ _ 6 _ _ _ hx0
 have c7:=cell_of_row _ _ 7 _ _ _ hx0
 have c8:=cell_of_row _ _ 8 _ _ _ hx0
 subst ea
 have g0:=aK hb0 h0
 rw[Nat.add_zero] at g0
 have i0:(0:Int)<xl:=by omega
 have HB:=zH hb0
 have EW:=zH eW0
 clear eW0 hx0 hb0 h0
 go_enter Tryz.func81,Tryz.ntmps81
 go_upto_region 1 with fail
 rw[<-EW.out]
 go_wp2_with fail
 go_region
 go_wp2_with fail
 go_ret
 exact⟨rfl,HB.out.trans ⟨rfl,rfl,rfl,Nat.le_refl _,fun _ _=>rfl⟩⟩
set_option maxRecDepth 100000 in
set_option maxHeartbeats 1600000 in
theorem rK(o d r a n t:Int)(xa ya:Option Addr)(xl xc yl yc:Nat)(tov:Value)(W:World)(x0:Int)(b off:Nat)(ea:xa=some ⟨b,off,none⟩)(hl:1<=xl)(hl2:xl<=100000)(h0:W.cell? ⟨b,off+0,none⟩=some (.int .i64 x0)) :
 Calls Tryz.prog 81 #[.agg #[.int .u8 5,.int .u8 o,.int .i64 d,.int .i64 r,.int .i64 a,.slice xa xl xc,.slice ya yl yc,.int .i64 n,.int .i64 t],tov] W fun e w'=>e=.returned (.iface 204 (.agg #[.int .i64 d,.int .i64 r,.int .i64 x0]))/\Below W.heap.size W w':=by
 obtain⟨W0,eW0⟩:∃W0,W0=W.alloc (.cells #[.int .u8 5,.int .u8 o,.int .i64 d,.int .i64 r,.int .i64 a,.slice xa xl xc,.slice ya yl yc,.int .i64 n,.int .i64 t] 56):=⟨_,rfl⟩
 have hb0:Below W.heap.size W W0:=by rw[eW0];exact(Below.refl _ _).alloc (Nat.le_refl _) _
 have hx0:W0.heap[W.heap.size]?=some (.cells #[.int .u8 5,.int .u8 o,.int .i64 d,.int .i64 r,.int .i64 a,.slice xa xl xc,.slice ya yl yc,.int .i64 n,.int .i64 t] 56):=by rw[eW0];exact heap_alloc_new _ _
 have c0:=cell_of_row _ _ 0 _ _ _ hx0
 have c1:=cell_of_row _ _ 1 _ _ _ hx0
 have c2:=cell_of_row _ _ 2 _ _ _ hx0
 have c3:=cell_of_row _ _ 3 _ _ _ hx0
 have c4:=cell_of_row _ _ 4 _ _ _ hx0
 have c5:=cell_of_row _ _ 5 _ _ _ hx0
 have c6:=cell_of_row _ _ 6 _ _ _ hx0
 have c7:=cell_of_row _ _ 7 _ _ _ hx0
 have c8:=cell_of_row _ _ 8 _ _ _ hx0
 subst ea
 have g0:=aK hb0 h0
 rw[Nat.add_zero] at g0
 have i0:(0:Int)<xl:=by omega
 have HB:=zH hb0
 have EW:=zH eW0
 clear eW0 hx0 hb0 h0
 go_enter Tryz.func81,Tryz.ntmps81
 go_upto_region 1 with fail
 rw[<-EW.out]
 go_wp2_with fail
 go_region
 go_wp2_with fail
 go_ret
 exact⟨rfl,HB.out.trans ⟨rfl,rfl,rfl,Nat.le_refl _,fun _ _=>rfl⟩⟩
set_option maxRecDepth 100000 in
set_option maxHeartbeats 1600000 in
theorem pS(o d r a n t:Int)(xa ya:Option Addr)(xl xc yl yc:Nat)(tov:Value)(W:World)(x0 x1:Int)(b off:Nat)(ea:xa=some ⟨b,off,none⟩)(hl:2<=xl)(hl2:xl<=100000)(h0:W.cell? ⟨b,off+0,none⟩=some (.int .i64 x0))(h1:W.cell? ⟨b,off+1,none⟩=some (.int .i64 x1)) :
 Calls Tryz.prog 81 #[.agg #[.int .u8 6,.int .u8 o,.int .i64 d,.int .i64 r,.int .i64 a,.slice xa xl xc,.slice ya yl yc,.int .i64 n,.int .i64 t],tov] W fun e w'=>e=.returned (.iface 206 (.agg #[.int .i64 r,.int .i64 x0,.int .i64 x1]))/\Below W.heap.size W w':=by
 obtain⟨W0,eW0⟩:∃W0,W0=W.alloc (.cells #[.int .u8 6,.int .u8 o,.int .i64 d,.int .i64 r,.int .i64 a,.slice xa xl xc,.slice ya yl yc,.int .i64 n,.int .i64 t] 56):=⟨_,rfl⟩
 have hb0:Below W.heap.size W W0:=by rw[eW0];exact(Below.refl _ _).alloc (Nat.le_refl _) _
 have hx0:W0.heap[W.heap.size]?=some (.cells #[.int .u8 6,.int .u8 o,.int .i64 d,.int .i64 r,.int .i64 a,.slice xa xl xc,.slice ya yl yc,.int .i64 n,.int .i64 t] 56):=by rw[eW0];exact heap_alloc_new _ _
 have c0:=cell_of_row _ _ 0 _ _ _ hx0
 have c1:=cell_of_row _ _ 1 _ _ _ hx0
 have c2:=cell_of_row _ _ 2 _ _ _ hx0
 have c3:=cell_of_row _ _ 3 _ _ _ hx0
 have c4:=cell_of_row _ _ 4 _ _ _ hx0
 have c5:=cell_of_row _ _ 5 _ _ _ hx0
 have c6:=cell_of_row _ _ 6 _ _ _ hx0
 have c7:=cell_of_row _ _ 7 _ _ _ hx0
 have c8:=cell_of_row _ _ 8 _ _ _ hx0
 subst ea
 have g0:=aK hb0 h0
 have g1:=aK hb0 h1
 rw[Nat.add_zero] at g0
 have i0:(0:Int)<xl:=by omega
 have i1:(1:Int)<xl:=by omega
 have HB:=zH hb0
 have EW:=zH eW0
 clear eW0 hx0 hb0 h0 h1
 go_enter Tryz.func81,Tryz.ntmps81
 go_upto_region 1 with fail
 rw[<-EW.out]
 go_wp2_with fail
 go_region
 go_wp2_with fail
 go_ret
 exact⟨rfl,HB.out.trans ⟨rfl,rfl,rfl,Nat.le_refl _,fun _ _=>rfl⟩⟩
set_option maxRecDepth 100000 in
set_option maxHeartbeats 1600000 in
theorem rL(o d r a n t:Int)(xa ya:Option Addr)(xl xc yl yc:Nat)(tov:Value)(W:World) :
 Calls Tryz.prog 81 #[.agg #[.int .u8 7,.int .u8 o,.int .i64 d,.int .i64 r,.int .i64 a,.slice xa xl xc,.slice ya yl yc,.int .i64 n,.int .i64 t],tov] W fun e w'=>e=.returned (.iface 208 (.agg #[.int .i64 d,.int .i64 r,.slice xa xl xc]))/\Below W.heap.size W w':=by
 obtain⟨W0,eW0⟩:∃W0,W0=W.alloc (.cells #[.int .u8 7,.int .u8 o,.int .i64 d,.int .i64 r,.int .i64 a,.slice xa xl xc,.slice ya yl yc,.int .i64 n,.int .i64 t] 56):=⟨_,rfl⟩
 have hb0:Below W.heap.size W W0:=by rw[eW0];exact(Below.refl _ _).alloc (Nat.le_refl _) _
 have hx0:W0.heap[W.heap.size]?=some (.cells #[.int .u8 7,.int .u8 o,.int .i64 d,.int .i64 r,.int .i64 a,.slice xa xl xc,.slice ya yl yc,.int .i64 n,.int .i64 t] 56):=by rw[eW0];exact heap_alloc_new _ _
 have c0:=cell_of_row _ _ 0 _ _ _ hx0
 have c1:=cell_of_row _ _ 1 _ _ _ hx0
 have c2:=cell_of_row _ _ 2 _ _ _ hx0
 have c3:=cell_of_row _ _ 3 _ _ _ hx0
 have c4:=cell_of_row _ _ 4 _ _ _ hx0
 have c5:=cell_of_row _ _ 5 _ _ _ hx0
 have c6:=cell_of_row _ _ 6 _ _ _ hx0
 have c7:=cell_of_row _ _ 7 _ _ _ hx0
 have c8:=cell_of_row _ _ 8 _ _ _ hx0
 have HB:=zH hb0
 have EW:=zH eW0
 clear eW0 hx0 hb0
 go_enter Tryz.func81,Tryz.ntmps81
 go_upto_region 1 with fail
 rw[<-EW.out]
 go_wp2_with fail
 go_ret
 exact⟨rfl,HB.out⟩
set_option maxRecDepth 100000 in
set_option maxHeartbeats 1600000 in
theorem pT(o d r a n t:Int)(xa ya:Option Addr)(xl xc yl yc:Nat)(tov:Value)(W:World) :
 Calls Tryz.prog 81 #[.agg #[.int .u8 8,.int .u8 o,.int .i64 d,.int .i64 r,.int .i64 a,.slice xa xl xc,.slice ya yl yc,.int .i64 n,.int .i64 t],tov] W fun e w'=>e=.returned (.iface 210 (.agg #[.int .i64 d,.int .i64 r]))/\Below W.heap.size W w':=by
 obtain⟨W0,eW0⟩:∃W0,W0=W.alloc (.cells #[.int .u8 8,.int .u8 o,.int .i64 d,.int .i64 r,.int .i64 a,.slice xa xl xc,.slice ya yl yc,.int .i64 n,.int .i64 t] 56):=⟨_,rfl⟩
 have hb0:Below W.heap.size W W0:=by rw[eW0];exact(Below.refl _ _).alloc (Nat.le_refl _) _
 have hx0:W0.heap[W.heap.size]?=some (.cells #[.int .u8 8,.int .u8 o,.int .i64 d,.int .i64 r,.int .i64 a,.slice xa xl xc,.slice ya yl yc,.int .i64 n,.int .i64 t] 56):=by rw[eW0];exact heap_alloc_new _ _
 have c0:=cell_of_row _ _ 0 _ _ _ hx0
 have c1:=cell_of_row _ _ 1 _ _ _ hx0
 have c2:=cell_of_row _ _ 2 _ _ _ hx0
 have c3:=cell_of_row _ _ 3 _ _ _ hx0
 have c4:=cell_of_row _ _ 4 _ _ _ hx0
 have c5:=cell_of_row _ _ 5 _ _ _ hx0
 have c6:=cell_of_row _ _ 6 _ _ _ hx0
 have c7:=cell_of_row _ _ 7 _ _ _ hx0
 have c8:=cell_of_row _ _ 8 _ _ _ hx0
 have HB:=zH hb0
 have EW:=zH eW0
 clear eW0 hx0 hb0
 go_enter Tryz.func81,Tryz.ntmps81
 go_upto_region 1 with fail
 rw[<-EW.out]
 go_wp2_with fail
 go_ret
 exact⟨rfl,HB.out⟩
set_option maxRecDepth 100000 in
set_option maxHeartbeats 1600000 in
theorem om(o d r a n t:Int)(xa ya:Option Addr)(xl xc yl yc:Nat)(tov:Value)(W:World)(x0:Int)(b off:Nat)(ea:xa=some ⟨b,off,none⟩)(hl:1<=xl)(hl2:xl<=100000)(h0:W.cell? ⟨b,off+0,none⟩=some (.int .i64 x0)) :
 Calls Tryz.prog 81 #[.agg #[.int .u8 9,.int .u8 o,.int .i64 d,.int .i64 r,.int .i64 a,.slice xa xl xc,.slice ya yl yc,.int .i64 n,.int .i64 t],tov] W fun e w'=>e=.returned (.iface 212 (.agg #[.int .i64 r,.int .i64 x0,.int .i64 t]))/\Below W.heap.size W w':=by
 obtain⟨W0,eW0⟩:∃W0,W0=W.alloc (.cells #[.int .u8 9,.int .u8 o,.int .i64 d,.int .i64 r,.int .i64 a,.slice xa xl xc,.slice ya yl yc,.int .i64 n,.int .i64 t] 56):=⟨_,rfl⟩
 have hb0:Below W.heap.size W W0:=by rw[eW0];exact(Below.refl _ _).alloc (Nat.le_refl _) _
 have hx0:W0.heap[W.heap.size]?=some (.cells #[.int .u8 9,.int .u8 o,.int .i64 d,.int .i64 r,.int .i64 a,.slice xa xl xc,.slice ya yl yc,.int .i64 n,.int .i64 t] 56):=by rw[eW0];exact heap_alloc_new _ _
 have c0:=cell_of_row _ _ 0 _ _ _ hx0
 have c1:=cell_of_row _ _ 1 _ _ _ hx0
 have c2:=cell_of_row _ _ 2 _ _ _ hx0
 have c3:=cell_of_row _ _ 3 _ _ _ hx0
 have c4:=cell_of_row _ _ 4 _ _ _ hx0
 have c5:=cell_of_row _ _ 5 _ _ _ hx0
 have c6:=cell_of_row _ _ 6 _ _ _ hx0
 have c7:=cell_of_row _ _ 7 _ _ _ hx0
 have c8:=cell_of_row _ _ 8 _ _ _ hx0
 subst ea
 have g0:=aK hb0 h0
 rw[Nat.add_zero] at g0
 have i0:(0:Int)<xl:=by omega
 have HB:=zH hb0
 have EW:=zH eW0
 clear eW0 hx0 hb0 h0
 go_enter Tryz.func81,Tryz.ntmps81
 go_upto_region 1 with fail
 rw[<-EW.out]
 go_wp2_with fail
 go_region
 go_wp2_with fail
 go_ret
 exact⟨rfl,HB.out.trans ⟨rfl,rfl,rfl,Nat.le_refl _,fun _ _=>rfl⟩⟩
set_option maxRecDepth 100000 in
set_option maxHeartbeats 1600000 in
theorem lW(o d r a n t:Int)(xa ya:Option Addr)(xl xc yl yc:Nat)(tov:Value)(W:World)(x0:Int)(b off:Nat)(ea:xa=some ⟨b,off,none⟩)(hl:1<=xl)(hl2:xl<=100000)(h0:W.cell? ⟨b,off+0,none⟩=some (.int .i64 x0)) :
 Calls Tryz.prog 81 #[.agg #[.int .u8 10,.int .u8 o,.int .i64 d,.int .i64 r,.int .i64 a,.slice xa xl xc,.slice ya yl yc,.int .i64 n,.int .i64 t],tov] W fun e w'=>e=.returned (.iface 214 (.agg #[.int .i64 d,.int .i64 r,.int .i64 x0,.int .i64 t]))/\Below W.heap.size W w':=by
 obtain⟨W0,eW0⟩:∃W0,W0=W.alloc (.cells #[.int .u8 10,.int .u8 o,.int .i64 d,.int .i64 r,.int .i64 a,.slice xa xl xc,.slice ya yl yc,.int .i64 n,.int .i64 t] 56):=⟨_,rfl⟩
 have hb0:Below W.heap.size W W0:=by rw[eW0];exact(Below.refl _ _).alloc (Nat.le_refl _) _
 have hx0:W0.heap[W.heap.size]?=some (.cells #[.int .u8 10,.int .u8 o,.int .i64 d,.int .i64 r,.int .i64 a,.slice xa xl xc,.slice ya yl yc,.int .i64 n,.int .i64 t] 56):=by rw[eW0];exact heap_alloc_new _ _
 have c0:=cell_of_row _ _ 0 _ _ _ hx0
 have c1:=cell_of_row _ _ 1 _ _ _ hx0
 have c2:=cell_of_row _ _ 2 _ _ _ hx0
 have c3:=cell_of_row _ _ 3 _ _ _ hx0
 have c4:=cell_of_row _ _ 4 _ _ _ hx0
 have c5:=cell_of_row _ _ 5 _ _ _ hx0
 have c6:=cell_of_row _ _ 6 _ _ _ hx0
 have c7:=cell_of_row _ _ 7 _ _ _ hx0
 have c8:=cell_of_row _ _ 8 _ _ _ hx0
 subst ea
 have g0:=aK hb0 h0
 rw[Nat.add_zero] at g0
 have i0:(0:Int)<xl:=by omega
 have HB:=zH hb0
 have EW:=zH eW0
 clear eW0 hx0 hb0 h0
 go_enter Tryz.func81,Tryz.ntmps81
 go_upto_region 1 with fail
 rw[<-EW.out]
 go_wp2_with fail
 go_region
 go_wp2_with fail
 go_ret
 exact⟨rfl,HB.out.trans ⟨rfl,rfl,rfl,Nat.le_refl _,fun _ _=>rfl⟩⟩
set_option maxRecDepth 100000 in
set_option maxHeartbeats 1600000 in
theorem pU(o d r a n t:Int)(xa ya:Option Addr)(xl xc yl yc:Nat)(tov:Value)(W:World)(x0:Int)(b off:Nat)(ea:xa=some ⟨b,off,none⟩)(hl:1<=xl)(hl2:xl<=100000)(h0:W.cell? ⟨b,off+0,none⟩=some (.int .i64 x0)) :
 Calls Tryz.prog 81 #[.agg #[.int .u8 13,.int .u8 o,.int .i64 d,.int .i64 r,.int .i64 a,.slice xa xl xc,.slice ya yl yc,.int .i64 n,.int .i64 t],tov] W fun e w'=>e=.returned (.iface 220 (.agg #[.int .i64 x0]))/\Below W.heap.size W w':=by
 obtain⟨W0,eW0⟩:∃W0,W0=W.alloc (.cells #[.int .u8 13,.int .u8 o,.int .i64 d,.int .i64 r,.int .i64 a,.slice xa xl xc,.slice ya yl yc,.int .i64 n,.int .i64 t] 56):=⟨_,rfl⟩
 have hb0:Below W.heap.size W W0:=by rw[eW0];exact(Below.refl _ _).alloc (Nat.le_refl _) _
 have hx0:W0.heap[W.heap.size]?=some (.cells #[.int .u8 13,.int .u8 o,.int .i64 d,.int .i64 r,.int .i64 a,.slice xa xl xc,.slice ya yl yc,.int .i64 n,.int .i64 t] 56):=by rw[eW0];exact heap_alloc_new _ _
 have c0:=cell_of_row _ _ 0 _ _ _ hx0
 have c1:=cell_of_row _ _ 1 _ _ _ hx0
 have c2:=cell_of_row _ _ 2 _ _ _ hx0
 have c3:=cell_of_row _ _ 3 _ _ _ hx0
 have c4:=cell_of_row _ _ 4 _ _ _ hx0
 have c5:=cell_of_row _ _ 5 _ _ _ hx0
 have c6:=cell_of_row _ _ 6 _ _ _ hx0
 have c7:=cell_of_row _ _ 7 _ _ _ hx0
 have c8:=cell_of_row _ _ 8 _ _ _ hx0
 subst ea
 have g0:=aK hb0 h0
 rw[Nat.add_zero] at g0
 have i0:(0:Int)<xl:=by omega
 have HB:=zH hb0
 have EW:=zH eW0
 clear eW0 hx0 hb0 h0
 go_enter Tryz.func81,Tryz.ntmps81
 go_upto_region 1 with fail
 rw[<-EW.out]
 go_wp2_with fail
 go_ret
 exact⟨rfl,HB.out⟩
end
section
open Go.RowKit
open CD (OpP BodyP CodeP ae blAt fnAt)
def lD(va nb:Nat)(w:World)(e:Ending)(w':World):Prop:=∃(bl fi:Nat) (xa:Option Addr) (xn xc:Nat),e=.returned (.agg #[.int .i64 bl,.int .i64 fi,.slice xa xn xc])/\WayV va nb w' bl fi (.slice xa xn xc)/\Below w.heap.size w w'
set_option maxRecDepth 100000 in
set_option maxHeartbeats 1600000 in
theorem rM(va nb:Nat)(o d r a n t:Int)(xa ya:Option Addr)(xl xc yl yc:Nat)(g0 g1:Value)(W:World)(hto:∀w1,Below W.heap.size W w1->Calls Tryz.prog 79 #[.int .i64 r,g0,g1] w1 fun e w'=>lD va nb w1 e w') :
 Calls Tryz.prog 81 #[.agg #[.int .u8 11,.int .u8 o,.int .i64 d,.int .i64 r,.int .i64 a,.slice xa xl xc,.slice ya yl yc,.int .i64 n,.int .i64 t],.func (.func 79) #[] #[g0,g1]] W fun e w'=>∃(bl fi:Nat) (za:Option Addr) (zn zc:Nat),e=.returned (.iface 216 (.agg #[.int .i64 bl,.int .i64 fi,.slice za zn zc]))/\WayV va nb w' bl fi (.slice za zn zc)/\Below W.heap.size W w':=by
 obtain⟨W0,eW0⟩:∃W0,W0=W.alloc (.cells #[.int .u8 11,.int .u8 o,.int .i64 d,.int .i64 r,.int .i64 a,.slice xa xl xc,.slice ya yl yc,.int .i64 n,.int .i64 t] 56):=⟨_,rfl⟩
 have hb0:Below W.heap.size W W0:=by rw[eW0];exact(Below.refl _ _).alloc (Nat.le_refl _) _
 have hx0:W0.heap[W.heap.size]?=some (.cells #[.int .u8 11,.int .u8 o,.int .i64 d,.int .i64 r,.int .i64 a,.slice xa xl xc,.slice ya yl yc,.int .i64 n,.int .i64 t] 56):=by rw[eW0];exact heap_alloc_new _ _
 have c0:=cell_of_row _ _ 0 _ _ _ hx0
 have c3:=cell_of_row _ _ 3 _ _ _ hx0
 have HB:=zH hb0
 have EW:=zH eW0
 have HTO:=zH hto
 clear eW0 hx0 hb0 hto
 go_enter Tryz.func81,Tryz.ntmps81
 go_upto_region 1 with fail
 rw[<-EW.out]
 go_wp2_with (go_at_call 79;refine(HTO.out _ HB.out).mono ?_;rintro e w1 ⟨bl,fi,za,zn,zc,rfl,hw,hb⟩;have HW:=zH hw;have HB1:=zH hb;clear hw hb)
 go_ret
 exact⟨_,_,_,_,_,rfl,HW.out,HB.out.trans (HB1.out.mono HB.out.size)⟩
set_option maxRecDepth 100000 in
set_option maxHeartbeats 3200000 in
theorem oq(va nb:Nat)(o d r a n t x0:Int)(b off:Nat)(ya:Option Addr)(xl xc yl yc:Nat)(g0 g1:Value)(W:World)(hl:1<=xl)(hl2:xl<=100000)(h0:W.cell? ⟨b,off,none⟩=some (.int .i64 x0))(hto:∀z w1,z=r∨z=a->Below W.heap.size W w1->Calls Tryz.prog 79 #[.int .i64 z,g0,g1] w1 fun e w'=>lD va nb w1 e w') :
 Calls Tryz.prog 81 #[.agg #[.int .u8 12,.int .u8 o,.int .i64 d,.int .i64 r,.int .i64 a,.slice (some ⟨b,off,none⟩) xl xc,.slice ya yl yc,.int .i64 n,.int .i64 t],.func (.func 79) #[] #[g0,g1]] W fun e w'=>∃(bl fi:Nat) (za:Option Addr) (zn zc:Nat) (bl' fi':Nat) (za':Option Addr) (zn' zc':Nat),e=.returned (.iface 218 (.agg #[.int .i64 x0,.int .i64 bl,.int .i64 fi,.slice za zn zc,.int .i64 bl',.int .i64 fi',.slice za' zn' zc']))/\WayV va nb w' bl fi (.slice za zn zc)/\WayV va nb w' bl' fi' (.slice za' zn' zc')/\Below W.heap.size W w':=by
 obtain⟨W0,eW0⟩:∃W0,W0=W.alloc (.cells #[.int .u8 12,.int .u8 o,.int .i64 d,.int .i64 r,.int .i64 a,.slice (some ⟨b,off,none⟩) xl xc,.slice ya yl yc,.int .i64 n,.int .i64 t] 56):=⟨_,rfl⟩
 have hb0:Below W.heap.size W W0:=by rw[eW0];exact(Below.refl _ _).alloc (Nat.le_refl _) _
 have hx0:W0.heap[W.heap.size]?=some (.cells #[.int .u8 12,.int .u8 o,.int .i64 d,.int .i64 r,.int .i64 a,.slice (some ⟨b,off,none⟩) xl xc,.slice ya yl yc,.int .i64 n,.int .i64 t] 56):=by rw[eW0];exact heap_alloc_new _ _
 have c0:=cell_of_row _ _ 0 _ _ _ hx0
 have HS:=zH (show ∀V,Below W0.heap.size W0 V->(fun V=>Below W0.heap.size W0 V/\V.cell? ⟨W.heap.size,5,none⟩=some (.slice (some ⟨b,off,none⟩) xl xc)/\V.cell? ⟨b,off,none⟩=some (.int .i64 x0)/\V.cell? ⟨W.heap.size,3,none⟩=some (.int .i64 r)/\V.cell? ⟨W.heap.size,4,none⟩=some (.int .i64 a)) V from fun V hV=>⟨hV,aK hV (cell_of_row _ _ 5 _ _ _ hx0),aK hV (aK hb0 h0),aK hV (cell_of_row _ _ 3 _ _ _ hx0),aK hV (cell_of_row _ _ 4 _ _ _ hx0)⟩)
 have i0:(0:Int)<xl:=by omega
 have i9:¬xl=0:=by omega
 have HB:=zH hb0
 have EW:=zH eW0
 have HTO:=zH hto
 clear eW0 hx0 hb0 hto h0
 go_enter Tryz.func81,Tryz.ntmps81
 go_upto_region 23 with fail
 rw[<-EW.out]
 refine wp_region_held_drew (S:=(fun V=>Below W0.heap.size W0 V/\V.cell? ⟨W.heap.size,5,none⟩=some (.slice (some ⟨b,off,none⟩) xl xc)/\V.cell? ⟨b,off,none⟩=some (.int .i64 x0)/\V.cell? ⟨W.heap.size,3,none⟩=some (.int .i64 r)/\V.cell? ⟨W.heap.size,4,none⟩=some (.int .i64 a))) (by kernel_rfl) ?_ (fun hHeld=>?_)
 ·exact HS.out _ (show Below W0.heap.size W0 W0.drew from⟨rfl,rfl,rfl,Nat.le_refl _,fun _ _=>rfl⟩)
 refine tkV 0 (.pointer (some ⟨W.heap.size,5,none⟩)) rfl (fun W hSW=>?_) hHeld ?_
 ·((try dsimp only at hSW);go_split_ands;go_simp <;> with_reducible rfl)
 try simp only[zA,zB,zC,Act.put,zD,zE,zF]
 refine tkV 1 (.slice (some ⟨b,off,none⟩) xl xc) rfl (fun W hSW=>?_) hHeld ?_
 ·((try dsimp only at hSW);go_split_ands;go_simp <;> with_reducible rfl)
 try simp only[zA,zB,zC,Act.put,zD,zE,zF]
 refine tkV 2 (.pointer (some ⟨b,off,none⟩)) rfl (fun W hSW=>?_) hHeld ?_
 ·((try dsimp only at hSW);go_split_ands;go_simp <;> with_reducible rfl)
 try simp only[zA,zB,zC,Act.put,zD,zE,zF]
 refine tkV 3 (.int .i64 x0) rfl (fun W hSW=>?_) hHeld ?_
 ·((try dsimp only at hSW);go_split_ands;go_simp <;> with_reducible rfl)
 try simp only[zA,zB,zC,Act.put,zD,zE,zF]
 refine tkV 4 (.func (.func 79) #[] #[g0,g1]) rfl (fun W hSW=>?_) hHeld ?_
 ·((try dsimp only at hSW);go_split_ands;go_simp <;> with_reducible rfl)
 try simp only[zA,zB,zC,Act.put,zD,zE,zF]
 refine tkV 5 (.pointer (some ⟨W.heap.size,3,none⟩)) rfl (fun W hSW=>?_) hHeld ?_
 ·((try dsimp only at hSW);go_split_ands;go_simp <;> with_reducible rfl)
 try simp only[zA,zB,zC,Act.put,zD,zE,zF]
 refine tkV 6 (.int .i64 r) rfl (fun W hSW=>?_) hHeld ?_
 ·((try dsimp only at hSW);go_split_ands;go_simp <;> with_reducible rfl)
 try simp only[zA,zB,zC,Act.put,zD,zE,zF]
 refine tkV 8 (.func (.func 79) #[] #[g0,g1]) rfl (fun W hSW=>?_) hHeld ?_
 ·((try dsimp only at hSW);go_split_ands;go_simp <;> with_reducible rfl)
 try simp only[zA,zB,zC,Act.put,zD,zE,zF]
 refine tkV 9 (.pointer (some ⟨W.heap.size,4,none⟩)) rfl (fun W hSW=>?_) hHeld ?_
 ·((try dsimp only at hSW);go_split_ands;go_simp <;> with_reducible rfl)
 try simp only[zA,zB,zC,Act.put,zD,zE,zF]
 refine tkV 10 (.int .i64 a) rfl (fun W hSW=>?_) hHeld ?_
 ·((try dsimp only at hSW);go_split_ands;go_simp <;> with_reducible rfl)
 try simp only[zA,zB,zC,Act.put,zD,zE,zF]
 refine wpAnyH_ready (rs:=[7]) (by kernel_rfl) (by simp) ?_
 refine AllReadyH.cons rfl (fun KK hKK=>?_) (AllReadyH.nil)
 try simp only[zA,zB,zC]
 go_simp
 (go_at_call 79;refine(HTO.out r _ (.inl rfl) (HB.out.trans (hHeld.1.mono HB.out.size))).mono ?_;rintro e w4 ⟨blw4,fiw4,zaw4,znw4,zcw4,rfl,hww4,hbw4⟩)
 try go_wp2_with fail
 refine hKK.out _ _ ?_ (fun hHeld=>?_)
 ·exact HS.out _ (hHeld.1.trans (hbw4.mono hHeld.1.size))
 clear hKK KK
 try simp only[zA,zB,zC,Act.put,zD,zE,zF]
 refine wpAnyH_ready (rs:=[11]) (by kernel_rfl) (by simp) ?_
 refine AllReadyH.cons rfl (fun KK hKK=>?_) (AllReadyH.nil)
 try simp only[zA,zB,zC]
 go_simp
 (go_at_call 79;refine(HTO.out a _ (.inr rfl) (HB.out.trans (hHeld.1.mono HB.out.size))).mono ?_;rintro e w5 ⟨blw5,fiw5,zaw5,znw5,zcw5,rfl,hww5,hbw5⟩)
 try go_wp2_with fail
 refine hKK.out _ _ ?_ (fun hHeld=>?_)
 ·exact HS.out _ (hHeld.1.trans (hbw5.mono hHeld.1.size))
 clear hKK KK
 try simp only[zA,zB,zC,Act.put,zD,zE,zF]
 refine tkV 12 (.agg #[.int .i64 x0,.int .i64 blw4,.int .i64 fiw4,.slice zaw4 znw4 zcw4,.int .i64 blw5,.int .i64 fiw5,.slice zaw5 znw5 zcw5]) rfl (fun W hSW=>?_) hHeld ?_
 ·((try dsimp only at hSW);go_split_ands;go_simp <;> with_reducible rfl)
 try simp only[zA,zB,zC,Act.put,zD,zE,zF]
 refine tkV 13 (.iface 218 (.agg #[.int .i64 x0,.int .i64 blw4,.int .i64 fiw4,.slice zaw4 znw4 zcw4,.int .i64 blw5,.int .i64 fiw5,.slice zaw5 znw5 zcw5])) rfl (fun W hSW=>?_) hHeld ?_
 ·((try dsimp only at hSW);go_split_ands;go_simp <;> with_reducible rfl)
 try simp only[zA,zB,zC,Act.put,zD,zE,zF]
 refine tkV 14 (.iface 218 (.agg #[.int .i64 x0,.int .i64 blw4,.int .i64 fiw4,.slice zaw4 znw4 zcw4,.int .i64 blw5,.int .i64 fiw5,.slice zaw5 znw5 zcw5])) rfl (fun W hSW=>?_) hHeld ?_
 ·((try dsimp only at hSW);go_split_ands;go_simp <;> with_reducible rfl)
 try simp only[zA,zB,zC,Act.put,zD,zE,zF]
 refine wpAnyH_done (by kernel_rfl) ?_ _
 have HWA:=zH (hww4.chg (X:=fun _=>False) (Chg.of_below hbw5) (fun _ _ _ e=>e))
 have HWB:=zH hww5
 have HBB:=zH (HB.out.trans (hHeld.1.mono HB.out.size))
 clear hww4 hww5 hbw4 hbw5 hHeld
 go_wp2_with fail
 go_ret
 exact⟨_,_,_,_,_,_,_,_,_,_,rfl,HWA.out,HWB.out,HBB.out⟩
end
section
open Go.RowKit
open CD (OpP BodyP CodeP ae blAt fnAt)
set_option maxRecDepth 100000 in
set_option maxHeartbeats 1600000 in
theorem to_any(va nb:Nat)(r pa vb k:Int)(ba:Option Addr)(bn bc g1 g2:Nat)(W:World)(h1:W.heap[g1]?=some (.cells #[.int .i64 pa,.int .i64 vb,.slice ba bn bc] 52))(h2:W.cell? ⟨g2,0,none⟩=some (.int .i64 k))
 (hle:∀w1,Below W.heap.size W w1->Calls Tryz.prog 80 #[.agg #[.int .i64 pa,.int .i64 vb,.slice ba bn bc],.int .i64 k,.int .i64 r] w1 fun e w'=>lD va nb w1 e w') :
 Calls Tryz.prog 79 #[.int .i64 r,.pointer (some ⟨g1,0,none⟩),.pointer (some ⟨g2,0,none⟩)] W fun e w'=>lD va nb W e w':=by
 obtain⟨W0,eW0⟩:∃W0,W0=W.alloc (.cells #[.int .i64 0,.int .i64 0,.slice none 0 0] 147):=⟨_,rfl⟩
 have hb0:Below W.heap.size W W0:=by rw[eW0];exact(Below.refl _ _).alloc (Nat.le_refl _) _
 have hx0:W0.heap[W.heap.size]?=some (.cells #[.int .i64 0,.int .i64 0,.slice none 0 0] 147):=by rw[eW0];exact heap_alloc_new _ _
 obtain⟨y0,y1,y2⟩:=obj3 h1
 have x0:=aK hb0 y0
 have x1:=aK hb0 y1
 have x2:=aK hb0 y2
 have x3:=aK hb0 h2
 have HX:=zH hx0
 have HB:=zH hb0
 have EW:=zH eW0
 have HL:=zH hle
 clear eW0 hx0 hb0 hle y0 y1 y2 h1 h2
 go_enter Tryz.func79,Tryz.ntmps79
 go_upto_region 1 with fail
 rw[<-EW.out]
 go_wp2_with fail
 refine(HL.out W0 HB.out).mono ?_
 rintro e w3 ⟨bl,fi,xa,xn,xc,rfl,hw,hb⟩
 have hx3:=(hb.block W.heap.size (Array.getElem?_eq_some_iff.1 HX.out).1).trans HX.out
 obtain⟨q0,q1,q2⟩:=obj3 hx3
 have f0:=aj (k:=0) hx3
 have f1:=aj (k:=1) hx3
 have f2:=aj (k:=2) hx3
 have s1:=set_obj (c:=0) (.int .i64 bl) hx3
 have s2:=set_obj (c:=1) (.int .i64 fi) s1
 have s3:=set_obj (c:=2) (.slice xa xn xc) s2
 have hc:=((Chg.set (c:=0) hx3 (aO (by decide)) (.int .i64 bl)).trans (Chg.set (c:=1) s1 (aO (by decide)) (.int .i64 fi))).trans (Chg.set (c:=2) s2 (aO (by decide)) (.slice xa xn xc))
 have HW:=zH (hw.chg hc (fun k c hk e=>aP hk hx3 (by decide) e))
 have HBB:=zH ((((HB.out.trans (hb.mono HB.out.size)).setCell (p:=⟨W.heap.size,0,none⟩) (Nat.le_refl _) (.int .i64 bl)).setCell (p:=⟨W.heap.size,1,none⟩) (Nat.le_refl _) (.int .i64 fi)).setCell (p:=⟨W.heap.size,2,none⟩) (Nat.le_refl _) (.slice xa xn xc))
 obtain⟨r0,r1,r2⟩:=obj3 s3
 clear hc hw hb hx3 s1 s2 s3
 go_wp2_with fail
 refine bodyPost_ret (v:=.agg #[.int .i64 bl,.int .i64 fi,.slice xa xn xc]) (by simp [results,Tryz.results79,go_sem,r0,r1,r2]) rfl ?_
 exact⟨bl,fi,xa,xn,xc,rfl,HW.out,HBB.out⟩
end
section
open Go.RowKit
open CD (OpP BodyP CodeP ae blAt fnAt)
structure WayM (W:World) (wb:Nat) (bl fi:Nat) (v:Value) (zs:List Int) (B:Nat):Prop where
 obj:W.heap[wb]?=some (.cells #[.int .i64 bl,.int .i64 fi,v] 147)
 own:W.ownsRow B 3 1 v zs.length (ao zs)
 ge:B<=wb
theorem WayM.on{W V:World}{wb bl fi B:Nat}{v:Value}{zs:List Int}(h:WayM W wb bl fi v zs B)(hb:Below W.heap.size W V):WayM V wb bl fi v zs B :=
 ⟨(hb.block _ (Array.getElem?_eq_some_iff.1 h.obj).1).trans h.obj,own_of_block h.own (fun k e=>hb.block k (h.own.lt k e).2),h.ge⟩
theorem WayM.cells{W:World}{wb bl fi B:Nat}{v:Value}{zs:List Int}(h:WayM W wb bl fi v zs B):W.cell? ⟨wb,0,none⟩=some (.int .i64 bl)/\W.cell? ⟨wb,1,none⟩=some (.int .i64 fi)/\W.cell? ⟨wb,2,none⟩=some v:=obj3 h.obj
theorem WayM.put{W V:World}{wb bl fi B:Nat}{v v':Value}{zs:List Int}{z:Int}(h:WayM W wb bl fi v zs B)(ho:V.ownsRow B 3 1 v' (zs.length+1) (ao zs ++ [.int .i64 z]))(hg:W.grownBy V v.ownBlock) :
 V.cell? ⟨wb,2,none⟩=some v/\V.frozen? ⟨wb,2,none⟩=false/\WayM (V.setCell ⟨wb,2,none⟩ v') wb bl fi v' (zs ++ [z]) B:=by
 have hne:=aV h.own h.obj (by decide)
 have h1:=(hg.block _ (Array.getElem?_eq_some_iff.1 h.obj).1 (fun e=>hne e.symm)).trans h.obj
 have hne2:=aV ho h1 (by decide)
 refine⟨(obj3 h1).2.2,aj h1,set_obj (c:=2) v' h1,?_,h.ge⟩
 have e:ao (zs ++ [z])=ao zs ++ [.int .i64 z]:=by unfold ao;rw[List.map_append];rfl
 rw[e,show (zs ++ [z]).length=zs.length+1 by simp]
 exact own_of_block ho (fun k hk=>Below.heap_setCell _ _ _ _ (fun e=>hne2 (by rw[hk];exact congrArg some e)))
end
end Go.Proofs.YtjngffgkllakaaaGreatDoor.IP
