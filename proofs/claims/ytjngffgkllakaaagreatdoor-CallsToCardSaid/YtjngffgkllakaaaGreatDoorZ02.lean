/- A part of a proof: laws that the last text uses. -/
import Derived.Test.YtjngffgkllakaaaGreatDoorZ01
import Derived.Shelf.Small.Bits
import Derived.Shelf.Strconv.Itoa0
import Derived.Shelf.Sort.Plain
import Derived.Shelf.Bits.Mul64
import Derived.Shelf.Slices.Turned
import Derived.Shelf.Slices.Reverse
import Derived.Shelf.Slices.Equal
import Derived.Ground.Names2Prog
import Derived.Shelf.Slices.Clone
import Derived.Shelf.Slices.CompactI
import Derived.Shelf.Slices.Cells
import Derived.Shelf.Slices.In.SortNone
import Derived.Shelf.Slices.Empties2
import Derived.Test.YtjngffgkllakaaaGreatDoorProg
import Derived.Lib.OwnBridge
import Derived.Deep.AppendLies
import Derived.Deep.Matrix
import Derived.OpenShut
import Derived.ChangeArms
import Derived.ChangeSlices
import Derived.SizedLaws
set_option linter.unusedSimpArgs false
set_option linter.unusedVariables false
namespace Go.Proofs
open Go.Shelf
def Tryz.lays212_ren:Go.Shelf.Ren:=⟨fun | 212=>183 | 263=>220 | 264=>221 | n=>n,fun | 46=>129 | 51=>176 | 146=>294 | 53=>178 | 148=>296 | n=>n,fun | n=>n⟩
theorem Tryz.lays212:Go.Proofs.Lays.n212 Tryz.prog Tryz.lays212_ren:={
 mixed:=by kernel_rfl
 f212:=Tryz.func183.trans (congrArg some (by kernel_rfl))
 f263:=Tryz.func220.trans (congrArg some (by kernel_rfl))
 f264:=Tryz.func221.trans (congrArg some (by kernel_rfl))
 t46:=Tryz.underlying129
 a46:=Tryz.isAgg129
 z46:=Tryz.sizeOf129
 v46:=Tryz.zeroValue129
 t51:=Tryz.underlying176
 a51:=Tryz.isAgg176
 z51:=Tryz.sizeOf176
 v51:=Tryz.zeroValue176
 t53:=Tryz.underlying178
 a53:=Tryz.isAgg178
 z53:=Tryz.sizeOf178
 v53:=Tryz.zeroValue178
 t146:=Tryz.underlying294
 a146:=Tryz.isAgg294
 z146:=Tryz.sizeOf294
 v146:=Tryz.zeroValue294
 t148:=Tryz.underlying296
 a148:=Tryz.isAgg296
 z148:=Tryz.sizeOf296
 v148:=Tryz.zeroValue296 }
open Go.RowKit Go.Lib in
theorem Tryz.bits_Mul(x y:Nat)(hx:x<18446744073709551616)(hy:y<18446744073709551616)(w:World) :
 Calls Tryz.prog 183 #[.int .u64 x,.int .u64 y] w fun e w'=>e=.returned (.tuple #[.int .u64 ((x*y / 18446744073709551616:Nat):Int),.int .u64 ((x*y % 18446744073709551616:Nat):Int)])/\w'=w:=Any.bits_Mul Tryz.lays212 x y hx hy w
def Tryz.lays107_ren:Go.Shelf.Ren:=⟨fun | 107=>62 | 108=>105 | n=>n,fun | 28=>54 | 3=>3 | 4=>4 | 0=>0 | n=>n,fun | n=>n⟩
theorem Tryz.lays107:Go.Proofs.Lays.n107 Tryz.prog Tryz.lays107_ren:={
 mixed:=by kernel_rfl
 f107:=Tryz.func62.trans (congrArg some (by kernel_rfl))
 f108:=Tryz.func105.trans (congrArg some (by kernel_rfl))
 t0:=Tryz.underlying0
 a0:=Tryz.isAgg0
 z0:=Tryz.sizeOf0
 v0:=Tryz.zeroValue0
 t3:=Tryz.underlying3
 a3:=Tryz.isAgg3
 z3:=Tryz.sizeOf3
 v3:=Tryz.zeroValue3
 t4:=Tryz.underlying4
 a4:=Tryz.isAgg4
 z4:=Tryz.sizeOf4
 v4:=Tryz.zeroValue4
 t28:=Tryz.underlying54
 a28:=Tryz.isAgg54
 z28:=Tryz.sizeOf54
 v28:=Tryz.zeroValue54 }
open Go.Lib in
theorem Tryz.slices_Contains_int(b off n c:Nat)(zs:List Int)(x:Int)(w:World)(hz:n<=zs.length)(hbig:n<=9223372036854775807)(hc:∀j,j<zs.length->w.cell? ⟨b,off+j,none⟩=some (.int .i64 (zs.getD j 0))) :
 Calls Tryz.prog 62 #[.slice (some ⟨b,off,none⟩) n c,.int .i64 x] w fun e w'=>e=.returned (.bool ((zs.take n).contains x))/\w'=w:=Any.slices_Contains_int Tryz.lays107 b off n c zs x w hz hbig hc
open Go.Lib in
theorem Tryz.slices_Contains_int_empty(a:Option Addr)(c:Nat)(x:Int)(w:World) :
 Calls Tryz.prog 62 #[.slice a 0 c,.int .i64 x] w fun e w'=>e=.returned (.bool false)/\w'=w:=Any.slices_Contains_int_empty Tryz.lays107 a c x w
def Tryz.lays112_ren:Go.Shelf.Ren:=⟨fun | 112=>188 | n=>n,fun | 28=>54 | 3=>3 | 4=>4 | 0=>0 | n=>n,fun | n=>n⟩
theorem Tryz.lays112:Go.Proofs.Lays.n112 Tryz.prog Tryz.lays112_ren:={
 mixed:=by kernel_rfl
 f112:=Tryz.func188.trans (congrArg some (by kernel_rfl))
 t0:=Tryz.underlying0
 a0:=Tryz.isAgg0
 z0:=Tryz.sizeOf0
 v0:=Tryz.zeroValue0
 t3:=Tryz.underlying3
 a3:=Tryz.isAgg3
 z3:=Tryz.sizeOf3
 v3:=Tryz.zeroValue3
 t4:=Tryz.underlying4
 a4:=Tryz.isAgg4
 z4:=Tryz.sizeOf4
 v4:=Tryz.zeroValue4
 t28:=Tryz.underlying54
 a28:=Tryz.isAgg54
 z28:=Tryz.sizeOf54
 v28:=Tryz.zeroValue54 }
open Go.RowKit Go.Lib Go.Sort in
theorem Tryz.slices_Reverse_int(blk off cap:Nat)(zs:List Int)(w:World)(hH:Holds (Value.int .i64) w blk off zs.toArray)(hsz:zs.length<=9223372036854775807) :
 Calls Tryz.prog 188 #[.slice (some ⟨blk,off,none⟩) zs.length cap] w fun e w'=>e=.returned (.tuple #[])/\∃n,w'=putRow (Value.int .i64) (Sort.ahead w n) blk off zs.reverse.toArray:=Any.slices_Reverse_int Tryz.lays112 blk off cap zs w hH hsz
def Tryz.lays111_ren:Go.Shelf.Ren:=⟨fun | 111=>149 | n=>n,fun | 28=>54 | 3=>3 | 4=>4 | 0=>0 | n=>n,fun | n=>n⟩
theorem Tryz.lays111:Go.Proofs.Lays.n111 Tryz.prog Tryz.lays111_ren:={
 mixed:=by kernel_rfl
 f111:=Tryz.func149.trans (congrArg some (by kernel_rfl))
 t0:=Tryz.underlying0
 a0:=Tryz.isAgg0
 z0:=Tryz.sizeOf0
 v0:=Tryz.zeroValue0
 t3:=Tryz.underlying3
 a3:=Tryz.isAgg3
 z3:=Tryz.sizeOf3
 v3:=Tryz.zeroValue3
 t4:=Tryz.underlying4
 a4:=Tryz.isAgg4
 z4:=Tryz.sizeOf4
 v4:=Tryz.zeroValue4
 t28:=Tryz.underlying54
 a28:=Tryz.isAgg54
 z28:=Tryz.sizeOf54
 v28:=Tryz.zeroValue54 }
open Go.RowKit Go.Lib in
theorem Tryz.slices_Equal_int(b1 o1 n c b2 o2 m d:Nat)(xs ys:List Int)(w:World)(hx:n<=xs.length)(hy:m<=ys.length)(hbig:n<=9223372036854775807)(hbig2:m<=9223372036854775807)(hc1:∀j,j<xs.length->w.cell? ⟨b1,o1+j,none⟩=some (.int .i64 (xs.getD j 0)))(hc2:∀j,j<ys.length->w.cell? ⟨b2,o2+j,none⟩=some (.int .i64 (ys.getD j 0))) :
 Calls Tryz.prog 149 #[.slice (some ⟨b1,o1,none⟩) n c,.slice (some ⟨b2,o2,none⟩) m d] w fun e w'=>e=.returned (.bool (xs.take n == ys.take m))/\∃q,w'=w.drewN q:=Any.slices_Equal_int Tryz.lays111 b1 o1 n c b2 o2 m d xs ys w hx hy hbig hbig2 hc1 hc2
open Go.RowKit Go.Lib in
theorem Tryz.slices_Equal_int_empty(a1 a2:Option Addr)(c m d:Nat)(w:World)(hbig2:m<=9223372036854775807) :
 Calls Tryz.prog 149 #[.slice a1 0 c,.slice a2 m d] w fun e w'=>e=.returned (.bool (decide (m=0)))/\w'=w:=Any.slices_Equal_int_empty Tryz.lays111 a1 a2 c m d w hbig2
def Tryz.laysNm215_ren:Go.Shelf.Ren:=⟨fun | 15=>147 | n=>n,fun | 22=>54 | 3=>3 | 4=>4 | n=>n,fun | n=>n⟩
theorem Tryz.laysNm215:Go.Proofs.Lays2.n15 Tryz.prog Tryz.laysNm215_ren:={
 mixed:=by kernel_rfl
 f15:=Tryz.func147.trans (congrArg some (by kernel_rfl))
 t3:=Tryz.underlying3
 a3:=Tryz.isAgg3
 z3:=Tryz.sizeOf3
 v3:=Tryz.zeroValue3
 t4:=Tryz.underlying4
 a4:=Tryz.isAgg4
 z4:=Tryz.sizeOf4
 v4:=Tryz.zeroValue4
 t22:=Tryz.underlying54
 a22:=Tryz.isAgg54
 z22:=Tryz.sizeOf54
 v22:=Tryz.zeroValue54
 i3:=by kernel_rfl }
open Go.RowKit Go.Lib in
theorem Tryz.slices_Clone_int(b off n c:Nat)(zs:List Int)(w:World)(hz:n<=zs.length)(hbig:n*8<=140737488355328)(hc:∀j,j<zs.length->w.cell? ⟨b,off+j,none⟩=some (.int .i64 (zs.getD j 0))) :
 Calls Tryz.prog 147 #[.slice (some ⟨b,off,none⟩) n c] w fun e w'=>∃v',e=.returned v'/\w'.ownsRow w.heap.size 3 1 v' n ((zs.take n).map (Value.int .i64))/\v'≠.slice none 0 0/\Below w.heap.size w w':=Any.slices_Clone_int Tryz.laysNm215 b off n c zs w hz hbig hc
def Tryz.laysNm220_ren:Go.Shelf.Ren:=⟨fun | 20=>34 | n=>n,fun | 22=>54 | 3=>3 | 4=>4 | 0=>0 | n=>n,fun | n=>n⟩
theorem Tryz.laysNm220:Go.Proofs.Lays2.n20 Tryz.prog Tryz.laysNm220_ren:={
 mixed:=by kernel_rfl
 f20:=Tryz.func34.trans (congrArg some (by kernel_rfl))
 t0:=Tryz.underlying0
 a0:=Tryz.isAgg0
 z0:=Tryz.sizeOf0
 v0:=Tryz.zeroValue0
 t3:=Tryz.underlying3
 a3:=Tryz.isAgg3
 z3:=Tryz.sizeOf3
 v3:=Tryz.zeroValue3
 t4:=Tryz.underlying4
 a4:=Tryz.isAgg4
 z4:=Tryz.sizeOf4
 v4:=Tryz.zeroValue4
 t22:=Tryz.underlying54
 a22:=Tryz.isAgg54
 z22:=Tryz.sizeOf54
 v22:=Tryz.zeroValue54
 i3:=by kernel_rfl }
open Go.RowKit Go.Lib Go.Sort in
theorem Tryz.slices_Compact_int(blk off cap:Nat)(zs:List Int)(w:World)(hH:Holds (Value.int .i64) w blk off zs.toArray)(hsz:zs.length<=9223372036854775807)(hcap:zs.length<=cap) :
 Calls Tryz.prog 34 #[.slice (some ⟨blk,off,none⟩) zs.length cap] w fun e w'=>e=.returned (.slice (some ⟨blk,off,none⟩) (Lib.compact zs).length cap)/\∃q,w'=putRow (Value.int .i64) (Sort.ahead w q) blk off (Lib.compact zs ++ List.replicate (zs.length-(Lib.compact zs).length) 0).toArray:=Any.slices_Compact_int Tryz.laysNm220 blk off cap zs w hH hsz hcap
open Go.RowKit Go.Lib Go.Sort in
theorem Tryz.slices_Compact_int_empty(a:Option Addr)(cap:Nat)(w:World) :
 Calls Tryz.prog 34 #[.slice a 0 cap] w fun e w'=>e=.returned (.slice a 0 cap)/\w'=w:=Any.slices_Compact_int_empty Tryz.laysNm220 a cap w
end Go.Proofs
namespace Go.Proofs.YtjngffgkllakaaaGreatDoor
open List renaming getElem_toArray → zA, getElem_cons_succ → zB, getElem_cons_zero → zC, setIfInBounds_toArray → zD, set_cons_zero → zE, set_cons_succ → zF
open Lib renaming hid → zH
section
open Go.RowKit
def oW(B:Nat)(l:List Int)(e:Ending)(W W':World):Prop:=∃v,e=.returned v/\Row W'.heap.size W' v l/\Below B W W'
def jr(to:List (List Int)):List Int:=if GG.al to=true then GG.bT to else []
theorem run_ne(adj:Nat->List Nat):∃t:GG.St,GG.runG adj [0]=(t.1,t.2 ++ [0]):=by
 unfold GG.runG GG.runF
 obtain⟨t,e⟩:=GG.pX (adj:=adj) (f:=256) (i:=0) (s:=((fun _=>false),[])) rfl
 simp only[List.foldl_cons,List.foldl_nil]
 exact⟨t,e⟩
theorem turned{B n:Nat}{W w:World}{bv:Value}{zs:List Int}(hB:Below B W w)(ho:w.ownsRow B 3 1 bv n (ap zs))(hzn:zs.length=n)(h0:0<n)(hl:n<=17592186044416) :
 ∃g cap,bv=.slice (some ⟨g,0,none⟩) n cap/\Calls Tryz.prog 188 #[.slice (some ⟨g,0,none⟩) n cap] w fun e w'=>e=.returned (.tuple #[])/\Row w'.heap.size w' (.slice (some ⟨g,0,none⟩) n cap) zs.reverse/\Below B W w':=by
 subst hzn
 obtain⟨g,cap,rfl,hb,hg,hn,hm,hzl,hH⟩:=Lib.holds_of_ownsRow (enc:=Value.int .i64) ho (fun e=>by
  rcases ho.2 with⟨_,h1⟩ | ⟨g,cap,cur,e1,_⟩
  ·omega
  ·rw[e] at e1;cases e1)
 refine⟨g,cap,rfl,(Tryz.slices_Reverse_int g 0 cap zs w hH (by omega)).mono ?_⟩
 rintro e w' ⟨rfl,n,rfl⟩
 have h:=Lib.ownsRow_putRow (q:=n) (k:=zs.length) (ys:=zs.reverse) ho (by simp) (Nat.le_refl _)
 rw[List.take_of_length_le (by simp)] at h
 refine⟨rfl,?_,Lib.below_putRow hB hb⟩
 exact aS h
theorem walk_zero{v:Value}{to:List (List Int)}(u:Value)(W:World)(hr:GG.al to=true)(hv:aq W.heap.size W v to)(hu:Row W.heap.size W u [0]) :
 Calls Tryz.prog 117 #[v,u] W fun e W'=>WalkP W.heap.size (GG.runG (GG.am to) [0]) e W W':=by
 have h:=jL u [0] W hr hv hu (by simp) (by intro x hx;rw[List.mem_singleton.1 hx];have:=GG.aC hr;omega)
 have hm:List.map Int.toNat [(0:Int)]=[0]:=rfl
 rw[hm] at h
 exact h
set_option maxRecDepth 100000 in
set_option maxHeartbeats 3200000 in
theorem rY{v:Value}{to:List (List Int)}(W:World)(hv:aq W.heap.size W v to)(hx:cQ to) :
 Calls Tryz.prog 144 #[v] W fun e W'=>oW W.heap.size (jr to) e W W':=by
 have hx0:=hx.1
 have HV:=zH hv
 have HX:=zH hx
 obtain⟨va,vc,rfl⟩:=hv.form
 clear hv hx
 cases hr:GG.al to
 ·have HR:=zH hr
  have HE:=zH (show jr to=[] by unfold jr;rw[if_neg (by rw[hr];simp)])
  clear hr
  go_enter Tryz.func144,Tryz.ntmps144
  go_wp2_with (go_at_call 35;refine(aT _ to _ HV.out HX.out).mono ?_;rintro e w' ⟨rfl,hB⟩;have HB:=zH hB;clear hB;rw[HR.out])
  go_ret
  exact⟨_,rfl,by rw[HE.out];exact br _ _ _ _ (fun _=>rfl),HB.out⟩
 ·have HR:=zH hr
  have hlen:=GG.aC hr
  have HLN:=zH (show (GG.runG (GG.am to) [0]).2.length<=256 by
   have:=qg hr (l:=[0]) (by intro x hx;rw[List.mem_singleton.1 hx];omega) 1
   rw[qf _ (by simp)] at this
   simp only[List.map_cons,List.map_nil,Int.toNat_zero] at this
   omega)
  have HNE:=zH (show 0<(GG.runG (GG.am to) [0]).2.length by
   obtain⟨t,e⟩:=run_ne (GG.am to)
   rw[e];simp)
  have HE:=zH (show jr to=((GG.runG (GG.am to) [0]).2.map Int.ofNat).reverse by
   unfold jr GG.bT
   rw[if_pos hr,List.map_reverse])
  have hz:=fun(w:World)=>eu w
  have HWK:=zH (fun u W1 h1 h2=>walk_zero (v:=.slice va to.length vc) (to:=to) u W1 hr h1 h2)
  clear hr
  generalize GG.runG (GG.am to) [0]=s at HWK HLN HNE HE
  go_enter Tryz.func144,Tryz.ntmps144
  go_wp2_with (first
   | (go_at_call 35;refine(aT _ to _ HV.out HX.out).mono ?_;rintro e w' ⟨rfl,hB⟩;have HB:=zH hB;clear hB;rw[HR.out])
   | (go_at_call 117
      refine(HWK.out _ _ (HV.out.on (HB.out.alloc HB.out.size _) (by have:=HB.out.size;simp;omega)) (oU _ _ _)).mono ?_
      rintro e w' ⟨cs,bv,rfl,hn,hc,ho,hs,hB2⟩
      have HCN:=zH hn
      have HB2:=zH (bstep (HB.out.alloc HB.out.size _) hB2)
      have HONE:=zH (oT hn hc)
      have HTU:=zH (turned (n:=s.2.length) (zs:=s.2.map Int.ofNat) (HB2.out.alloc HB2.out.size (.cells cs 130)) ((dQ (by have:=HB.out.size;simp;omega) ho).alloc _) (by rw[List.length_map]) HNE.out (by have:=HLN.out;omega))
      clear hn hc ho hs hB2
      obtain⟨g,cap,hbv,HRV⟩:=HTU.out
      subst hbv)
   | (refine wpList_store_row rfl 130 (.tmp 3) (.tmp 12) rfl _ cs rfl rfl 130 falses (heap_alloc_new _ _) (by rw[HCN.out];kernel_rfl) (by rw[HCN.out];simp [falses]) HONE.out ?_
      rw[bF])
   | (go_at_call 188;refine HRV.mono ?_;rintro e w3 ⟨rfl,hR3,hB3⟩;have HR3:=zH hR3;have HB3:=zH hB3;clear hR3 hB3))
  go_ret
  exact⟨_,rfl,by rw[HE.out];exact HR3.out,HB3.out⟩
end
section
open Go.RowKit
structure Tab (W0:World) (n:Nat) (rows:Nat->List Int) (vs:Nat->Value) (W:World):Prop where
 tab:W.rowIs W0.heap.size 54 n vs
 own:∀j,j<n->W.ownsRow (W0.heap.size+1) 3 1 (vs j) (rows j).length (ap (rows j))
 apart:∀j k,j<n->k<n->j≠k->(vs j).ownBlock=none∨(vs j).ownBlock≠(vs k).ownBlock
 below:Below W0.heap.size W0 W
 size:W0.heap.size+1<=W.heap.size
def OwnG(W0:World)(n:Nat)(rows:Nat->List Int)(W:World):Prop:=∃vs,Tab W0 n rows vs W
theorem OwnG.congr{W0 W:World}{n:Nat}{rows rows':Nat->List Int}(h:OwnG W0 n rows W)(e:∀j,j<n->rows j=rows' j):OwnG W0 n rows' W:=by
 obtain⟨vs,h1,h2,h3,h4,h5⟩:=h
 exact⟨vs,h1,fun j hj=>by rw[<-e j hj];exact h2 j hj,h3,h4,h5⟩
theorem qi(W:World)(n:Nat):OwnG W n (fun _=>[]) (W.alloc (.cells (madeCells #[.slice none 0 0] n) 54)) :=
 ⟨fun _=>.slice none 0 0,World.rowIs_made W (.slice none 0 0) n 54,fun j _=>World.ownsRow_nil _ _ _ _,fun j k _ _ _=>.inl rfl,(Below.refl _ _).alloc (Nat.le_refl _) _,by simp⟩
theorem OwnG.graph{W0 W:World}{n:Nat}{rows:Nat->List Int}(h:OwnG W0 n rows W):aq W.heap.size W (.slice (some ⟨W0.heap.size,0,none⟩) n n) ((List.range n).map rows):=by
 obtain⟨vs,h1,h2,h3,h4,h5⟩:=h
 refine⟨(List.range n).map vs,.inr ⟨W0.heap.size,0,n,by simp,World.rowIs.lt h1,by simp,fun j u hj=>?_⟩,by simp,fun j hj=>?_⟩
 ·have hjn:j<n:=by
   have:=(List.getElem?_eq_some_iff.1 hj).1
   simpa using this
  rw[List.getElem?_map,List.getElem?_range hjn] at hj
  have:=World.rowIs.cell h1 hjn
  rw[Nat.zero_add,this]
  exact hj
 ·have hjn:j<n:=by simpa using hj
  refine⟨vs j,by rw[List.getElem?_map,List.getElem?_range hjn];rfl,?_⟩
  rw[List.getElem?_map,List.getElem?_range hjn]
  exact aS (h2 j hjn)
theorem Tab.app{W0 W w1:World}{n:Nat}{rows:Nat->List Int}{vs:Nat->Value}(h:Tab W0 n rows vs W){j:Nat}(hj:j<n){x:Int}{g cap:Nat}{o:Obj}
 (ho:w1.ownsRow (W0.heap.size+1) 3 1 (.slice (some ⟨g,0,none⟩) ((rows j).length+1) cap) ((rows j).length+1) (ap (rows j) ++ [.int .i64 x])) (hg:(W.alloc o).grownBy w1 (vs j).ownBlock) (hat:(vs j).ownBlock=some g∨g=W.heap.size+1) :
 OwnG W0 n (fun k=>if k=j then rows j ++ [x] else rows k) (w1.setCell ⟨W0.heap.size,j,none⟩ (.slice (some ⟨g,0,none⟩) ((rows j).length+1) cap)) /\
  w1.cell? ⟨W0.heap.size,j,none⟩=some (vs j)/\w1.frozen? ⟨W0.heap.size,j,none⟩=false:=by
 obtain⟨h1,h2,h3,h4,h5⟩:=h
 have hb:∀k,(vs j).ownBlock=some k->W0.heap.size+1<=k/\k<W.heap.size:=fun k e=>(h2 j hj).lt k e
 have hgb:W0.heap.size+1<=g:=by
  rcases hat with e | e
  ·exact(hb g e).1
  ·omega
 have h1':w1.rowIs W0.heap.size 54 n vs:=by
  refine h1.of_block ?_
  rw[hg.block _ (by simp;omega) (fun e=>by have:=(hb _ e.symm).1;omega)]
  exact heap_alloc_old W o (by omega)
 refine⟨⟨fun k=>if k=j then .slice (some ⟨g,0,none⟩) ((rows j).length+1) cap else vs k,World.rowIs.set h1' j _,fun k hk=>?_,fun k l hk hl hkl=>?_,?_,?_⟩,World.rowIs.cell h1' hj,World.rowIs.frozen h1' j⟩
 ·have key:∀ {v:Value} {m:Nat} {xs:List Value},w1.ownsRow (W0.heap.size+1) 3 1 v m xs->(w1.setCell ⟨W0.heap.size,j,none⟩ (.slice (some ⟨g,0,none⟩) ((rows j).length+1) cap)).ownsRow (W0.heap.size+1) 3 1 v m xs:=by
   intro v m xs hv
   refine⟨hv.1,?_⟩
   rcases hv.2 with hn | ⟨g',cap',cur,rfl,hb',hgg,rest⟩
   ·exact .inl hn
   ·exact .inr ⟨g',cap',cur,rfl,hb',by rw[bX _ _ _ _ (by simp;omega)];exact hgg,rest⟩
  by_cases e:k=j
  ·subst e
   simp only[if_true]
   refine key ?_
   have e1:(rows k ++ [x]).length=(rows k).length+1:=by simp
   have e2:ap (rows k ++ [x])=ap (rows k) ++ [.int .i64 x]:=by simp [ap]
   rw[e1,e2];exact ho
  ·simp only[if_neg e]
   exact key (((h2 k hk).alloc o).kept hg (h3 k j hk hj e))
 ·by_cases e:k=j
  ·subst e
   simp only[if_true,if_neg (fun e=>hkl (Eq.symm e))]
   right
   intro e2
   have e2':some g=(vs l).ownBlock:=e2
   rcases hat with e1 | e1
   ·rcases h3 l k hl hk (fun e=>hkl e.symm) with h | h
    ·rw[h] at e2';cases e2'
    ·exact h (e2'.symm.trans e1.symm)
   ·have:=((h2 l hl).lt g e2'.symm).2
    omega
  ·simp only[if_neg e]
   by_cases e3:l=j
   ·subst e3
    simp only[if_true]
    rcases hat with e1 | e1
    ·rcases h3 k l hk hl hkl with h | h
     ·exact .inl h
     ·exact .inr (fun e2=>h (e2.trans e1.symm))
    ·right
     intro e2
     have e2':(vs k).ownBlock=some g:=e2
     have:=((h2 k hk).lt g e2').2
     omega
   ·simp only[if_neg e3]
    exact h3 k l hk hl hkl
 ·exact((h4.alloc (by omega) o).grown hg (by simp;omega) (fun k e=>by have:=(hb k e).1;omega)).setCell (by simp) _
 ·have:=hg.size;simp at this ⊢;omega
theorem rZ(to:List (List Int))(j:Nat):GG.cD to j 0=[]:=by simp [GG.cD]
theorem kz(to:List (List Int))(j m:Nat):(GG.cD to j m).length<=m:=by
 unfold GG.cD
 rw[List.length_map]
 have:=List.length_filter_le (fun k=>GG.leadsB to k (j:Int)) (List.range m)
 simpa using this
def qj(B:Nat)(l:List (List Int))(e:Ending)(W W':World):Prop:=∃v,e=.returned v/\aq W'.heap.size W' v l/\Below B W W'
end
section
open Go.RowKit
def ix(to:List (List Int))(row:List Int)(i q:Nat)(j:Nat):List Int:=GG.cD to j i ++ (if (j:Int)∈row.take q then [(i:Int)] else [])
theorem sd(to:List (List Int))(row:List Int)(i j:Nat):GG.cD to j i=ix to row i 0 j:=by simp [ix]
theorem se{to:List (List Int)}{row:List Int}{i q y:Nat}(hq:q<row.length)(hy:row[q]?.getD 0=(y:Int))(hn:row.Nodup)(j:Nat):(if j=y then ix to row i q y ++ [(i:Int)] else ix to row i q j)=ix to row i (q+1) j:=by
 rw[List.getElem?_eq_getElem hq,Option.getD_some] at hy
 unfold ix
 rw[List.take_succ_eq_append_getElem hq,hy]
 have hfr:¬((y:Int)∈row.take q):=by
  intro h
  obtain⟨k,hk,e⟩:=List.mem_take_iff_getElem.1 h
  have:=(List.getElem_inj (h₀:=by omega) (h₁:=hq) hn).1 (e.trans hy.symm)
  omega
 by_cases e:j=y
 ·subst e
  rw[if_pos rfl,if_neg hfr,if_pos (List.mem_append.2 (.inr (List.mem_singleton.2 rfl))),List.append_nil]
 ·rw[if_neg e]
  have:(j:Int)≠(y:Int):=fun h=>e (by omega)
  simp only[List.mem_append,List.mem_singleton,this,or_false]
theorem backP_all{to:List (List Int)}{i q:Nat}(hq:(to[i]?.getD []).length<=q)(j:Nat):ix to (to[i]?.getD []) i q j=GG.cD to j (i+1):=by
 unfold ix
 rw[List.take_of_length_le hq,GG.rV]
 unfold GG.leadsB
 by_cases h:(j:Int)∈to[i]?.getD []
 ·rw[if_pos h,if_pos (decide_eq_true h)]
 ·rw[if_neg h,if_neg (by simpa using h)]
theorem backP_len(to:List (List Int))(row:List Int)(i q j:Nat):(ix to row i q j).length<=i+1:=by
 unfold ix
 rw[List.length_append]
 have:=kz to j i
 split <;> simp <;> omega
def gH(to:List (List Int)):List (List Int):=if GG.al to=true then GG.bR to else []
set_option maxRecDepth 100000 in
set_option maxHeartbeats 3200000 in
theorem iy{v:Value}{to:List (List Int)}(W:World)(hv:aq W.heap.size W v to)(hx:cQ to) :
 Calls Tryz.prog 90 #[v] W fun e W'=>qj W.heap.size (gH to) e W W':=by
 have hx0:=hx.1
 have HV:=zH hv
 have HX:=zH hx
 cases hr:GG.al to
 ·obtain⟨va,vc,rfl⟩:=hv.form
  clear hv hx
  have HR:=zH hr
  have HE:=zH (show gH to=[] by unfold gH;rw[if_neg (by rw[hr];simp)])
  clear hr
  go_enter Tryz.func90,Tryz.ntmps90
  go_wp2_with (go_at_call 35;refine(aT _ to _ HV.out HX.out).mono ?_;rintro e w' ⟨rfl,hB⟩;have HB:=zH hB;clear hB;rw[HR.out])
  go_ret
  exact⟨_,rfl,by rw[HE.out];exact⟨[],br _ _ _ _ (fun _=>rfl),rfl,fun j hj=>absurd hj (Nat.not_lt_zero _)⟩,HB.out⟩
 ·have hlen :=GG.aC hr
  have HR:=zH hr
  have HE:=zH (show gH to=GG.bR to by unfold gH;rw[if_pos hr])
  obtain⟨va,vo,vc,rfl⟩:=hv.addr (by omega)
  have hvb:=hv.blk (by omega)
  obtain⟨i0,hi0,hz0,hz1,hz2⟩:=info_parts Tryz.infoGInt
  have hmk:=run_make_row' (P:=Tryz.prog) 32 54 (.slice none 0 0) 24 (by kernel_rfl) Tryz.infoGRow rfl .i64 .i64 to.length (by omega) (by omega)
  clear hv hx hr
  go_enter Tryz.func90,Tryz.ntmps90
  go_wp2_with (go_at_call 35;refine(aT _ to _ HV.out HX.out).mono ?_;rintro e w' ⟨rfl,hB⟩;have HB:=zH hB;clear hB;rw[HR.out])
  clear hmk
  obtain⟨W1,eW1⟩:∃W1:World,W1=w':=⟨_,rfl⟩
  rw[<-eW1]
  rw[<-eW1] at HB
  clear eW1
  have H0:=zH (qi W1 to.length)
  have HV1:=zH (HV.out.on HB.out HB.out.size)
  have hvb1:va<W1.heap.size:=Nat.lt_of_lt_of_le hvb HB.out.size
  go_loopw [16] (fun k wr=>∃i:Nat,i<=to.length/\k=.int .i64 (i:Int)/\OwnG W1 to.length (fun j=>GG.cD to j i) wr) (fun k _=>to.length-(intOf k).toNat)
  case atStart=>exact⟨0,Nat.zero_le _,rfl,H0.out.congr fun j _=>(rZ to j).symm⟩
  case round =>
   obtain⟨i,hi,rfl,hO⟩:=hrel
   clear H0
   have HO:=zH hO
   clear hO
   by_cases hlt:i<to.length
   ·have HBo:=zH (show Below W1.heap.size W1 wr from HO.out.choose_spec.below)
    obtain⟨ra,rac,hx1,hrx⟩:=(HV1.out.below HBo.out).at hlt
    have i1:(0:Int)<=i/\(i:Int)<to.length:=by omega
    have b1:(to[i]?.getD []).length<=17592186044416:=by have:=GG.dz (GG.aZ HR.out hlt);omega
    have HRO:=zH (GG.aZ HR.out hlt)
    have HALL:=zH (fun q (hq:(to[i]?.getD []).length<=q) j=>backP_all (to:=to) hq j)
    obtain⟨r,er⟩:∃r,r=to[i]?.getD []:=⟨_,rfl⟩
    rw[<-er] at hx1 hrx b1 HRO HALL
    have HRX:=zH hrx
    clear er hrx
    go_wp2_with fail
    obtain⟨wo,ewo⟩:∃wo:World,wo=wr:=⟨_,rfl⟩
    rw[<-ewo]
    rw[<-ewo] at HO HBo HRX hx1
    clear ewo hx1
    go_loopw [23] (fun k wr=>∃q:Nat,q<=r.length/\k=.int .i64 (q:Int)/\OwnG W1 to.length (ix to r i q) wr) (fun k _=>r.length-(intOf k).toNat)
    case atStart=>exact⟨0,Nat.zero_le _,rfl,HO.out.congr fun j _=>sd to r i j⟩
    case round =>
     obtain⟨q,hq,rfl,hO2⟩:=hrel
     clear HO
     by_cases hqt:q<r.length
     ·obtain⟨vs,hT⟩:=hO2
      have HT:=zH hT
      clear hT
      obtain⟨xb2,xo2,rfl,hx2⟩:=(HRX.out.of_both HBo.out HT.out.below).cellAt hqt
      have i3:(0:Int)<=q/\(q:Int)<r.length:=by omega
      have HX2:=zH (GG.df HRO.out _ (GG.bn (d:=0) hqt))
      have HST:=zH (fun y hy=>se (to:=to) (i:=i) (y:=y) hqt hy (GG.gG HRO.out))
      obtain⟨x,ex⟩:∃x,x=r[q]?.getD 0:=⟨_,rfl⟩
      rw[<-ex] at hx2 HX2 HST
      clear ex
      obtain⟨y,rfl⟩:∃y:Nat,x=(y:Int):=⟨x.toNat,by have:=HX2.out;omega⟩
      have hyn:y<to.length:=by have:=HX2.out;omega
      have i4:(0:Int)<=(y:Int)/\(y:Int)<to.length:=by omega
      have hcj:=World.rowIs.cell HT.out.tab hyn
      have HLN:=zH (backP_len to r i q y)
      obtain⟨sa,sc,hsv⟩:=GG.aI (HT.out.own y hyn)
      have HSV:=zH hsv
      clear hsv
      go_wp2_with (first
       | (at_builtin
          refine wpList_append_lies _ rfl _ _ 54 rfl (W1.heap.size+1) 3 i0 (.int .i64 0) 1 8 Tryz.underlying54 hi0 hz0 hz1 hz2 rfl (by decide) (vs y) _ _ rfl ((HT.out.own y hyn).alloc _) ⟨wr.heap.size,0,none⟩ 1 1 [.int .i64 (i:Int)] rfl rfl (GG.aW _ _ _) (by intro u hu;rw[List.mem_singleton.1 hu];rfl) (by decide) (by have:=HLN.out;unfold maxLen;omega) (by have:=HLN.out;omega) (by have:=HT.out.size;simp;omega) (wr.heap.size+1) (by simp) ?_
          intro g cap w1 ho hg hat _
          have HA:=zH (HT.out.app hyn ho hg hat)
          have hcw:=HA.out.2.1
          have hfw:=HA.out.2.2
          clear ho hg hat))
      go_roundw
      case rel=>exact⟨q+1,by omega,by go_num,HA.out.1.congr fun j _=>HST.out y rfl j⟩
      case measure=>simp [intOf];omega
     ·have HN:=zH (show OwnG W1 to.length (fun j=>GG.cD to j (i+1)) wr from hO2.congr fun j _=>HALL.out q (by omega) j)
      clear hO2
      go_wp2_with fail
      go_roundw
      case rel=>exact⟨i+1,by omega,by go_num,HN.out⟩
      case measure=>simp [intOf];omega
   ·have HG:=zH (show aq wr.heap.size wr (.slice (some ⟨W1.heap.size,0,none⟩) to.length to.length) (GG.bR to) from(HO.out.congr (rows':=fun j=>GG.cD to j to.length) fun j hj=>by rw[show i=to.length by omega]).graph)
    have HB2:=zH (bstep HB.out (show Below W1.heap.size W1 wr from HO.out.choose_spec.below))
    clear HO
    go_wp2_with fail
    go_ret
    exact⟨_,rfl,by rw[HE.out];exact HG.out,HB2.out⟩
set_option maxRecDepth 100000 in
set_option maxHeartbeats 1600000 in
theorem exits_any{v:Value}{to:List (List Int)}(W:World)(hv:aq W.heap.size W v to)(hx:cQ to)(hl:to.length<=256) :
 Calls Tryz.prog 182 #[v] W fun e W'=>oW W.heap.size ((GG.bJ to to.length).map Int.ofNat) e W W':=by
 have hx0:=hx.1
 have HV:=zH hv
 have HX:=zH hx
 obtain⟨va,vc,rfl⟩:=hv.form
 obtain⟨i0,hi0,hz0,hz1,hz2⟩:=info_parts Tryz.infoGInt
 clear hv hx
 go_enter Tryz.func182,Tryz.ntmps182
 go_wp2_with fail
 go_loopw [3,8] (fun o k wr=>∃i:Nat,i<=to.length/\k=.int .i64 (i:Int)/\wr.ownsRow W.heap.size 3 1 o (GG.bJ to i).length (ap ((GG.bJ to i).map Int.ofNat))/\Below W.heap.size W wr) (fun _ k _=>to.length-(intOf k).toNat)
 case atStart=>exact⟨0,Nat.zero_le _,rfl,World.ownsRow_nil _ _ _ _,Below.refl _ _⟩
 case round =>
  obtain⟨i,hi,rfl,hO,hB⟩:=hrel
  have HO:=zH hO
  have HB:=zH hB
  clear hO hB
  by_cases hlt:i<to.length
  ·obtain⟨xb,xo,xc,e1⟩:=HV.out.addr (by omega)
   cases e1
   obtain⟨ra,rac,hx1,hrx⟩:=(HV.out.below HB.out).at hlt
   have i1:(0:Int)<=i/\(i:Int)<to.length:=by omega
   have b1:=HX.out.row i
   have HLN:=zH (show (GG.bJ to i).length<=i by unfold GG.bJ;have:=List.length_filter_le (GG.fT to) (List.range i);simpa using this)
   cases hb:GG.fT to i
   ·have HS:=zH (show GG.bJ to (i+1)=GG.bJ to i by unfold GG.bJ;rw[List.range_succ,List.filter_append];simp [hb])
    have hne:((((to[i]?.getD []).length:Nat):Int) == 0)=false:=by
     rw[beq_eq_false_iff_ne]
     intro e
     unfold GG.fT at hb
     rw[List.isEmpty_eq_false_iff] at hb
     exact hb (List.length_eq_zero_iff.1 (by omega))
    generalize to[i]?.getD []=r at hx1 b1 hne
    clear hrx hb
    go_wp2_with fail
    go_roundw
    case rel=>exact⟨i+1,by omega,by go_num,by rw[HS.out];exact HO.out,HB.out⟩
    case measure=>simp [intOf];omega
   ·have HS:=zH (show GG.bJ to (i+1)=GG.bJ to i ++ [i] by unfold GG.bJ;rw[List.range_succ,List.filter_append];simp [hb])
    have hne:((((to[i]?.getD []).length:Nat):Int) == 0)=true:=by
     rw[beq_iff_eq]
     unfold GG.fT at hb
     rw[List.isEmpty_iff] at hb
     rw[hb];rfl
    generalize to[i]?.getD []=r at hx1 b1 hne
    clear hrx hb
    go_wp2_with (first
     | (at_builtin
        refine GG.wpList_append_any rfl _ _ 54 rfl W.heap.size 3 i0 (.int .i64 0) 1 8 Tryz.underlying54 hi0 hz0 hz1 hz2 rfl (by decide) u3 _ _ rfl (HO.out.alloc _) (.slice (some ⟨wr.heap.size,0,none⟩) 1 1) 1 [.int .i64 (i:Int)] rfl rfl (.inr ⟨_,_,rfl,GG.aW _ _ _⟩) (by intro u hu;rw[List.mem_singleton.1 hu];rfl) (by have:=HLN.out;unfold maxLen;omega) (by have:=HLN.out;omega) (by have:=HB.out.size;simp;omega) ?_
        intro v1 w1 ho hg
        have HA:=zH (show w1.ownsRow W.heap.size 3 1 v1 (GG.bJ to (i+1)).length (ap ((GG.bJ to (i+1)).map Int.ofNat)) by
         rw[HS.out]
         have e1:(GG.bJ to i ++ [i]).length=(GG.bJ to i).length+1:=by simp
         have e2:ap ((GG.bJ to i ++ [i]).map Int.ofNat)=ap ((GG.bJ to i).map Int.ofNat) ++ [.int .i64 (i:Int)]:=by simp [ap]
         rw[e1,e2];exact ho)
        have HB1:=zH ((HB.out.alloc HB.out.size _).grown hg (by have:=HB.out.size;simp;omega) (fun k e=>(HO.out.lt k e).1))
        clear ho hg))
    go_roundw
    case rel=>exact⟨i+1,by omega,by go_num,HA.out,HB1.out⟩
    case measure=>simp [intOf];omega
  ·have HE:=zH (show Row wr.heap.size wr u3 ((GG.bJ to to.length).map Int.ofNat) by
    have h:=HO.out
    rw[show i=to.length by omega] at h
    exact aS h)
   clear HO
   go_wp2_with fail
   go_ret
   exact⟨_,rfl,HE.out,HB.out⟩
end
section
open Go.RowKit
theorem exits_lt{to:List (List Int)}:∀x∈(GG.bJ to to.length).map Int.ofNat,0<=x/\x<to.length:=by
 intro x hx
 obtain⟨j,hj,rfl⟩:=List.mem_map.1 hx
 unfold GG.bJ at hj
 have:=List.mem_range.1 (List.mem_filter.1 hj).1
 exact⟨Int.natCast_nonneg _,by show (j:Int)<_;omega⟩
theorem exits_len(to:List (List Int)):((GG.bJ to to.length).map Int.ofNat).length<=to.length:=by
 unfold GG.bJ
 rw[List.length_map]
 have:=List.length_filter_le (GG.fT to) (List.range to.length)
 simpa using this
theorem nat_back(l:List Nat):(l.map Int.ofNat).map Int.toNat=l:=by
 rw[List.map_map]
 conv=>rhs;rw[<-List.map_id l]
 exact List.map_congr_left fun x _=>by simp
theorem sg{v:Value}{to:List (List Int)}(u:Value)(W:World)(hr:GG.al to=true)(hv:aq W.heap.size W v (GG.bR to))(hu:Row W.heap.size W u ((GG.bJ to to.length).map Int.ofNat)) :
 Calls Tryz.prog 117 #[v,u] W fun e W'=>WalkP W.heap.size (GG.runG (GG.am (GG.bR to)) (GG.bJ to to.length)) e W W':=by
 have hl:=GG.aC hr
 have h:=jL u _ W (GG.gV hr) hv hu (by have:=exits_len to;omega) (by rw[GG.cg];exact exits_lt)
 rw[nat_back] at h
 exact h
theorem sh{to:List (List Int)}(hr:GG.al to=true):fU to=GG.cE to.length (fun x=>!(GG.runG (GG.am (GG.bR to)) (GG.bJ to to.length)).1 x):=by
 unfold fU
 rw[if_pos hr]
 exact GG.jJ fun x hx=>by rw[GG.ends_back hr hx]
set_option maxRecDepth 100000 in
set_option maxHeartbeats 3200000 in
theorem nt{v:Value}{to:List (List Int)}(W:World)(hv:aq W.heap.size W v to)(hx:cQ to) :
 Calls Tryz.prog 139 #[v] W fun e W'=>e=gW (fU to)/\Below W.heap.size W W':=by
 have hx0:=hx.1
 have HV:=zH hv
 have HX:=zH hx
 obtain⟨va,vc,rfl⟩:=hv.form
 clear hv hx
 cases hr:GG.al to
 ·have HR:=zH hr
  have HE:=zH (show fU to = -1 by unfold fU;rw[if_neg (by rw[hr];simp)])
  clear hr
  go_enter Tryz.func139,Tryz.ntmps139
  go_wp2_with (go_at_call 35;refine(aT _ to _ HV.out HX.out).mono ?_;rintro e w' ⟨rfl,hB⟩;have HB:=zH hB;clear hB;rw[HR.out])
  go_ret2
  exact⟨by rw[HE.out];exact dg.symm,HB.out⟩
 ·have HR:=zH hr
  have hlen:=GG.aC hr
  have HBE:=zH (show gH to=GG.bR to by unfold gH;rw[if_pos hr])
  have HE:=zH (sh hr)
  have hz:=fun(w:World)=>eu w
  have HWK:=zH (fun v u W1 h1 h2=>sg (v:=v) (to:=to) u W1 hr h1 h2)
  clear hr
  generalize GG.runG (GG.am (GG.bR to)) (GG.bJ to to.length)=s at HWK HE
  go_enter Tryz.func139,Tryz.ntmps139
  go_wp2_with (first
   | (go_at_call 35;refine(aT _ to _ HV.out HX.out).mono ?_;rintro e w' ⟨rfl,hB⟩;have HB:=zH hB;clear hB;rw[HR.out])
   | (go_at_call 90
      refine(iy _ (HV.out.on HB.out HB.out.size) HX.out).mono ?_
      rintro e w2 ⟨bv,rfl,hg2,hB2⟩
      rw[HBE.out] at hg2
      have HG2:=zH hg2
      have HB2:=zH (bstep HB.out hB2)
      clear hg2 hB2)
   | (go_at_call 182
      refine(exits_any _ (HV.out.on HB2.out HB2.out.size) HX.out hlen.2).mono ?_
      rintro e w3 ⟨xv,rfl,hx3,hB3⟩
      have HX3:=zH hx3
      have HG3:=zH (HG2.out.on hB3 hB3.size)
      have HB3:=zH (bstep HB2.out hB3)
      clear hx3 hB3)
   | (go_at_call 117
      refine(HWK.out _ _ _ HG3.out HX3.out).mono ?_
      rintro e w' ⟨cs,bv,rfl,hn,hc,ho,hs,hB4⟩
      have HCN:=zH hn
      have HCI:=zH hc
      have HB4:=zH (bstep HB3.out hB4)
      have HONE:=zH (oT hn hc)
      clear hn hc ho hs hB4)
   | (refine wpList_store_row rfl 130 (.tmp 4) (.tmp 15) rfl _ cs rfl rfl 130 falses (heap_alloc_new _ _) (by rw[HCN.out];kernel_rfl) (by rw[HCN.out];simp [falses]) HONE.out ?_
      rw[bF])
   | (refine wpList_load_row rfl 130 (.tmp 4) rfl _ rfl 130 cs (0,0) _ (heap_alloc_new _ _) Tryz.underlying130 rfl (by rw[HCN.out];kernel_rfl) ?_)
   | (go_at_call 181
      refine(nr cs s.1 to.length _ HCN.out HCI.out hlen.2).mono ?_
      rintro e w5 ⟨rfl,hB5⟩
      have HB5:=zH (bstep (HB4.out.alloc HB4.out.size _) hB5)
      clear hB5
      unfold gW))
  go_ret2
  exact⟨by rw[HE.out];rfl,HB5.out⟩
theorem ends_hit{to:List (List Int)}{i k:Nat}(hk:k<to.length)(h1:GG.reachB to (-1) i k=true)(h2:GG.fT to k=true):GG.endsB to i=true :=
 List.any_eq_true.2 ⟨k,List.mem_range.2 hk,by rw[h1,h2];rfl⟩
theorem ends_no{to:List (List Int)}{i m:Nat}(hm:to.length<=m)(h:∀k,k<m->(GG.reachB to (-1) i k && GG.fT to k)=false):GG.endsB to i=false:=by
 unfold GG.endsB
 rw[List.any_eq_false]
 intro k hk
 rw[h k (by have:=List.mem_range.1 hk;omega)];simp
set_option maxRecDepth 100000 in
set_option maxHeartbeats 1600000 in
theorem qk{v:Value}{to:List (List Int)}(i:Nat)(W:World)(hv:aq W.heap.size W v to)(hr:GG.al to=true)(hi:i<to.length) :
 Calls Tryz.prog 113 #[v,.int .i64 i] W fun e W'=>e=.returned (.bool (GG.endsB to i))/\Below W.heap.size W W':=by
 have hlen:=GG.aC hr
 have HV:=zH hv
 have HR:=zH hr
 obtain⟨va,vo,vc,rfl⟩:=hv.addr (by omega)
 clear hv hr
 go_enter Tryz.func113,Tryz.ntmps113
 go_wp2_with (go_at_call 75
              refine(jN i (-1) _ HV.out HR.out hi (by omega)).mono ?_
              rintro e w1 ⟨bv,rfl,hb,hB⟩
              have HBR:=zH hb
              have HB:=zH hB
              clear hb hB
              obtain⟨ba,bc,hbf⟩:=HBR.out.form
              rw[bM] at hbf
              subst hbf)
 go_loop [6] (fun k=>∃q:Nat,q<=to.length/\k=.int .i64 (q:Int)/\RowKit.Hid (∀k,k<q->(GG.reachB to (-1) i k && GG.fT to k)=false)) (fun k=>to.length-(intOf k).toNat)
 case atStart=>exact⟨0,Nat.zero_le _,rfl,zH (fun j hj=>absurd hj (Nat.not_lt_zero _))⟩
 case round =>
  obtain⟨q,hq,rfl,HN⟩:=hrel
  by_cases hqt:q<to.length
  ·obtain⟨bb,bo,rfl,hcb⟩:=HBR.out.cellAt (show q<(cO to.length (GG.reachB to (-1) i)).length by rw[bM];exact hqt)
   rw[iU hqt,Option.getD_some] at hcb
   have i1:(0:Int)<=q/\(q:Int)<to.length:=by omega
   cases hb:GG.reachB to (-1) i q
   ·rw[hb] at hcb
    have HS:=zH (show ∀k,k<q+1->(GG.reachB to (-1) i k && GG.fT to k)=false from fun k hk=>(Nat.lt_succ_iff_lt_or_eq.1 hk).elim (HN.out k) (fun e=>by rw[e,hb];rfl))
    clear hb
    go_wp2_with fail
    go_round
    case rel=>exact⟨q+1,by omega,by go_num,HS⟩
    case measure=>simp [intOf];omega
   ·rw[hb] at hcb
    obtain⟨ra,rac,hx1,hrx⟩:=(HV.out.below HB.out).at hqt
    have b1:(to[q]?.getD []).length<=17592186044416:=by have:=GG.dz (GG.aZ HR.out hqt);omega
    cases hx:GG.fT to q
    ·have HS:=zH (show ∀k,k<q+1->(GG.reachB to (-1) i k && GG.fT to k)=false from fun k hk=>(Nat.lt_succ_iff_lt_or_eq.1 hk).elim (HN.out k) (fun e=>by rw[e,hx];simp))
     have hne:((((to[q]?.getD []).length:Nat):Int) == 0)=false:=by
      rw[beq_eq_false_iff_ne]
      intro e
      unfold GG.fT at hx
      rw[List.isEmpty_eq_false_iff] at hx
      exact hx (List.length_eq_zero_iff.1 (by omega))
     generalize to[q]?.getD []=r at hx1 b1 hne
     clear hrx hb hx
     go_wp2_with fail
     go_round
     case rel=>exact⟨q+1,by omega,by go_num,HS⟩
     case measure=>simp [intOf];omega
    ·have HS:=zH (ends_hit hqt hb hx)
     have hne:((((to[q]?.getD []).length:Nat):Int) == 0)=true:=by
      rw[beq_iff_eq]
      unfold GG.fT at hx
      rw[List.isEmpty_iff] at hx
      rw[hx];rfl
     generalize to[q]?.getD []=r at hx1 b1 hne
     clear hrx hb hx
     go_wp2_with fail
     go_ret
     exact⟨af HS.out.symm,HB.out⟩
  ·have HS:=zH (ends_no (m:=q) (by omega) HN.out)
   go_wp2_with fail
   go_ret
   exact⟨af HS.out.symm,HB.out⟩
set_option maxRecDepth 100000 in
set_option maxHeartbeats 1600000 in
theorem kA{v:Value}{to:List (List Int)}(W:World)(hv:aq W.heap.size W v to)(hr:GG.al to=true) :
 Calls Tryz.prog 68 #[v] W fun e W'=>e=.returned (.int .i64 (ft to))/\Below W.heap.size W W':=by
 have hlen:=GG.aC hr
 have HV:=zH hv
 have HR:=zH hr
 have HE:=zH (show ft to=GG.cE to.length (fun x=>!GG.reachB to (-1) 0 x) by unfold ft;rw[if_pos hr])
 obtain⟨va,vo,vc,rfl⟩:=hv.addr (by omega)
 clear hv hr
 go_enter Tryz.func68,Tryz.ntmps68
 go_wp2_with (go_at_call 75
              refine(jN 0 (-1) _ HV.out HR.out (by omega) (by omega)).mono ?_
              rintro e w1 ⟨bv,rfl,hb,hB⟩
              have HBR:=zH hb
              have HB:=zH hB
              clear hb hB
              obtain⟨ba,bc,hbf⟩:=HBR.out.form
              rw[bM] at hbf
              subst hbf)
 go_loop [4] (fun k=>∃q:Nat,q<=to.length/\k=.int .i64 (q:Int)/\RowKit.Hid (∀k,k<q->(fun x=>!GG.reachB to (-1) 0 x) k=false)) (fun k=>to.length-(intOf k).toNat)
 case atStart=>exact⟨0,Nat.zero_le _,rfl,zH (fun j hj=>absurd hj (Nat.not_lt_zero _))⟩
 case round =>
  obtain⟨q,hq,rfl,HN⟩:=hrel
  by_cases hqt:q<to.length
  ·obtain⟨bb,bo,rfl,hcb⟩:=HBR.out.cellAt (show q<(cO to.length (GG.reachB to (-1) 0)).length by rw[bM];exact hqt)
   rw[iU hqt,Option.getD_some] at hcb
   have i1:(0:Int)<=q/\(q:Int)<to.length:=by omega
   cases hb:GG.reachB to (-1) 0 q
   ·rw[hb] at hcb
    have HS:=zH (HE.out.trans (GG.dC (p:=fun x=>!GG.reachB to (-1) 0 x) hqt (by show (!GG.reachB to (-1) 0 q)=true;rw[hb];rfl) HN.out))
    clear hb
    go_wp2_with fail
    go_ret
    exact⟨bL HS.out.symm,HB.out⟩
   ·rw[hb] at hcb
    have HS:=zH (show ∀k,k<q+1->(fun x=>!GG.reachB to (-1) 0 x) k=false from fun k hk=>(Nat.lt_succ_iff_lt_or_eq.1 hk).elim (HN.out k) (fun e=>by rw[e];show (!GG.reachB to (-1) 0 q)=false;rw[hb];rfl))
    clear hb
    go_wp2_with fail
    go_round
    case rel=>exact⟨q+1,by omega,by go_num,HS⟩
    case measure=>simp [intOf];omega
  ·have HS:=zH (HE.out.trans (GG.dI (n:=to.length) (p:=fun x=>!GG.reachB to (-1) 0 x) (fun j hj=>HN.out j (by omega))))
   go_wp2_with fail
   go_ret
   exact⟨bL HS.out.symm,HB.out⟩
set_option maxRecDepth 100000 in
set_option maxHeartbeats 1600000 in
theorem lM{v:Value}{to:List (List Int)}(W:World)(hv:aq W.heap.size W v to)(hr:GG.al to=true) :
 Calls Tryz.prog 69 #[v] W fun e W'=>e=.returned (.int .i64 (fU to))/\Below W.heap.size W W':=by
 have hlen:=GG.aC hr
 have HV:=zH hv
 have HR:=zH hr
 have HE:=zH (show fU to=GG.cE to.length (fun x=>!GG.endsB to x) by unfold fU;rw[if_pos hr])
 obtain⟨va,vo,vc,rfl⟩:=hv.addr (by omega)
 clear hv hr
 go_enter Tryz.func69,Tryz.ntmps69
 go_wp2_with fail
 go_loopw [3] (fun k wr=>∃q:Nat,q<=to.length/\k=.int .i64 (q:Int)/\Below W.heap.size W wr/\RowKit.Hid (∀k,k<q->(fun x=>!GG.endsB to x) k=false)) (fun k _=>to.length-(intOf k).toNat)
 case atStart=>exact⟨0,Nat.zero_le _,rfl,Below.refl _ _,zH (fun j hj=>absurd hj (Nat.not_lt_zero _))⟩
 case round =>
  obtain⟨q,hq,rfl,hB,HN⟩:=hrel
  have HB:=zH hB
  clear hB
  by_cases hqt:q<to.length
  ·cases hb:GG.endsB to q
   ·have HBL:=zH hb
    have HS:=zH (HE.out.trans (GG.dC (p:=fun x=>!GG.endsB to x) hqt (by show (!GG.endsB to q)=true;rw[hb];rfl) HN.out))
    clear hb
    go_wp2_with (go_at_call 113;refine(qk q _ (HV.out.on HB.out HB.out.size) HR.out hqt).mono ?_;rintro e w2 ⟨rfl,hB2⟩;have HB2:=zH (bstep HB.out hB2);clear hB2;rw[HBL.out])
    go_ret
    exact⟨bL HS.out.symm,HB2.out⟩
   ·have HBL:=zH hb
    have HS:=zH (show ∀k,k<q+1->(fun x=>!GG.endsB to x) k=false from fun k hk=>(Nat.lt_succ_iff_lt_or_eq.1 hk).elim (HN.out k) (fun e=>by rw[e];show (!GG.endsB to q)=false;rw[hb];rfl))
    clear hb
    go_wp2_with (go_at_call 113;refine(qk q _ (HV.out.on HB.out HB.out.size) HR.out hqt).mono ?_;rintro e w2 ⟨rfl,hB2⟩;have HB2:=zH (bstep HB.out hB2);clear hB2;rw[HBL.out])
    go_roundw
    case rel=>exact⟨q+1,by omega,by go_num,HB2.out,HS⟩
    case measure=>simp [intOf];omega
  ·have HS:=zH (HE.out.trans (GG.dI (n:=to.length) (p:=fun x=>!GG.endsB to x) (fun j hj=>HN.out j (by omega))))
   go_wp2_with fail
   go_ret
   exact⟨bL HS.out.symm,HB.out⟩
end
section
open Go.RowKit
theorem gI{B:Nat}{W w:World}(h:Below B W w)(d:Nat):Below B W (w.drewN d):=h.trans ⟨rfl,rfl,rfl,Nat.le_refl _,fun _ _=>rfl⟩
theorem Row.on{n:Nat}{W W':World}{v:Value}{xs:List Int}(h:Row n W v xs)(hb:Below n W W')(hn:n<=W'.heap.size):Row W'.heap.size W' v xs:=(h.below hb).mono hn
end
section
open Go.ChangeShapes Go.WideShapes Go.RowKit Go.Deep
theorem dS{H:Type}{P:Program}{e:TypeId}{d:DataW H}{n:Nat}:∀ {l:List (DataW H)},d∈l->n∈d.weights P e->n∈DataW.weightsAll P e l
 | x :: l,hd,hn=>by
   simp only[DataW.weightsAll,List.mem_append]
   rcases List.mem_cons.1 hd with rfl | hd
   ·exact .inl hn
   ·exact .inr (dS hd hn)
theorem lN{W:World}{y:Addr}{v:Value}(h:W.cell? y=some v):∃b off,y=⟨b,off,none⟩/\b<W.heap.size:=by
 obtain⟨b,off,spot⟩:=y
 have hspot:spot=none:=by simpa using World.cell?_spot h
 subst hspot
 refine⟨b,off,rfl,?_⟩
 apply Classical.byContradiction;intro hn
 simp [World.cell?,Array.getElem?_eq_none (Nat.le_of_not_lt hn)] at h
end
section
open Go.RowKit
structure OpV where
 (k o d r a:Int) (xa:Option Addr) (xl xc:Nat) (ya:Option Addr) (yl yc:Nat) (n t:Int)
def aF(v:OpV):List Value:=[.int .u8 v.k,.int .u8 v.o,.int .i64 v.d,.int .i64 v.r,.int .i64 v.a,.slice v.xa v.xl v.xc,.slice v.ya v.yl v.yc,.int .i64 v.n,.int .i64 v.t]
def Ops(n₀:Nat)(W:World)(v:Value)(b:List OpV):Prop :=
 ((∃a cap,v=.slice a 0 cap)/\b=[])∨∃blk off cap,v=.slice (some ⟨blk,off,none⟩) b.length cap/\blk<n₀/\∀j x,b[j]?=some x->∀c u,(aF x)[c]?=some u->W.cell? ⟨blk,off+j*9+c,none⟩=some u
theorem Ops.below{n₀:Nat}{A B:World}(h:Below n₀ A B){v:Value}{b:List OpV}:Ops n₀ A v b->Ops n₀ B v b
 | .inl e=>.inl e
 | .inr ⟨blk,off,cap,e,hb,hc⟩=>.inr ⟨blk,off,cap,e,hb,fun j x hj c u hu=>(h.cell (p:=⟨blk,off+j*9+c,none⟩) hb).trans (hc j x hj c u hu)⟩
theorem Ops.mono{n n':Nat}(h:n<=n'){A:World}{v:Value}{b:List OpV}:Ops n A v b->Ops n' A v b
 | .inl e=>.inl e
 | .inr ⟨blk,off,cap,e,hb,hc⟩=>.inr ⟨blk,off,cap,e,by omega,hc⟩
theorem Ops.form{n₀:Nat}{A:World}{v:Value}{b:List OpV}(h:Ops n₀ A v b):∃a cap,v=.slice a b.length cap:=by
 rcases h with⟨⟨_,_,rfl⟩,rfl⟩ | ⟨blk,off,cap,rfl,_⟩
 ·exact⟨_,_,rfl⟩
 ·exact⟨_,_,rfl⟩
theorem Ops.last{n₀:Nat}{W:World}{v:Value}{b:List OpV}{p:Nat}(h:Ops n₀ W v b)(hp:b.length=p+1) :
 ∃blk off cap x,v=.slice (some ⟨blk,off,none⟩) (p+1) cap/\blk<n₀/\b.getLast?=some x/\∀c u,(aF x)[c]?=some u->W.cell? ⟨blk,off+p*9+c,none⟩=some u:=by
 rcases h with⟨_,rfl⟩ | ⟨blk,off,cap,rfl,hb,hc⟩
 ·simp at hp
 ·have hx:b[p]?=some b[p]:=List.getElem?_eq_getElem (by omega)
  have hll:b.getLast?=some b[p]:=by
   rw[List.getLast?_eq_getElem?,show b.length-1=p by omega]
   exact hx
  exact⟨blk,off,cap,b[p],by rw[hp],hb,hll,hc p _ hx⟩
def cl(n₀:Nat)(W:World)(v:Value)(bs:List (List OpV)):Prop :=
 ∃vs,cq n₀ W v vs/\vs.length=bs.length/\∀j,j<bs.length->∃r,vs[j]?=some r/\Ops n₀ W r (bs[j]?.getD [])
theorem cl.below{n₀:Nat}{A B:World}(h:Below n₀ A B){v:Value}{bs:List (List OpV)}:cl n₀ A v bs->cl n₀ B v bs
 | ⟨vs,h1,h2,h3⟩=>⟨vs,h1.below h,h2,fun j hj=>by obtain⟨r,e,g⟩:=h3 j hj;exact⟨r,e,g.below h⟩⟩
theorem cl.mono{n n':Nat}(h:n<=n'){A:World}{v:Value}{bs:List (List OpV)}:cl n A v bs->cl n' A v bs
 | ⟨vs,h1,h2,h3⟩=>⟨vs,h1.mono h,h2,fun j hj=>by obtain⟨r,e,g⟩:=h3 j hj;exact⟨r,e,g.mono h⟩⟩
theorem cl.on{n:Nat}{W W':World}{v:Value}{bs:List (List OpV)}(h:cl n W v bs)(hb:Below n W W')(hn:n<=W'.heap.size):cl W'.heap.size W' v bs:=(h.below hb).mono hn
theorem cl.form{n₀:Nat}{A:World}{v:Value}{bs:List (List OpV)}(h:cl n₀ A v bs):∃a cap,v=.slice a bs.length cap:=by
 obtain⟨vs,h1,h2,_⟩:=h
 obtain⟨a,cap,rfl⟩:=h1.form
 exact⟨a,cap,by rw[h2]⟩
theorem cl.at{n₀:Nat}{W:World}{a:Option Addr}{n cap:Nat}{bs:List (List OpV)}(h:cl n₀ W (.slice a n cap) bs){j:Nat}(hj:j<bs.length) :
 ∃b off a' cap',a=some ⟨b,off,none⟩/\b<n₀/\W.cell? ⟨b,off+j,none⟩=some (.slice a' (bs[j]?.getD []).length cap')/\Ops n₀ W (.slice a' (bs[j]?.getD []).length cap') (bs[j]?.getD []):=by
 obtain⟨vs,h1,h2,h3⟩:=h
 obtain⟨b',off',cap',e,hb,hc⟩:=h1.at (by omega)
 cases e
 obtain⟨r,e,g⟩:=h3 j hj
 obtain⟨a',c',rfl⟩:=g.form
 exact⟨b',off',a',c',rfl,hb,hc j _ e,g⟩
def bu(b:List OpV):Option (List Int) :=
 match b.getLast? with
 | none=>none
 | some x=>if x.k=13 then some [] else if x.k=11 then some [x.r] else if x.k=12 then (if x.r=x.a then some [x.r] else some [x.r,x.a]) else none
theorem iz{b:List OpV}{x:OpV}(h:b.getLast?=some x):bu b=if x.k=13 then some [] else if x.k=11 then some [x.r] else if x.k=12 then (if x.r=x.a then some [x.r] else some [x.r,x.a]) else none:=by
 unfold bu;rw[h]
def cN(bs:List (List OpV))(i:Nat):List (List Int):=(bs.take i).map fun b=>(bu b).getD []
def okI(bs:List (List OpV)):Bool:=bs.all fun b=>(bu b).isSome
def ofB(bs:List (List OpV)):Bool:=okI bs && GG.al (cN bs bs.length)
def ofL(bs:List (List OpV)):List (List Int):=if ofB bs=true then cN bs bs.length else []
theorem lO{bs:List (List OpV)}{i:Nat}(hi:i<bs.length):cN bs i ++ [(bu (bs[i]?.getD [])).getD []]=cN bs (i+1):=by
 unfold cN
 rw[List.take_succ_eq_append_getElem hi,List.map_append,List.getElem?_eq_getElem hi]
 rfl
theorem kB{bs:List (List OpV)}{i:Nat}(hi:i<=bs.length):(cN bs i).length=i:=by unfold cN;rw[List.length_map,List.length_take];omega
theorem ql(b:List OpV):((bu b).getD []).length<=2:=by
 unfold bu
 split
 ·simp
 ·split
  ·simp
  ·split
   ·simp
   ·split
    ·split <;> simp
    ·simp
theorem ld{bs:List (List OpV)}{i:Nat}(hi:i<=bs.length)(h:bs.length<=17592186044416):cQ (cN bs i):=by
 refine⟨by rw[kB hi];omega,fun row hr=>?_⟩
 unfold cN at hr
 obtain⟨b,_,rfl⟩:=List.mem_map.1 hr
 have:=ql b
 omega
theorem okI_no{bs:List (List OpV)}{i:Nat}(hi:i<bs.length)(h:bu (bs[i]?.getD [])=none):okI bs=false:=by
 unfold okI
 cases hb:bs.all (fun b=>(bu b).isSome)
 ·rfl
 ·rw[List.all_eq_true] at hb
  have:=hb _ (GG.bn (d:=[]) hi)
  rw[h] at this;cases this
theorem oX{bs:List (List OpV)}(h:∀i,i<bs.length->(bu (bs[i]?.getD [])).isSome=true):okI bs=true:=by
 unfold okI
 rw[List.all_eq_true]
 intro b hb
 obtain⟨i,hi,rfl⟩:=List.getElem_of_mem hb
 have:=h i hi
 rwa [List.getElem?_eq_getElem hi] at this
def zop:Array Value:=(aF ⟨0,0,0,0,0,none,0,0,none,0,0,0,0⟩).toArray
theorem info57:(Tryz.prog.info? 56).map (fun i=>(i.zero,i.size))=some (some (.agg zop),9):=by kernel_rfl
theorem lP(w:World):(zeroValue 56).run Tryz.prog w=.ok (.agg zop) w:=by
 have h:=info57
 cases hi:Tryz.prog.info? 56 with
 | none=>rw[hi] at h;cases h
 | some i =>
   rw[hi] at h
   simp only[Option.map_some,Option.some.injEq,Prod.mk.injEq] at h
   simp [zeroValue,typeInfo,hi,h.1]
theorem si(w:World)(blk off:Nat)(v:OpV)(hc:∀c u,(aF v)[c]?=some u->w.cell? ⟨blk,off+c,none⟩=some u) :
 (loadVar 56 ⟨blk,off,none⟩).run Tryz.prog w=.ok (.agg (aF v).toArray) w:=by
 have hl:(loadCells ⟨blk,off,none⟩ 9).run Tryz.prog w=.ok (aF v).toArray w :=
  run_loadCells_list (P:=Tryz.prog) w ⟨blk,off,none⟩ (aF v) (fun j u hu=>by rw[Addr.add_lit];exact hc j u hu)
 have hagg:(isAgg 56).run Tryz.prog w=.ok true w:=by kernel_rfl
 have hs:(sizeOf 56).run Tryz.prog w=.ok 9 w:=by kernel_rfl
 simp [loadVar,Sem.run_bind,hagg,hs,hl]
theorem bD{ops:Array Oper}{rest:List Oper}{o:Oper}{a:Act}{w:World}{Q:Exit->Act->World->Prop}(hgd:o.guard=none)(x:Operand)(ho:o.op=.load 56 x)
 (blk off:Nat) (hx:a.eval x=.pointer (some ⟨blk,off,none⟩)) (v:OpV) (hc:∀c u,(aF v)[c]?=some u->w.cell? ⟨blk,off+c,none⟩=some u)
 (h:wpList Tryz.prog ops Q rest (a.put o.dst (.agg (aF v).toArray)) w):wpList Tryz.prog ops Q (o :: rest) a w:=by
 refine wpList_plain hgd fun K hK=>?_
 unfold Oper.wp execOp
 simp only[ho,hx,Instr.loadAt,Instr.sureAddr,Sem.run_bind,Sem.run_pure,Result.andThen_ok,si w blk off v hc]
 exact hK _ _ h
theorem fj(v:OpV):(aF v).toArray.all (·.oneCell')=true:=by
 simp [aF,Value.oneCell']
theorem iV(w:World)(v:OpV)(c:Nat){u:Value}(h:(aF v)[c]?=some u):(w.alloc (.cells (aF v).toArray 56)).cell? ⟨w.heap.size,c,none⟩=some u:=by
 simp only[World.cell?,heap_alloc_new]
 simpa using h
def LeadsP(b:List OpV)(e:Ending)(W W':World):Prop :=
 ∃a cap,e=.returned (.tuple #[.slice a ((bu b).getD []).length cap,.bool (bu b).isSome])/\W'.ownsRow W.heap.size 3 1 (.slice a ((bu b).getD []).length cap) ((bu b).getD []).length (ap ((bu b).getD []))/\Below W.heap.size W W'
theorem fJ{b:List OpV}{l:List Int}{s:Bool}{W W':World}{a:Option Addr}{cap:Nat}(h:bu b=if s then some l else none)(hl:s=false->l=[])(ho:W'.ownsRow W.heap.size 3 1 (.slice a l.length cap) l.length (ap l))(hB:Below W.heap.size W W') :
 LeadsP b (.returned (.tuple #[.slice a l.length cap,.bool s])) W W':=by
 cases s
 ·have:=hl rfl
  subst this
  exact⟨a,cap,by rw[h];rfl,by rw[h];exact ho,hB⟩
 ·exact⟨a,cap,by rw[h];rfl,by rw[h];exact ho,hB⟩
theorem oY(W:World)(xs:List Int)(B:Nat)(h:B<=W.heap.size)(hm:xs.length<=maxLen):(W.alloc (.cells (ap xs).toArray 3)).ownsRow B 3 1 (.slice (some ⟨W.heap.size,0,none⟩) xs.length xs.length) xs.length (ap xs):=by
 have:=World.ownsRow_lit (base:=B) (e:=3) (size:=1) W (ap xs).toArray xs.length h hm (by simp [ap])
 simpa using this
set_option maxRecDepth 100000 in
set_option maxHeartbeats 3200000 in
theorem lQ{v:Value}{b:List OpV}(W:World)(hv:Ops W.heap.size W v b)(hl:b.length<=17592186044416) :
 Calls Tryz.prog 137 #[v] W fun e W'=>LeadsP b e W W':=by
 have hz:=fun(w:World)=>lP w
 by_cases h0:b.length=0
 ·obtain rfl:b=[]:=List.length_eq_zero_iff.1 h0
  obtain⟨va,vc,rfl⟩:=hv.form
  clear hv h0 hl
  go_enter Tryz.func137,Tryz.ntmps137
  go_wp2_with fail
  go_ret2
  exact fJ (l:=[]) (s:=false) rfl (fun _=>rfl) (World.ownsRow_nil _ _ _ _) (Below.refl _ _)
 ·obtain⟨p,hp⟩:∃p,b.length=p+1:=⟨b.length-1,by omega⟩
  obtain⟨blk,off,cap,x,rfl,hb,hlast,hc⟩:=hv.last hp
  have HL:=zH (iz hlast)
  have HC:=zH hc
  have h1:=iV W x 0 rfl
  have h2:=iV W x 3 rfl
  have h3:=iV W x 4 rfl
  have hpb:p<=17592186044416:=by omega
  clear hv hc hlast hl h0 hp
  have hsz:(W.alloc (.cells (aF x).toArray 56)).heap.size=W.heap.size+1:=by simp
  by_cases k13:x.k=13
  ·have t1:(x.k == 13)=true:=beq_iff_eq.2 k13
   have HE:=zH (show bu b=if true then some [] else none by rw[HL.out,if_pos k13];rfl)
   clear k13 hsz
   go_enter Tryz.func137,Tryz.ntmps137
   go_wp2_with (first
    | (refine bD rfl (.tmp 12) rfl blk (off+p*9) rfl x (fun c u hu=>HC.out c u hu) ?_)
    | (refine wpList_store_row rfl 56 (.tmp 4) (.tmp 13) rfl _ (aF x).toArray rfl rfl 56 zop (heap_alloc_new _ _) (by kernel_rfl) rfl (fj x) ?_
       rw[bF]))
   go_ret2
   exact fJ (l:=[]) (s:=true) HE.out (fun h=>by cases h) (World.ownsRow_nil _ _ _ _) ((Below.refl _ _).alloc (Nat.le_refl _) _)
  ·have t1:(x.k == 13)=false:=beq_eq_false_iff_ne.2 k13
   by_cases k11:x.k=11
   ·have t2:(x.k == 11)=true:=beq_iff_eq.2 k11
    have HE:=zH (show bu b=if true then some [x.r] else none by rw[HL.out,if_neg k13,if_pos k11];rfl)
    have HO:=zH (oY (W.alloc (.cells (aF x).toArray 56)) [x.r] W.heap.size (by simp) (by unfold maxLen;simp))
    rw[hsz] at HO
    clear k13 k11 hsz
    go_enter Tryz.func137,Tryz.ntmps137
    go_wp2_with (first
     | (refine bD rfl (.tmp 12) rfl blk (off+p*9) rfl x (fun c u hu=>HC.out c u hu) ?_)
     | (refine wpList_store_row rfl 56 (.tmp 4) (.tmp 13) rfl _ (aF x).toArray rfl rfl 56 zop (heap_alloc_new _ _) (by kernel_rfl) rfl (fj x) ?_
        rw[bF]))
    go_ret2
    exact fJ (l:=[x.r]) (s:=true) HE.out (fun h=>by cases h) HO.out (((Below.refl _ _).alloc (Nat.le_refl _) _).alloc (by simp) _)
   ·have t2:(x.k == 11)=false:=beq_eq_false_iff_ne.2 k11
    by_cases k12:x.k=12
    ·have t3:(x.k == 12)=true:=beq_iff_eq.2 k12
     by_cases hra:x.r=x.a
     ·have t4:(x.r == x.a)=true:=beq_iff_eq.2 hra
      have HE:=zH (show bu b=if true then some [x.r] else none by rw[HL.out,if_neg k13,if_neg k11,if_pos k12,if_pos hra];rfl)
      have HO:=zH (oY (W.alloc (.cells (aF x).toArray 56)) [x.r] W.heap.size (by simp) (by unfold maxLen;simp))
      rw[hsz] at HO
      clear k13 k11 k12 hsz hra
      go_enter Tryz.func137,Tryz.ntmps137
      go_wp2_with (first
       | (refine bD rfl (.tmp 12) rfl blk (off+p*9) rfl x (fun c u hu=>HC.out c u hu) ?_)
       | (refine wpList_store_row rfl 56 (.tmp 4) (.tmp 13) rfl _ (aF x).toArray rfl rfl 56 zop (heap_alloc_new _ _) (by kernel_rfl) rfl (fj x) ?_
          rw[bF]))
      go_ret2
      exact fJ (l:=[x.r]) (s:=true) HE.out (fun h=>by cases h) HO.out (((Below.refl _ _).alloc (Nat.le_refl _) _).alloc (by simp) _)
     ·have t4:(x.r == x.a)=false:=beq_eq_false_iff_ne.2 hra
      have HE:=zH (show bu b=if true then some [x.r,x.a] else none by rw[HL.out,if_neg k13,if_neg k11,if_pos k12,if_neg hra];rfl)
      have HO:=zH (oY (W.alloc (.cells (aF x).toArray 56)) [x.r,x.a] W.heap.size (by simp) (by unfold maxLen;simp))
      rw[hsz] at HO
      clear k13 k11 k12 hsz hra
      go_enter Tryz.func137,Tryz.ntmps137
      go_wp2_with (first
       | (refine bD rfl (.tmp 12) rfl blk (off+p*9) rfl x (fun c u hu=>HC.out c u hu) ?_)
       | (refine wpList_store_row rfl 56 (.tmp 4) (.tmp 13) rfl _ (aF x).toArray rfl rfl 56 zop (heap_alloc_new _ _) (by kernel_rfl) rfl (fj x) ?_
          rw[bF]))
      go_ret2
      exact fJ (l:=[x.r,x.a]) (s:=true) HE.out (fun h=>by cases h) HO.out (((Below.refl _ _).alloc (Nat.le_refl _) _).alloc (by simp) _)
    ·have t3:(x.k == 12)=false:=beq_eq_false_iff_ne.2 k12
     have HE:=zH (show bu b=if false then some [] else none by rw[HL.out,if_neg k13,if_neg k11,if_neg k12];rfl)
     clear k13 k11 k12 hsz
     go_enter Tryz.func137,Tryz.ntmps137
     go_wp2_with (first
      | (refine bD rfl (.tmp 12) rfl blk (off+p*9) rfl x (fun c u hu=>HC.out c u hu) ?_)
      | (refine wpList_store_row rfl 56 (.tmp 4) (.tmp 13) rfl _ (aF x).toArray rfl rfl 56 zop (heap_alloc_new _ _) (by kernel_rfl) rfl (fj x) ?_
         rw[bF]))
     go_ret2
     exact fJ (l:=[]) (s:=false) HE.out (fun _=>rfl) (World.ownsRow_nil _ _ _ _) ((Below.refl _ _).alloc (Nat.le_refl _) _)
def OfP(bs:List (List OpV))(e:Ending)(W W':World):Prop:=∃v,e=.returned (.tuple #[v,.bool (ofB bs)])/\aq W'.heap.size W' v (ofL bs)/\Below W.heap.size W W'
theorem oZ{bs:List (List OpV)}(h:okI bs=false):ofB bs=false/\ofL bs=[]:=by
 have h1:ofB bs=false:=by unfold ofB;rw[h];rfl
 exact⟨h1,by unfold ofL;rw[if_neg (by rw[h1];simp)]⟩
theorem pd{bs:List (List OpV)}(h:okI bs=true):ofB bs=GG.al (cN bs bs.length):=by unfold ofB;rw[h];rfl
theorem eD(n:Nat)(W:World):aq n W (.slice none 0 0) []:=⟨[],br _ _ _ _ (fun _=>rfl),rfl,fun j hj=>absurd hj (Nat.not_lt_zero _)⟩
theorem own_em0(v:Value):v.ownBlock=none∨v.ownBlock≠none:=Classical.em _
theorem qm{B:Nat}{W w1 w2:World}{out v2:Value}{vs:List Value}{to:List (List Int)}{row:List Int}{n:Nat}{a:Option Addr}{cap:Nat}{o:Obj}(hB1:Below B W w1)(hs1:B<=w1.heap.size)(hR:GG.Rows B w1 vs to)(hO:w1.ownsRow B 54 1 out n vs)(hr:w1.ownsRow B 3 1 (.slice a row.length cap) row.length (ap row))
 (ho:w2.ownsRow B 54 1 v2 (n+1) (vs ++ [.slice a row.length cap])) (hg:(w1.alloc o).grownBy w2 out.ownBlock) :
 w2.ownsRow B 54 1 v2 (n+1) (vs ++ [.slice a row.length cap])/\GG.Rows B w2 (vs ++ [.slice a row.length cap]) (to ++ [row])/\Below B W w2 :=
 ⟨ho,((hR.snoc hr).alloc o).kept (hO.alloc o) (by decide) hg,(hB1.alloc hs1 o).grown hg (by simp;omega) (fun k e=>(hO.lt k e).1)⟩
set_option maxRecDepth 100000 in
set_option maxHeartbeats 3200000 in
theorem of_any{v:Value}{bs:List (List OpV)}(x y:Int)(W:World)(hv:cl W.heap.size W v bs)(hl:bs.length<=4294967296)(hll:∀b∈bs,b.length<=17592186044416) :
 Calls Tryz.prog 87 #[.agg #[.int .i64 x,.int .i64 y,v]] W fun e W'=>OfP bs e W W':=by
 obtain⟨va,vc,rfl⟩:=hv.form
 obtain⟨j0,hj0,hy0,hy1,hy2⟩:=info_parts Tryz.infoGRow
 obtain⟨W0,eW0⟩:∃W0,W0=W.alloc (.cells #[.int .i64 x,.int .i64 y,.slice va bs.length vc] 52):=⟨_,rfl⟩
 have HB0:=zH (show Below W.heap.size W W0 by rw[eW0];exact(Below.refl _ _).alloc (Nat.le_refl _) _)
 have HV0:=zH (hv.on HB0.out HB0.out.size)
 have HLL:=zH (fun i (hi:i<bs.length)=>hll _ (GG.bn (d:=[]) hi))
 have EW0:=zH eW0
 clear hv hll eW0
 go_enter Tryz.func87,Tryz.ntmps87
 go_wp2_with fail
 rw[<-EW0.out]
 go_loopw [4,12] (fun o k wr=>∃(i:Nat) (vs:List Value),i<=bs.length/\k=.int .i64 (i:Int)/\wr.ownsRow W0.heap.size 54 1 o i vs/\GG.Rows W0.heap.size wr vs (cN bs i)/\Below W0.heap.size W0 wr/\RowKit.Hid (∀j,j<i->(bu (bs[j]?.getD [])).isSome=true)) (fun _ k _=>bs.length-(intOf k).toNat)
 case atStart=>exact⟨0,[],Nat.zero_le _,rfl,World.ownsRow_nil _ _ _ _,GG.Rows.nil _ _,Below.refl _ _,zH (fun j hj=>absurd hj (Nat.not_lt_zero _))⟩
 case round =>
  obtain⟨i,vs,hi,rfl,hO,hR,hB,HOK⟩:=hrel
  have HO:=zH hO
  have HR:=zH hR
  have HB:=zH hB
  clear hO hR hB
  by_cases hlt:i<bs.length
  ·obtain⟨vb,vo,ba,bc,e1,hvb,hx1,hops⟩:=(HV0.out.below HB.out).at hlt
   subst e1
   have i1:(0:Int)<=i/\(i:Int)<bs.length:=by omega
   have b1:=HLL.out i hlt
   have HWS:=zH (lO hlt)
   have HNO:=zH (fun h=>okI_no hlt h)
   obtain⟨r,er⟩:∃r,r=bs[i]?.getD []:=⟨_,rfl⟩
   rw[<-er] at hx1 hops b1 HWS HNO
   have HER:=zH er
   have HOPS:=zH hops
   clear er hops
   cases hs:(bu r).isSome
   ·have HS:=zH hs
    have HN:=zH (oZ (HNO.out (by simpa using hs)))
    clear hs
    go_wp2_with (go_at_call 137
                 refine(lQ _ (HOPS.out.mono HB.out.size) b1).mono ?_
                 rintro e w1 ⟨a,cap,rfl,ho,hb⟩
                 rw[HS.out]
                 have HB1:=zH (HB.out.trans (hb.mono HB.out.size))
                 clear ho hb)
    go_ret2
    exact⟨_,by rw[HN.out.1];rfl,by rw[HN.out.2];exact eD _ _,HB0.out.trans (HB1.out.mono HB0.out.size)⟩
   ·have HS:=zH hs
    have HN:=zH (show ∀j,j<i+1->(bu (bs[j]?.getD [])).isSome=true from fun j hj=>(Nat.lt_succ_iff_lt_or_eq.1 hj).elim (HOK.out j) (fun e=>by rw[e,<-HER.out];exact hs))
    clear hs
    go_wp2_with (first
     | (go_at_call 137
        refine(lQ _ (HOPS.out.mono HB.out.size) b1).mono ?_
        rintro e w1 ⟨a,cap,rfl,ho,hb⟩
        rw[HS.out]
        have HB1:=zH (HB.out.trans (hb.mono HB.out.size))
        have HR1:=zH (GG.Rows.grown HR.out (b:=none) ⟨hb.os,hb.tape,hb.output,hb.size,fun k hk _=>hb.block k hk⟩ (fun k e=>by cases e))
        have HO1:=zH (HO.out.kept (row:=none) ⟨hb.os,hb.tape,hb.output,hb.size,fun k hk _=>hb.block k hk⟩ (own_em0 _))
        have HW1:=zH (dQ HB.out.size ho)
        have HSZ:=zH (Nat.le_trans HB.out.size hb.size)
        clear ho hb)
     | (at_builtin
        go_loud (refine GG.wpList_append_any rfl _ _ 32 rfl W0.heap.size 54 j0 (.slice none 0 0) 1 24 Tryz.underlying32 hj0 hy0 hy1 hy2 rfl (by decide) u4 i vs rfl (HO1.out.alloc _) (.slice (some ⟨w1.heap.size,0,none⟩) 1 1) 1 [.slice a ((bu r).getD []).length cap] rfl rfl (.inr ⟨_,_,rfl,GG.aW _ _ _⟩) (by intro u hu;rw[List.mem_singleton.1 hu];rfl) (by unfold maxLen;omega) (by omega) (by have:=HSZ.out;simp;omega) ?_)
        intro v2 w2 ho hg
        have HHO:=zH ho
        have HHG:=zH hg
        clear ho hg))
    have HD:=zH (qm HB1.out HSZ.out HR1.out HO1.out HW1.out HHO.out HHG.out)
    go_roundw
    case rel=>exact⟨i+1,_,by omega,by go_num,HD.out.1,by rw[<-HWS.out];exact HD.out.2.1,HD.out.2.2,HN⟩
    case measure=>simp [intOf];omega
  ·have hie:i=bs.length:=by omega
   have HOKB:=zH (pd (oX fun j hj=>HOK.out j (by omega)))
   have HG:=zH (show aq wr.heap.size wr u4 (cN bs bs.length) by
    have h1:=HR.out
    have h2:=HO.out
    rw[hie] at h1 h2
    have h3:(cN bs bs.length).length=bs.length:=kB (Nat.le_refl _)
    exact h1.graph (by rw[h3];exact h2))
   have HSM:=zH (ld (Nat.le_refl bs.length) (by omega))
   clear HO HR
   cases hr:GG.al (cN bs bs.length)
   ·have HRI:=zH hr
    have HF:=zH (show ofB bs=false/\ofL bs=[] from⟨by rw[HOKB.out,hr],by unfold ofL;rw[if_neg (by rw[HOKB.out,hr];simp)]⟩)
    clear hr hie
    go_wp2_with (go_at_call 35;refine(aT _ (cN bs bs.length) _ HG.out HSM.out).mono ?_;rintro e w' ⟨rfl,hb⟩;have HB1:=zH (HB.out.trans (hb.mono HB.out.size));clear hb;rw[HRI.out])
    go_ret2
    exact⟨_,by rw[HF.out.1];rfl,by rw[HF.out.2];exact eD _ _,HB0.out.trans (HB1.out.mono HB0.out.size)⟩
   ·have HRI:=zH hr
    have HF:=zH (show ofB bs=true/\ofL bs=cN bs bs.length from⟨by rw[HOKB.out,hr],by unfold ofL;rw[if_pos (by rw[HOKB.out,hr])]⟩)
    clear hr hie
    go_wp2_with (go_at_call 35;refine(aT _ (cN bs bs.length) _ HG.out HSM.out).mono ?_;rintro e w' ⟨rfl,hb⟩;have HB1:=zH (HB.out.trans (hb.mono HB.out.size));have HG1:=zH (HG.out.on hb hb.size);clear hb;rw[HRI.out])
    go_ret2
    exact⟨_,by rw[HF.out.1];rfl,by rw[HF.out.2];exact HG1.out,HB0.out.trans (HB1.out.mono HB0.out.size)⟩
end
section
namespace CD
noncomputable def tf (P:Prop):Bool:=@decide P (Classical.propDecidable P)
theorem bz{P:Prop}(h:P):tf P=true:=by unfold tf;exact @decide_eq_true P (Classical.propDecidable P) h
theorem aD{P:Prop}(h:¬P):tf P=false:=by unfold tf;exact @decide_eq_false P (Classical.propDecidable P) h
theorem dU{P:Prop}(h:tf P=true):P:=by unfold tf at h;exact @of_decide_eq_true P (Classical.propDecidable P) h
theorem cZ{P:Prop}(h:tf P=false):¬P:=fun p=>by rw[bz p] at h;cases h
theorem nu{P:Prop}{b:Bool}(h:P↔b=true):tf P=b:=by
 cases b
 ·exact aD (fun p=>by have:=h.1 p;cases this)
 ·exact bz (h.2 rfl)
theorem tf_congr{P Q:Prop}(h:P↔Q):tf P=tf Q:=by
 by_cases q:Q
 ·rw[bz q,bz (h.2 q)]
 ·rw[aD q,aD (fun p=>q (h.1 p))]
structure OpP where
 (k o d r a:Int) (xs ys:List Int) (n t:Int)
structure BodyP where
 (pa va:Int) (bs:List (List OpP))
structure CodeP where
 (ar:List (Int × Int)) (fs:List BodyP) (mn0:Int)
def o0:OpP:=⟨0,0,0,0,0,[],[],0,0⟩
def b0:BodyP:=⟨0,0,[]⟩
def aj(l:List OpP)(i:Nat):OpP:=l[i]?.getD o0
def blAt(b:BodyP)(i:Nat):List OpP:=b.bs[i]?.getD []
def fnAt(c:CodeP)(i:Nat):BodyP:=c.fs[i]?.getD b0
structure Cnt where
 (ar fn i o l:Nat)
def Defs(k:Int):Prop:=k=1∨k=2∨k=3∨k=4∨k=5∨k=7∨k=8∨k=10
instance (k:Int):Decidable (Defs k):=by unfold Defs;infer_instance
def Ends(k:Int):Prop:=k=11∨k=12∨k=13
instance (k:Int):Decidable (Ends k):=by unfold Ends;infer_instance
def refN(c:Cnt)(nb:Nat)(k:Int):Nat :=
 if k=4∨k=5∨k=6 then c.ar else if k=7 then c.fn else if k=8 then c.i else if k=9 then c.o else if k=10 then c.l else if k=11∨k=12 then nb else 1
def altN(nb:Nat)(k:Int):Nat:=if k=12 then nb else 1
def argN(k:Int):Nat:=if k=2∨k=6 then 2 else if k=4∨k=5∨k=9∨k=10∨k=12∨k=13 then 1 else 0
def InOk(l:List Int)(n:Int):Prop:=∀i,i<l.length->0<=l[i]?.getD 0/\l[i]?.getD 0<n
def gY(x:OpP):Prop:=if x.k=2 then (1<=x.o/\x.o<=12)/\x.n=0 else x.o=0/\(x.k=1∨x.n=0)
def paAt(c:CodeP)(r:Int):Int:=(fnAt c r.toNat).pa
def bH(c:CodeP)(x:OpP):Prop :=
 if x.k=3 then (1<=x.ys.length/\x.ys.length<=64)/\x.xs.length=x.ys.length else if x.k=7 then x.ys.length=0/\(x.xs.length:Int)=paAt c x.r else x.ys.length=0/\x.xs.length=argN x.k
def OpOk(q:Cnt)(c:CodeP)(b:BodyP)(x:OpP)(nx:Int):Prop :=
 (1<=x.k/\x.k<=13)/\gY x/\(if Defs x.k then x.d=nx else x.d = -1)/\(0<=x.r/\x.r<(refN q b.bs.length x.k:Nat))/\(0<=x.a/\x.a<(altN b.bs.length x.k:Nat))/\bH c x/\InOk x.xs b.va/\InOk x.ys b.bs.length
def cnt(l:List OpP)(i:Nat):Nat:=((l.take i).filter fun x=>decide (Defs x.k)).length
def bG(l:List OpP)(i:Nat):Prop:=(Ends (aj l i).k↔i+1=l.length)/\((aj l i).k=3->i=0∨(aj l (i-1)).k=3)
def dm(q:Cnt)(c:CodeP)(b:BodyP)(l:List OpP)(nx:Int):Prop:=1<=l.length/\∀i,i<l.length->OpOk q c b (aj l i) (nx+cnt l i)/\bG l i
def cntB(b:BodyP)(k:Nat):Nat:=((b.bs.take k).map fun l=>cnt l l.length).sum
def aK(q:Cnt)(c:CodeP)(b:BodyP):Prop :=
 ((0<=b.pa/\b.pa<=6)/\(1<=b.bs.length/\b.bs.length<=64))/\(∀k,k<b.bs.length->dm q c b (blAt b k) (b.pa+cntB b k))/\b.pa+cntB b b.bs.length=b.va
def jO(q:Cnt)(l:List (Int × Int)):Prop:=∀i,i<l.length->(1<=(l[i]?.getD (0,0)).1/\(l[i]?.getD (0,0)).1<=256)/\(0<=(l[i]?.getD (0,0)).2/\(l[i]?.getD (0,0)).2<(q.l:Nat))
def pe(c:CodeP):Prop:=(0<=c.mn0/\c.mn0<(c.fs.length:Nat))/\paAt c c.mn0=0
def fk(pol:Bool)(q:Cnt)(c:CodeP):Prop:=(pol=true/\c.ar.length<=16/\c.fs.length<=64)/\jO q c.ar/\pe c/\∀i,i<c.fs.length->aK q c (fnAt c i)
structure Few (c:CodeP):Prop where
 f:c.fs.length<=100
 a:c.ar.length<=100
 b:∀i,i<c.fs.length->(fnAt c i).bs.length<=100
 l:∀i,i<c.fs.length->∀k,k<(fnAt c i).bs.length->(blAt (fnAt c i) k).length<=300
 t:(c.fs.map fun b=>(b.bs.map List.length).sum).sum<=300
theorem gJ(l:List OpP):cnt l 0=0:=by simp [cnt]
theorem gK{l:List OpP}{i:Nat}(h:i<l.length):cnt l (i+1)=cnt l i+(if Defs (aj l i).k then 1 else 0):=by
 unfold cnt aj
 rw[List.take_add_one,List.getElem?_eq_getElem h,List.filter_append,List.length_append]
 simp only[Option.toList_some,Option.getD_some]
 by_cases hd:Defs l[i].k
 ·simp [hd]
 ·simp [hd]
theorem cnt_le(l:List OpP)(i:Nat):cnt l i<=i:=by
 unfold cnt
 exact Nat.le_trans (List.length_filter_le _ _) (by rw[List.length_take];omega)
theorem cnt_len(l:List OpP)(i:Nat):cnt l i<=l.length:=by
 unfold cnt
 exact Nat.le_trans (List.length_filter_le _ _) (by rw[List.length_take];omega)
theorem kC(b:BodyP):cntB b 0=0:=by simp [cntB]
theorem fK{b:BodyP}{k:Nat}(h:k<b.bs.length):cntB b (k+1)=cntB b k+cnt (blAt b k) (blAt b k).length:=by
 unfold cntB blAt
 rw[List.take_add_one,List.getElem?_eq_getElem h,List.map_append,List.sum_append]
 simp
def lenB(b:BodyP)(k:Nat):Nat:=((b.bs.take k).map List.length).sum
theorem fL{b:BodyP}{k:Nat}(h:k<b.bs.length):lenB b (k+1)=lenB b k+(blAt b k).length:=by
 unfold lenB blAt
 rw[List.take_add_one,List.getElem?_eq_getElem h,List.map_append,List.sum_append]
 simp
theorem pf(b:BodyP)(k:Nat)(hk:k<=b.bs.length):cntB b k<=lenB b k:=by
 induction k with
 | zero=>simp [cntB]
 | succ k ih =>
   rw[fK (by omega),fL (by omega)]
   have:=ih (by omega)
   have:=cnt_le (blAt b k) (blAt b k).length
   omega
def lenC(c:CodeP)(i:Nat):Nat:=((c.fs.take i).map fun b=>lenB b b.bs.length).sum
theorem fM{c:CodeP}{i:Nat}(h:i<c.fs.length):lenC c (i+1)=lenC c i+lenB (fnAt c i) (fnAt c i).bs.length:=by
 unfold lenC fnAt
 rw[List.take_add_one,List.getElem?_eq_getElem h,List.map_append,List.sum_append]
 simp
theorem iW(c:CodeP):lenC c 0=0:=by simp [lenC]
theorem jP:∀(l:List Nat) (i j:Nat),i<=j->(l.take i).sum<=(l.take j).sum
 | [],i,j,_=>by simp
 | x :: l,0,j,_=>by simp
 | x :: l,i+1,0,h=>by omega
 | x :: l,i+1,j+1,h=>by
   simp only[List.take_succ_cons,List.sum_cons]
   have:=jP l i j (by omega)
   omega
theorem lenB_mono(b:BodyP){i j:Nat}(h:i<=j):lenB b i<=lenB b j:=by
 unfold lenB
 rw[List.map_take,List.map_take]
 exact jP _ _ _ h
theorem gL(c:CodeP){i j:Nat}(h:i<=j):lenC c i<=lenC c j:=by
 unfold lenC
 rw[List.map_take,List.map_take]
 exact jP _ _ _ h
theorem Few.all{c:CodeP}(h:Few c):lenC c c.fs.length<=300:=by
 have e:lenC c c.fs.length=(c.fs.map fun b=>(b.bs.map List.length).sum).sum:=by
  unfold lenC lenB
  rw[List.take_length]
  congr 1
  apply List.map_congr_left
  intro b _
  rw[List.take_length]
 rw[e]
 exact h.t
end CD
end
section
open Go.RowKit
open CD (OpP BodyP CodeP aj blAt fnAt)
def OpOf(n₀:Nat)(W:World)(x:OpV)(p:OpP):Prop :=
 (x.k=p.k/\x.o=p.o/\x.d=p.d/\x.r=p.r/\x.a=p.a/\x.n=p.n/\x.t=p.t)/\Row n₀ W (.slice x.xa x.xl x.xc) p.xs/\Row n₀ W (.slice x.ya x.yl x.yc) p.ys
def opC(p:OpP)(xa:Option Addr)(xc:Nat)(ya:Option Addr)(yc:Nat):OpV:=⟨p.k,p.o,p.d,p.r,p.a,xa,p.xs.length,xc,ya,p.ys.length,yc,p.n,p.t⟩
theorem OpOf.form{n₀:Nat}{W:World}{x:OpV}{p:OpP}(h:OpOf n₀ W x p):∃xa xc ya yc,x=opC p xa xc ya yc/\Row n₀ W (.slice xa p.xs.length xc) p.xs/\Row n₀ W (.slice ya p.ys.length yc) p.ys:=by
 obtain⟨⟨h1,h2,h3,h4,h5,h6,h7⟩,h8,h9⟩:=h
 obtain⟨a,c,e⟩:=h8.form
 obtain⟨a',c',e'⟩:=h9.form
 cases x
 cases e
 cases e'
 simp only at h1 h2 h3 h4 h5 h6 h7
 subst h1 h2 h3 h4 h5 h6 h7
 exact⟨_,_,_,_,rfl,h8,h9⟩
theorem OpOf.below{n₀:Nat}{A B:World}(hb:Below n₀ A B){x:OpV}{p:OpP}(h:OpOf n₀ A x p):OpOf n₀ B x p:=⟨h.1,h.2.1.below hb,h.2.2.below hb⟩
theorem OpOf.mono{n n':Nat}(hn:n<=n'){A:World}{x:OpV}{p:OpP}(h:OpOf n A x p):OpOf n' A x p:=⟨h.1,h.2.1.mono hn,h.2.2.mono hn⟩
def dV(n₀:Nat)(W:World)(vs:List OpV)(l:List OpP):Prop:=vs.length=l.length/\∀i x,vs[i]?=some x->OpOf n₀ W x (aj l i)
theorem dV.below{n₀:Nat}{A B:World}(hb:Below n₀ A B){vs:List OpV}{l:List OpP}(h:dV n₀ A vs l):dV n₀ B vs l:=⟨h.1,fun i x e=>(h.2 i x e).below hb⟩
theorem dV.mono{n n':Nat}(hn:n<=n'){A:World}{vs:List OpV}{l:List OpP}(h:dV n A vs l):dV n' A vs l:=⟨h.1,fun i x e=>(h.2 i x e).mono hn⟩
def OpsF(n₀:Nat)(W:World)(v:Value)(l:List OpP):Prop:=∃vs,Ops n₀ W v vs/\dV n₀ W vs l
theorem OpsF.below{n₀:Nat}{A B:World}(hb:Below n₀ A B){v:Value}{l:List OpP}:OpsF n₀ A v l->OpsF n₀ B v l
 | ⟨vs,h1,h2⟩=>⟨vs,h1.below hb,h2.below hb⟩
theorem OpsF.form{n₀:Nat}{A:World}{v:Value}{l:List OpP}(h:OpsF n₀ A v l):∃a cap,v=.slice a l.length cap:=by
 obtain⟨vs,h1,h2⟩:=h
 obtain⟨a,c,rfl⟩:=h1.form
 exact⟨a,c,by rw[h2.1]⟩
theorem OpsF.at{n₀:Nat}{W:World}{a:Option Addr}{n cap:Nat}{l:List OpP}(h:OpsF n₀ W (.slice a n cap) l){i:Nat}(hi:i<l.length) :
 ∃blk off xa xc ya yc,a=some ⟨blk,off,none⟩/\blk<n₀/\(∀c u,(aF (opC (aj l i) xa xc ya yc))[c]?=some u->W.cell? ⟨blk,off+i*9+c,none⟩=some u)/\Row n₀ W (.slice xa (aj l i).xs.length xc) (aj l i).xs/\Row n₀ W (.slice ya (aj l i).ys.length yc) (aj l i).ys:=by
 obtain⟨vs,h1,h2⟩:=h
 rcases h1 with⟨_,rfl⟩ | ⟨blk,off,cap',e,hb,hc⟩
 ·have:=h2.1;simp at this;omega
 ·cases e
  have hvl:i<vs.length:=by rw[h2.1];exact hi
  have hx:vs[i]?=some vs[i]:=List.getElem?_eq_getElem hvl
  obtain⟨xa,xc,ya,yc,e,r1,r2⟩:=(h2.2 i _ hx).form
  exact⟨blk,off,xa,xc,ya,yc,rfl,hb,fun c u hu=>hc i _ hx c u (by rw[e];exact hu),r1,r2⟩
def aU(n₀:Nat)(W:World)(v:Value)(bs:List (List OpP)):Prop:=∃ls,cl n₀ W v ls/\ls.length=bs.length/\∀j,j<bs.length->dV n₀ W (ls[j]?.getD []) (bs[j]?.getD [])
theorem aU.below{n₀:Nat}{A B:World}(hb:Below n₀ A B){v:Value}{bs:List (List OpP)}:aU n₀ A v bs->aU n₀ B v bs
 | ⟨ls,h1,h2,h3⟩=>⟨ls,h1.below hb,h2,fun j hj=>(h3 j hj).below hb⟩
theorem aU.mono{n n':Nat}(hn:n<=n'){A:World}{v:Value}{bs:List (List OpP)}:aU n A v bs->aU n' A v bs
 | ⟨ls,h1,h2,h3⟩=>⟨ls,h1.mono hn,h2,fun j hj=>(h3 j hj).mono hn⟩
theorem aU.form{n₀:Nat}{A:World}{v:Value}{bs:List (List OpP)}(h:aU n₀ A v bs):∃a cap,v=.slice a bs.length cap:=by
 obtain⟨ls,h1,h2,_⟩:=h
 obtain⟨a,c,rfl⟩:=h1.form
 exact⟨a,c,by rw[h2]⟩
theorem aU.at{n₀:Nat}{W:World}{a:Option Addr}{n cap:Nat}{bs:List (List OpP)}(h:aU n₀ W (.slice a n cap) bs){j:Nat}(hj:j<bs.length) :
 ∃b off a' cap',a=some ⟨b,off,none⟩/\b<n₀/\W.cell? ⟨b,off+j,none⟩=some (.slice a' (bs[j]?.getD []).length cap')/\OpsF n₀ W (.slice a' (bs[j]?.getD []).length cap') (bs[j]?.getD []):=by
 obtain⟨ls,h1,h2,h3⟩:=h
 obtain⟨b,off,a',cap',e,hb,hc,ho⟩:=h1.at (j:=j) (by omega)
 have hr:=h3 j hj
 rw[hr.1] at hc ho
 exact⟨b,off,a',cap',e,hb,hc,_,ho,hr⟩
def bodyC(b:BodyP)(ba:Option Addr)(bc:Nat):List Value:=[.int .i64 b.pa,.int .i64 b.va,.slice ba b.bs.length bc]
def bh(n₀:Nat)(W:World)(v:Value)(fs:List BodyP):Prop :=
 ((∃a cap,v=.slice a 0 cap)/\fs=[])∨∃blk off cap,v=.slice (some ⟨blk,off,none⟩) fs.length cap/\blk<n₀/\∀i,i<fs.length->∃ba bc,(∀c u,(bodyC (fs[i]?.getD CD.b0) ba bc)[c]?=some u->W.cell? ⟨blk,off+i*3+c,none⟩=some u)/\aU n₀ W (.slice ba (fs[i]?.getD CD.b0).bs.length bc) (fs[i]?.getD CD.b0).bs
theorem bh.below{n₀:Nat}{A B:World}(h:Below n₀ A B){v:Value}{fs:List BodyP}:bh n₀ A v fs->bh n₀ B v fs
 | .inl e=>.inl e
 | .inr ⟨blk,off,cap,e,hb,hc⟩=>.inr ⟨blk,off,cap,e,hb,fun i hi=>by
   obtain⟨ba,bc,h1,h2⟩:=hc i hi
   exact⟨ba,bc,fun c u hu=>(h.cell (p:=⟨blk,off+i*3+c,none⟩) hb).trans (h1 c u hu),h2.below h⟩⟩
theorem bh.mono{n n':Nat}(h:n<=n'){A:World}{v:Value}{fs:List BodyP}:bh n A v fs->bh n' A v fs
 | .inl e=>.inl e
 | .inr ⟨blk,off,cap,e,hb,hc⟩=>.inr ⟨blk,off,cap,e,by omega,fun i hi=>by
   obtain⟨ba,bc,h1,h2⟩:=hc i hi
   exact⟨ba,bc,h1,h2.mono h⟩⟩
theorem bh.form{n₀:Nat}{A:World}{v:Value}{fs:List BodyP}(h:bh n₀ A v fs):∃a cap,v=.slice a fs.length cap:=by
 rcases h with⟨⟨_,_,rfl⟩,rfl⟩ | ⟨blk,off,cap,rfl,_⟩
 ·exact⟨_,_,rfl⟩
 ·exact⟨_,_,rfl⟩
theorem bh.at{n₀:Nat}{W:World}{a:Option Addr}{n cap:Nat}{fs:List BodyP}(h:bh n₀ W (.slice a n cap) fs){i:Nat}(hi:i<fs.length) :
 ∃blk off ba bc,a=some ⟨blk,off,none⟩/\blk<n₀/\W.cell? ⟨blk,off+i*3,none⟩=some (.int .i64 (fs[i]?.getD CD.b0).pa)/\W.cell? ⟨blk,off+i*3+1,none⟩=some (.int .i64 (fs[i]?.getD CD.b0).va)/\W.cell? ⟨blk,off+i*3+2,none⟩=some (.slice ba (fs[i]?.getD CD.b0).bs.length bc)/\aU n₀ W (.slice ba (fs[i]?.getD CD.b0).bs.length bc) (fs[i]?.getD CD.b0).bs:=by
 rcases h with⟨_,rfl⟩ | ⟨blk,off,cap',e,hb,hc⟩
 ·simp at hi
 ·cases e
  obtain⟨ba,bc,h1,h2⟩:=hc i hi
  exact⟨blk,off,ba,bc,rfl,hb,h1 0 _ rfl,h1 1 _ rfl,h1 2 _ rfl,h2⟩
def bA(n₀:Nat)(W:World)(v:Value)(l:List (Int × Int)):Prop :=
 ((∃a cap,v=.slice a 0 cap/\(a=none->cap=0))/\l=[])∨∃blk off cap,v=.slice (some ⟨blk,off,none⟩) l.length cap/\blk<n₀/\∀i,i<l.length->W.cell? ⟨blk,off+i*2,none⟩=some (.int .i64 (l[i]?.getD (0,0)).1)/\W.cell? ⟨blk,off+i*2+1,none⟩=some (.int .i64 (l[i]?.getD (0,0)).2)
theorem bA.below{n₀:Nat}{A B:World}(h:Below n₀ A B){v:Value}{l:List (Int × Int)}:bA n₀ A v l->bA n₀ B v l
 | .inl e=>.inl e
 | .inr ⟨blk,off,cap,e,hb,hc⟩=>.inr ⟨blk,off,cap,e,hb,fun i hi=>⟨(h.cell (p:=⟨blk,off+i*2,none⟩) hb).trans (hc i hi).1,(h.cell (p:=⟨blk,off+i*2+1,none⟩) hb).trans (hc i hi).2⟩⟩
theorem bA.mono{n n':Nat}(h:n<=n'){A:World}{v:Value}{l:List (Int × Int)}:bA n A v l->bA n' A v l
 | .inl e=>.inl e
 | .inr ⟨blk,off,cap,e,hb,hc⟩=>.inr ⟨blk,off,cap,e,by omega,hc⟩
theorem bA.form{n₀:Nat}{A:World}{v:Value}{l:List (Int × Int)}(h:bA n₀ A v l):∃a cap,v=.slice a l.length cap:=by
 rcases h with⟨⟨_,_,rfl,_⟩,rfl⟩ | ⟨blk,off,cap,rfl,_⟩
 ·exact⟨_,_,rfl⟩
 ·exact⟨_,_,rfl⟩
theorem bA.at{n₀:Nat}{W:World}{a:Option Addr}{n cap:Nat}{l:List (Int × Int)}(h:bA n₀ W (.slice a n cap) l){i:Nat}(hi:i<l.length) :
 ∃blk off,a=some ⟨blk,off,none⟩/\blk<n₀/\W.cell? ⟨blk,off+i*2,none⟩=some (.int .i64 (l[i]?.getD (0,0)).1)/\W.cell? ⟨blk,off+i*2+1,none⟩=some (.int .i64 (l[i]?.getD (0,0)).2):=by
 rcases h with⟨_,rfl⟩ | ⟨blk,off,cap',e,hb,hc⟩
 ·simp at hi
 ·cases e
  exact⟨blk,off,rfl,hb,hc i hi⟩
def fl(p:OpP):Prop:=p.xs.length<=17592186044416/\p.ys.length<=17592186044416
def fm(c:CodeP):Prop:=∀i,i<c.fs.length->∀k,k<(fnAt c i).bs.length->∀j,j<(blAt (fnAt c i) k).length->fl (aj (blAt (fnAt c i) k) j)
end
section
open Go.RowKit
open CD (OpP BodyP CodeP aj blAt fnAt)
theorem ends_b(k:Int){b1 b2 b3:Bool}(h1:(k == (11:Int))=b1)(h2:(k == (12:Int))=b2)(h3:(k == (13:Int))=b3):decide (CD.Ends k)=(b1 || b2 || b3):=by
 subst h1 h2 h3
 unfold CD.Ends
 cases e1:(k == (11:Int)) <;> cases e2:(k == (12:Int)) <;> cases e3:(k == (13:Int)) <;> simp at e1 e2 e3 <;> simp [e1,e2,e3]
theorem nends_any(k:Int)(w:World):Calls Tryz.prog 227 #[.int .u8 k] w fun e w'=>e=.returned (.bool (decide (CD.Ends k)))/\w'=w:=by
 obtain⟨z,ez⟩:∃z,z=decide (CD.Ends k):=⟨_,rfl⟩
 rw[<-ez]
 cases h1:(k == (11:Int)) <;> cases h2:(k == (12:Int)) <;> cases h3:(k == (13:Int)) <;>
  (rw[ends_b k h1 h2 h3] at ez
   simp only[Bool.or_true,Bool.or_false,Bool.true_or,Bool.false_or] at ez
   subst ez
   go_enter Tryz.func227,Tryz.ntmps227
   go_wp2_with fail
   go_ret
   exact⟨rfl,rfl⟩)
def kD(k ahead:Int)(last:Bool):Int:=if (decide (CD.Ends k) != last)=true then 15 else if k=3/\¬ahead=3 then 18 else 0
theorem iA(k ahead:Int)(last:Bool)(w:World):Calls Tryz.prog 218 #[.int .u8 k,.int .u8 ahead,.bool last] w fun e w'=>e=.returned (.int .i64 (kD k ahead last))/\w'=w:=by
 obtain⟨z,ez⟩:∃z,z=decide (CD.Ends k):=⟨_,rfl⟩
 obtain⟨y,ey⟩:∃y,y=kD k ahead last:=⟨_,rfl⟩
 rw[<-ey]
 unfold kD at ey
 rw[<-ez] at ey
 have HZ:=zH ez
 clear ez
 cases h1:(k == (3:Int)) <;> cases h2:(ahead == (3:Int)) <;> cases z <;> cases last <;>
  (have e1:=h1
   have e2:=h2
   simp at e1 e2
   simp [e1,e2] at ey
   clear e1 e2
   subst ey
   go_enter Tryz.func218,Tryz.ntmps218
   go_wp2_with (go_at_call 227;refine(nends_any _ _).mono ?_;rintro e w1 ⟨rfl,rfl⟩;rw[<-HZ.out])
   go_ret
   exact⟨rfl,rfl⟩)
def ckC(av fv:Value)(mn0:Int)(q:CD.Cnt)(nb nv nx lf:Int):Array Value :=
 #[av,fv,.int .i64 mn0,.int .i64 1,.int .i64 q.ar,.int .i64 q.fn,.int .i64 q.i,.int .i64 q.o,.int .i64 q.l,.int .i64 nb,.int .i64 nv,.int .i64 nx,.int .i64 lf]
def Ck(B:Nat)(w:World)(cs:Array Value):Prop:=w.heap[B]?=some (.cells cs 157)
theorem Ck.at{B:Nat}{w:World}{cs:Array Value}(h:Ck B w cs)(j:Nat){u:Value}(hj:cs[j]?=some u):w.cell? ⟨B,j,none⟩=some u:=by
 rw[cell_of_row w B j cs _ _ h];exact hj
theorem Ck.free{B:Nat}{w:World}{cs:Array Value}(h:Ck B w cs)(j:Nat):w.frozen? ⟨B,j,none⟩=false:=by
 have h1:w.heap[B]?=some (.cells cs 157):=h
 simp [World.frozen?,h1]
theorem Ck.lt{B:Nat}{w:World}{cs:Array Value}(h:Ck B w cs):B<w.heap.size:=(Array.getElem?_eq_some_iff.1 h).1
theorem Ck.on{B:Nat}{w w':World}{cs:Array Value}(h:Ck B w cs)(hb:Below w.heap.size w w'):Ck B w' cs:=(hb.block _ h.lt).trans h
theorem Ck.set{B:Nat}{w:World}{cs:Array Value}(h:Ck B w cs)(j:Nat)(u:Value):Ck B (w.setCell ⟨B,j,none⟩ u) (cs.setIfInBounds j u):=by
 have h1:w.heap[B]?=some (.cells cs 157):=h
 unfold Ck
 simp [World.setCell,Array.getElem?_modify,h1,Array.setIfInBounds]
theorem aH{a b c:World}{r:Option Nat}(h:a.grownBy b r)(k:b.grownBy c r):a.grownBy c r :=
 ⟨k.os.trans h.os,k.tape.trans h.tape,k.output.trans h.output,Nat.le_trans h.size k.size,fun i hi hr=>(k.block i (Nat.lt_of_lt_of_le hi h.size) hr).trans (h.block i hi hr)⟩
theorem bp{a b:World}(r:Option Nat)(h:Below a.heap.size a b):a.grownBy b r:=⟨h.os,h.tape,h.output,h.size,fun k hk _=>h.block k hk⟩
theorem gM{a b:World}{B:Nat}(h:a.grownBy b (some B))(j:Nat)(u:Value):a.grownBy (b.setCell ⟨B,j,none⟩ u) (some B) :=
 ⟨h.os,h.tape,h.output,by simpa [World.setCell] using h.size,fun k hk hr=>(Below.heap_setCell _ _ _ _ (fun e=>hr (by rw[e]))).trans (h.block k hk hr)⟩
theorem aX{n B:Nat}{a b:World}(h:a.grownBy b (some B))(hn:n<=B)(hz:n<=a.heap.size):Below n a b:=⟨h.os,h.tape,h.output,h.size,fun k hk=>h.block k (by omega) (fun e=>by cases e;omega)⟩
theorem jQ(B j:Nat)(n T:Int)(w:World)(hj:j<8)(hc:w.cell? ⟨B,3+j,none⟩=some (.int .i64 T)) :
 Calls Tryz.prog 135 #[.pointer (some ⟨B,0,none⟩),.int .u8 (j:Int),.int .i64 n] w fun e w'=>e=.returned (.bool (decide (0<=n/\n<T)))/\w'=w:=by
 have i1:(0:Int)<=j/\(j:Int)<8:=by omega
 by_cases h1:(0:Int)<=n
 ·cases h2:decide (n<T)
  ·have h3:=of_decide_eq_false h2
   rw[decide_eq_false (show ¬(0<=n/\n<T) from fun h=>h3 h.2)]
   clear h3
   go_enter Tryz.func135,Tryz.ntmps135
   go_wp2_with fail
   go_ret
   exact⟨rfl,rfl⟩
  ·have h3:=of_decide_eq_true h2
   rw[decide_eq_true (show (0<=n/\n<T) from⟨h1,h3⟩)]
   clear h3
   go_enter Tryz.func135,Tryz.ntmps135
   go_wp2_with fail
   go_ret
   exact⟨rfl,rfl⟩
 ·rw[decide_eq_false (show ¬(0<=n/\n<T) from fun h=>h1 h.1)]
  go_enter Tryz.func135,Tryz.ntmps135
  go_wp2_with fail
  go_ret
  exact⟨rfl,rfl⟩
theorem qn{n₀:Nat}(B j:Nat)(v:Value)(l:List Int)(T:Int)(w:World)(hj:j<8)(hc:w.cell? ⟨B,3+j,none⟩=some (.int .i64 T))(hv:Row n₀ w v l)(hl:l.length<=17592186044416) :
 Calls Tryz.prog 234 #[.pointer (some ⟨B,0,none⟩),.int .u8 (j:Int),v] w fun e w'=>e=.returned (.bool (CD.tf (CD.InOk l T)))/\w'=w:=by
 obtain⟨a,c,rfl⟩:=hv.form
 have HV:=zH hv
 have HJ:=zH hj
 clear hv hj
 obtain⟨z,ez⟩:∃z,z=CD.tf (CD.InOk l T):=⟨_,rfl⟩
 rw[<-ez]
 have HZ:=zH ez
 clear ez
 go_enter Tryz.func234,Tryz.ntmps234
 go_wp2_with fail
 go_loopw [11] (fun k wr=>∃i:Nat,i<=l.length/\k=.int .i64 (i:Int)/\w=wr/\RowKit.Hid (∀x,x<i->0<=l[x]?.getD 0/\l[x]?.getD 0<T)) (fun k _=>l.length-(intOf k).toNat)
 case atStart=>exact⟨0,Nat.zero_le _,rfl,rfl,zH (fun x hx=>absurd hx (Nat.not_lt_zero _))⟩
 case round =>
  obtain⟨i,hi,rfl,rfl,HI⟩:=hrel
  by_cases hlt:i<l.length
  ·obtain⟨b,off,ea,hx⟩:=HV.out.cellAt hlt
   subst ea
   have i1:(0:Int)<=i/\(i:Int)<l.length:=by omega
   obtain⟨x,ex⟩:∃x,x=l[i]?.getD 0:=⟨_,rfl⟩
   have HX:=zH ex
   rw[<-ex] at hx
   clear ex
   cases hq:decide (0<=x/\x<T)
   ·have HQ:=zH hq
    clear hq
    have e0:z=false:=by rw[HZ.out];exact CD.aD (fun h=>of_decide_eq_false HQ.out (by rw[HX.out];exact h i hlt))
    subst e0
    go_wp2_with (go_at_call 135;refine(jQ B j _ T _ HJ.out hc).mono ?_;rintro e w1 ⟨rfl,rfl⟩;rw[HQ.out])
    go_ret
    exact⟨rfl,rfl⟩
   ·have HQ:=zH hq
    clear hq
    have HN:=zH (show ∀y,y<i+1->0<=l[y]?.getD 0/\l[y]?.getD 0<T from fun y hy=>by
     by_cases e:y=i
     ·rw[e,<-HX.out];exact of_decide_eq_true HQ.out
     ·exact HI.out y (by omega))
    go_wp2_with (go_at_call 135;refine(jQ B j _ T _ HJ.out hc).mono ?_;rintro e w1 ⟨rfl,rfl⟩;rw[HQ.out])
    go_roundw
    case rel=>exact⟨i+1,by omega,by go_num,by first | rfl | trivial,HN⟩
    case measure=>simp [intOf];omega
  ·have e0:z=true:=by rw[HZ.out];exact CD.bz (fun y hy=>HI.out y (by omega))
   subst e0
   go_wp2_with fail
   go_ret
   first | exact⟨rfl,rfl⟩ | simp
end
section
open Go.RowKit
open CD (OpP BodyP CodeP aj blAt fnAt)
def opA(p:OpP)(xa:Option Addr)(xc:Nat)(ya:Option Addr)(yc:Nat):Value :=
 .agg #[.int .u8 p.k,.int .u8 p.o,.int .i64 p.d,.int .i64 p.r,.int .i64 p.a,.slice xa p.xs.length xc,.slice ya p.ys.length yc,.int .i64 p.n,.int .i64 p.t]
set_option maxHeartbeats 3200000 in
theorem fO(p:OpP)(xa:Option Addr)(xc:Nat)(ya:Option Addr)(yc:Nat)(w:World) :
 Calls Tryz.prog 228 #[opA p xa xc ya yc] w fun e w'=>e=.returned (.bool (CD.tf (CD.gY p)))/\Below w.heap.size w w':=by
 unfold opA
 obtain⟨z,ez⟩:∃z,z=CD.tf (CD.gY p):=⟨_,rfl⟩
 rw[<-ez]
 have HZ:=zH ez
 clear ez
 rcases Decidable.em (p.k=2) with hk | hk
 ·rcases Decidable.em (1<=p.o) with o1 | o1 <;> rcases Decidable.em (p.o<=12) with o2 | o2 <;> rcases Decidable.em (p.n=0) with n0 | n0 <;>
  (first | (exfalso;omega) | skip) <;>
  ((first
    | (have e0:z=true:=(by rw[HZ.out];exact CD.bz (by unfold CD.gY;rw[if_pos hk];omega));clear HZ;subst e0)
    | (have e0:z=false:=(by rw[HZ.out];exact CD.aD (by unfold CD.gY;rw[if_pos hk];omega));clear HZ;subst e0))
   have b1:(p.k == (2:Int))=true:=by simpa using hk
   (first | (have b2:(p.n == (0:Int))=true:=by simpa using n0) | (have b2:(p.n == (0:Int))=false:=by simpa using n0))
   clear hk n0
   go_enter Tryz.func228,Tryz.ntmps228
   go_wp2_with fail
   go_ret
   exact⟨rfl,(Below.refl _ _).alloc (Nat.le_refl _) _⟩)
 ·rcases Decidable.em (p.o=0) with o1 | o1 <;> rcases Decidable.em (p.k=1) with k1 | k1 <;> rcases Decidable.em (p.n=0) with n0 | n0 <;>
  ((first
    | (have e0:z=true:=(by rw[HZ.out];exact CD.bz (by unfold CD.gY;rw[if_neg hk];omega));clear HZ;subst e0)
    | (have e0:z=false:=(by rw[HZ.out];exact CD.aD (by unfold CD.gY;rw[if_neg hk];omega));clear HZ;subst e0))
   have b1:(p.k == (2:Int))=false:=by simpa using hk
   (first | (have b2:(p.n == (0:Int))=true:=by simpa using n0) | (have b2:(p.n == (0:Int))=false:=by simpa using n0))
   (first | (have b3:(p.o == (0:Int))=true:=by simpa using o1) | (have b3:(p.o == (0:Int))=false:=by simpa using o1))
   (first | (have b4:(p.k == (1:Int))=true:=by simpa using k1) | (have b4:(p.k == (1:Int))=false:=by simpa using k1))
   clear hk n0 o1 k1
   go_enter Tryz.func228,Tryz.ntmps228
   go_wp2_with fail
   go_ret
   exact⟨rfl,(Below.refl _ _).alloc (Nat.le_refl _) _⟩)
def refW(k:Int):Int:=if k=4∨k=5∨k=6 then 1 else if k=7 then 2 else if k=8 then 3 else if k=9 then 4 else if k=10 then 5 else if k=11∨k=12 then 6 else 0
def altW(k:Int):Int:=if k=12 then 6 else 0
def shA(k:Int):Value:=.agg #[.int .u8 (refW k),.int .u8 (altW k),.bool (decide (CD.Defs k)),.int .i64 (CD.argN k:Nat)]
def nextI(k nx:Int):Int:=if CD.Defs k then nx+1 else nx
set_option maxHeartbeats 3200000 in
theorem iB(B:Nat)(av fv:Value)(mn0:Int)(q:CD.Cnt)(nb nv nx lf k d:Int)(w:World)(h:Ck B w (ckC av fv mn0 q nb nv nx lf))(hx:0<=nx/\nx<=1048576) :
 Calls Tryz.prog 229 #[.pointer (some ⟨B,0,none⟩),shA k,.int .i64 d] w fun e w'=>e=.returned (.bool (decide (if CD.Defs k then d=nx else d = -1)))/\w.grownBy w' (some B)/\Ck B w' (ckC av fv mn0 q nb nv (nextI k nx) lf):=by
 unfold shA nextI
 generalize refW k=r1
 generalize altW k=r2
 generalize CD.argN k=r3
 have hlt:=h.lt
 by_cases hd:CD.Defs k
 ·rw[decide_eq_true hd]
  simp only[if_pos hd]
  clear hd
  have HS:=zH (show Ck B ((w.setCell ⟨B,11,none⟩ (.int .i64 (nx+1))).alloc (.cells #[.int .u8 r1,.int .u8 r2,.bool true,.int .i64 (r3:Nat)] 304)) (ckC av fv mn0 q nb nv (nx+1) lf) from(h.set 11 (.int .i64 (nx+1))).on ((Below.refl _ _).alloc (Nat.le_refl _) _))
  have HGS:=zH (show w.grownBy ((w.setCell ⟨B,11,none⟩ (.int .i64 (nx+1))).alloc (.cells #[.int .u8 r1,.int .u8 r2,.bool true,.int .i64 (r3:Nat)] 304)) (some B) from
   aH (gM (bp _ (Below.refl _ _)) 11 (.int .i64 (nx+1))) (bp _ ((Below.refl _ _).alloc (Nat.le_refl _) _)))
  have hc0:w.cell? ⟨B,11,none⟩=some (.int .i64 nx):=h.at 11 rfl
  have hf0:w.frozen? ⟨B,11,none⟩=false:=h.free 11
  clear h
  have i0:nx+1-1=nx:=by omega
  cases hq:(d == nx)
  ·have hq2:¬d=nx:=by simpa using hq
   rw[decide_eq_false hq2]
   clear hq2
   go_enter Tryz.func229,Tryz.ntmps229
   go_wp2_with fail
   go_ret
   exact⟨rfl,HGS.out,HS.out⟩
  ·have hq2:d=nx:=by simpa using hq
   rw[decide_eq_true hq2]
   clear hq2
   go_enter Tryz.func229,Tryz.ntmps229
   go_wp2_with fail
   go_ret
   exact⟨rfl,HGS.out,HS.out⟩
 ·rw[decide_eq_false hd]
  simp only[if_neg hd]
  clear hd
  cases hq:(d == (-1:Int))
  ·have hq2:¬d = -1:=by simpa using hq
   rw[decide_eq_false hq2]
   clear hq2
   go_enter Tryz.func229,Tryz.ntmps229
   go_wp2_with fail
   go_ret
   exact⟨rfl,bp _ ((Below.refl _ _).alloc (Nat.le_refl _) _),h.on ((Below.refl _ _).alloc (Nat.le_refl _) _)⟩
  ·have hq2:d = -1:=by simpa using hq
   rw[decide_eq_true hq2]
   clear hq2
   go_enter Tryz.func229,Tryz.ntmps229
   go_wp2_with fail
   go_ret
   exact⟨rfl,bp _ ((Below.refl _ _).alloc (Nat.le_refl _) _),h.on ((Below.refl _ _).alloc (Nat.le_refl _) _)⟩
set_option maxHeartbeats 6400000 in
theorem qo{n₀:Nat}(B:Nat)(av fv:Value)(c:CodeP)(q:CD.Cnt)(nb nv nx lf:Int)(p:OpP)(xa:Option Addr)(xc:Nat)(ya:Option Addr)(yc:Nat)(w:World)(h:Ck B w (ckC av fv c.mn0 q nb nv nx lf))(hf:bh n₀ w fv c.fs)(hn:n₀<=w.heap.size)(hfl:c.fs.length<=100)(hs:fl p)(hr:p.k=7->0<=p.r/\p.r<(c.fs.length:Nat)) :
 Calls Tryz.prog 233 #[.pointer (some ⟨B,0,none⟩),shA p.k,opA p xa xc ya yc] w fun e w'=>e=.returned (.bool (CD.tf (CD.bH c p)))/\Below w.heap.size w w':=by
 obtain⟨fa,fc,rfl⟩:=hf.form
 unfold opA shA
 generalize refW p.k=r1
 generalize altW p.k=r2
 generalize decide (CD.Defs p.k)=r3
 have HS:=zH hs
 have b1:(p.xs.length:Int)<=17592186044416:=by have:=hs.1;omega
 have b2:(p.ys.length:Int)<=17592186044416:=by have:=hs.2;omega
 have HBW:=zH (show Below w.heap.size w ((w.alloc (.cells #[.int .u8 r1,.int .u8 r2,.bool r3,.int .i64 (CD.argN p.k:Nat)] 304)).alloc (.cells #[.int .u8 p.k,.int .u8 p.o,.int .i64 p.d,.int .i64 p.r,.int .i64 p.a,.slice xa p.xs.length xc,.slice ya p.ys.length yc,.int .i64 p.n,.int .i64 p.t] 56)) from((Below.refl _ _).alloc (Nat.le_refl _) _).alloc (by simp) _)
 obtain⟨z,ez⟩:∃z,z=CD.tf (CD.bH c p):=⟨_,rfl⟩
 rw[<-ez]
 have HZ:=zH ez
 clear ez hs
 rcases Decidable.em (p.k=3) with hk | hk
 ·rcases Decidable.em (1<=(p.ys.length:Int)) with o1 | o1
  ·rcases Decidable.em ((p.ys.length:Int)<=64) with o2 | o2
   ·rcases Decidable.em ((p.xs.length:Int)=p.ys.length) with o3 | o3
    ·have e0:z=true:=by rw[HZ.out];exact CD.bz (by unfold CD.bH;rw[if_pos hk];omega)
     clear HZ;subst e0
     have c1:(p.k == (3:Int))=true:=by simpa using hk
     have c2:((p.xs.length:Int) == (p.ys.length:Int))=true:=by simpa using o3
     clear hk o3
     go_enter Tryz.func233,Tryz.ntmps233
     go_wp2_with fail
     go_ret
     exact⟨rfl,HBW.out⟩
    ·have e0:z=false:=by rw[HZ.out];exact CD.aD (by unfold CD.bH;rw[if_pos hk];omega)
     clear HZ;subst e0
     have c1:(p.k == (3:Int))=true:=by simpa using hk
     have c2:((p.xs.length:Int) == (p.ys.length:Int))=false:=by simpa using o3
     clear hk o3
     go_enter Tryz.func233,Tryz.ntmps233
     go_wp2_with fail
     go_ret
     exact⟨rfl,HBW.out⟩
   ·have e0:z=false:=by rw[HZ.out];exact CD.aD (by unfold CD.bH;rw[if_pos hk];omega)
    clear HZ;subst e0
    have c1:(p.k == (3:Int))=true:=by simpa using hk
    clear hk
    go_enter Tryz.func233,Tryz.ntmps233
    go_wp2_with fail
    go_ret
    exact⟨rfl,HBW.out⟩
  ·have e0:z=false:=by rw[HZ.out];exact CD.aD (by unfold CD.bH;rw[if_pos hk];omega)
   clear HZ;subst e0
   have c1:(p.k == (3:Int))=true:=by simpa using hk
   clear hk
   go_enter Tryz.func233,Tryz.ntmps233
   go_wp2_with fail
   go_ret
   exact⟨rfl,HBW.out⟩
 ·have c1:(p.k == (3:Int))=false:=by simpa using hk
  rcases Decidable.em (p.k=7) with h7 | h7
  ·have c2:(p.k == (7:Int))=true:=by simpa using h7
   obtain⟨hr1,hr2⟩:=hr h7
   rcases Decidable.em ((p.ys.length:Int)=0) with o1 | o1
   ·obtain⟨blk,off,ba,bc,efa,hblk,hp,_⟩:=hf.at (i:=p.r.toNat) (by omega)
    subst efa
    have hp2:w.cell? ⟨blk,off+p.r.toNat*3,none⟩=some (.int .i64 (CD.paAt c p.r)):=hp
    have hc1:w.cell? ⟨B,1,none⟩=some (.slice (some ⟨blk,off,none⟩) c.fs.length fc):=h.at 1 rfl
    have hblkw:blk<w.heap.size:=by omega
    have hBw:=h.lt
    have i1:(0:Int)<=p.r/\p.r<(c.fs.length:Int):=⟨hr1,hr2⟩
    have i2:(c.fs.length:Int)<=100:=by omega
    obtain⟨pa,epa⟩:∃pa,pa=CD.paAt c p.r:=⟨_,rfl⟩
    rw[<-epa] at hp2
    clear hp h hf
    rcases Decidable.em ((p.xs.length:Int)=pa) with o3 | o3
    ·have e0:z=true:=by rw[HZ.out];exact CD.bz (by unfold CD.bH;rw[if_neg hk,if_pos h7,<-epa];omega)
     clear HZ epa;subst e0
     have c3:((p.ys.length:Int) == (0:Int))=true:=by simpa using o1
     have c4:((p.xs.length:Int) == pa)=true:=by simpa using o3
     clear hk h7 o1 o3
     go_enter Tryz.func233,Tryz.ntmps233
     go_wp2_with fail
     go_quiet (fail)
     go_wp2_with fail
     go_ret
     exact⟨rfl,HBW.out.trans ⟨rfl,rfl,rfl,Nat.le_refl _,fun _ _=>rfl⟩⟩
    ·have e0:z=false:=by rw[HZ.out];exact CD.aD (by unfold CD.bH;rw[if_neg hk,if_pos h7,<-epa];omega)
     clear HZ epa;subst e0
     have c3:((p.ys.length:Int) == (0:Int))=true:=by simpa using o1
     have c4:((p.xs.length:Int) == pa)=false:=by simpa using o3
     clear hk h7 o1 o3
     go_enter Tryz.func233,Tryz.ntmps233
     go_wp2_with fail
     go_quiet (fail)
     go_wp2_with fail
     go_ret
     exact⟨rfl,HBW.out.trans ⟨rfl,rfl,rfl,Nat.le_refl _,fun _ _=>rfl⟩⟩
   ·have e0:z=false:=by rw[HZ.out];exact CD.aD (by unfold CD.bH;rw[if_neg hk,if_pos h7];omega)
    clear HZ;subst e0
    have c3:((p.ys.length:Int) == (0:Int))=false:=by simpa using o1
    clear hk h7 o1
    go_enter Tryz.func233,Tryz.ntmps233
    go_wp2_with fail
    go_quiet (fail)
    go_wp2_with fail
    go_ret
    exact⟨rfl,HBW.out.trans ⟨rfl,rfl,rfl,Nat.le_refl _,fun _ _=>rfl⟩⟩
  ·have c2:(p.k == (7:Int))=false:=by simpa using h7
   rcases Decidable.em ((p.ys.length:Int)=0) with o1 | o1
   ·rcases Decidable.em ((p.xs.length:Int)=(CD.argN p.k:Nat)) with o3 | o3
    ·have e0:z=true:=by rw[HZ.out];exact CD.bz (by unfold CD.bH;rw[if_neg hk,if_neg h7];omega)
     clear HZ;subst e0
     have c3:((p.ys.length:Int) == (0:Int))=true:=by simpa using o1
     have c4:((p.xs.length:Int) == ((CD.argN p.k:Nat):Int))=true:=by simpa using o3
     clear hk h7 o1 o3
     go_enter Tryz.func233,Tryz.ntmps233
     go_wp2_with fail
     go_ret
     exact⟨rfl,HBW.out⟩
    ·have e0:z=false:=by rw[HZ.out];exact CD.aD (by unfold CD.bH;rw[if_neg hk,if_neg h7];omega)
     clear HZ;subst e0
     have c3:((p.ys.length:Int) == (0:Int))=true:=by simpa using o1
     have c4:((p.xs.length:Int) == ((CD.argN p.k:Nat):Int))=false:=by simpa using o3
     clear hk h7 o1 o3
     go_enter Tryz.func233,Tryz.ntmps233
     go_wp2_with fail
     go_ret
     exact⟨rfl,HBW.out⟩
   ·have e0:z=false:=by rw[HZ.out];exact CD.aD (by unfold CD.bH;rw[if_neg hk,if_neg h7];omega)
    clear HZ;subst e0
    have c3:((p.ys.length:Int) == (0:Int))=false:=by simpa using o1
    clear hk h7 o1
    go_enter Tryz.func233,Tryz.ntmps233
    go_wp2_with fail
    go_ret
    exact⟨rfl,HBW.out⟩
end
section
open Go.RowKit
open CD (OpP BodyP CodeP aj blAt fnAt)
abbrev shG:Nat:=1
def ShT(w:World):Prop:=∀k:Nat,k<14->w.cell? ⟨shG,k*4,none⟩=some (.int .u8 (refW k))/\w.cell? ⟨shG,k*4+1,none⟩=some (.int .u8 (altW k))/\w.cell? ⟨shG,k*4+2,none⟩=some (.bool (decide (CD.Defs k)))/\w.cell? ⟨shG,k*4+3,none⟩=some (.int .i64 (CD.argN k:Nat))
theorem ShT.lt{w:World}(h:ShT w):shG<w.heap.size:=by
 have hc:=(h 0 (by decide)).1
 apply Classical.byContradiction;intro hn
 simp [World.cell?,Array.getElem?_eq_none (Nat.le_of_not_lt hn)] at hc
theorem ShT.kept{A B:World}(h:ShT A)(k:B.heap[shG]?=A.heap[shG]?):ShT B:=fun j hj =>
 ⟨(World.cell?_of_block (w:=A) (a:=⟨shG,j*4,none⟩) k).trans (h j hj).1,(World.cell?_of_block (w:=A) (a:=⟨shG,j*4+1,none⟩) k).trans (h j hj).2.1,(World.cell?_of_block (w:=A) (a:=⟨shG,j*4+2,none⟩) k).trans (h j hj).2.2.1,(World.cell?_of_block (w:=A) (a:=⟨shG,j*4+3,none⟩) k).trans (h j hj).2.2.2⟩
theorem ShT.on{w W:World}(h:ShT w)(hb:Below w.heap.size w W):ShT W:=h.kept (hb.block _ h.lt)
theorem ShT.grown{w W:World}{B:Nat}(h:ShT w)(hg:w.grownBy W (some B))(hB:B≠shG):ShT W:=h.kept (hg.block _ h.lt (fun e=>hB (Option.some.inj e).symm))
theorem jR{w:World}{b:Nat}{t:TypeId}{v0 v1 v2 v3 v4 v5 v6 v7 v8:Value}(h:w.heap[b]?=some (.cells #[v0,v1,v2,v3,v4,v5,v6,v7,v8] t)):w.cell? ⟨b,5,none⟩=some v5:=by
 rw[cell_of_row _ _ 5 _ _ _ h];rfl
theorem jS{w:World}{b:Nat}{t:TypeId}{v0 v1 v2 v3 v4 v5 v6 v7 v8:Value}(h:w.heap[b]?=some (.cells #[v0,v1,v2,v3,v4,v5,v6,v7,v8] t)):w.cell? ⟨b,6,none⟩=some v6:=by
 rw[cell_of_row _ _ 6 _ _ _ h];rfl
set_option maxRecDepth 100000 in
set_option maxHeartbeats 3200000 in
theorem lR{n₀:Nat}(B:Nat)(av fv:Value)(c:CodeP)(q:CD.Cnt)(nb nv nx lf:Int)(p:OpP)(xa:Option Addr)(xc:Nat)(ya:Option Addr)(yc:Nat)(w:World)(h:Ck B w (ckC av fv c.mn0 q nb nv nx lf))(hf:bh n₀ w fv c.fs)(hn:n₀<=w.heap.size)(hfl:c.fs.length<=100)(hs:fl p)(hr:p.k=7->0<=p.r/\p.r<(c.fs.length:Nat))
 (hx:Row n₀ w (.slice xa p.xs.length xc) p.xs) (hy:Row n₀ w (.slice ya p.ys.length yc) p.ys) :
 Calls Tryz.prog 230 #[.pointer (some ⟨B,0,none⟩),shA p.k,opA p xa xc ya yc] w fun e w'=>e=.returned (.bool (CD.tf (CD.bH c p/\CD.InOk p.xs nv/\CD.InOk p.ys nb)))/\Below w.heap.size w w':=by
 have HS:=zH hs
 obtain⟨z,ez⟩:∃z,z=CD.tf (CD.bH c p/\CD.InOk p.xs nv/\CD.InOk p.ys nb):=⟨_,rfl⟩
 rw[<-ez]
 have HZ:=zH ez
 clear ez
 obtain⟨w2,ew2⟩:∃w2,w2=(w.alloc (.cells #[.int .u8 (refW p.k),.int .u8 (altW p.k),.bool (decide (CD.Defs p.k)),.int .i64 (CD.argN p.k:Nat)] 304)).alloc (.cells #[.int .u8 p.k,.int .u8 p.o,.int .i64 p.d,.int .i64 p.r,.int .i64 p.a,.slice xa p.xs.length xc,.slice ya p.ys.length yc,.int .i64 p.n,.int .i64 p.t] 56):=⟨_,rfl⟩
 have hb2:Below w.heap.size w w2:=by rw[ew2];exact((Below.refl _ _).alloc (Nat.le_refl _) _).alloc (by simp) _
 have HB2:=zH hb2
 have HCT:=zH (qo B av fv c q nb nv nx lf p xa xc ya yc w2 (h.on hb2) (hf.below (hb2.mono hn)) (Nat.le_trans hn hb2.size) hfl hs hr)
 have HA1:=zH (fun w3 (hb:Below w2.heap.size w2 w3)=>qn (n₀:=n₀) B 7 _ p.xs nv w3 (by decide) (((h.on hb2).on hb).at 10 rfl) ((hx.below (hb2.mono hn)).below (hb.mono (Nat.le_trans hn hb2.size))) hs.1)
 have HA2:=zH (fun w3 (hb:Below w2.heap.size w2 w3)=>qn (n₀:=n₀) B 6 _ p.ys nb w3 (by decide) (((h.on hb2).on hb).at 9 rfl) ((hy.below (hb2.mono hn)).below (hb.mono (Nat.le_trans hn hb2.size))) hs.2)
 have hk0:w2.heap[w.heap.size+1]?=some (.cells #[.int .u8 p.k,.int .u8 p.o,.int .i64 p.d,.int .i64 p.r,.int .i64 p.a,.slice xa p.xs.length xc,.slice ya p.ys.length yc,.int .i64 p.n,.int .i64 p.t] 56):=by
  rw[ew2]
  have e:=heap_alloc_new (w.alloc (.cells #[.int .u8 (refW p.k),.int .u8 (altW p.k),.bool (decide (CD.Defs p.k)),.int .i64 (CD.argN p.k:Nat)] 304)) (.cells #[.int .u8 p.k,.int .u8 p.o,.int .i64 p.d,.int .i64 p.r,.int .i64 p.a,.slice xa p.xs.length xc,.slice ya p.ys.length yc,.int .i64 p.n,.int .i64 p.t] 56)
  rw[show (w.alloc (.cells #[.int .u8 (refW p.k),.int .u8 (altW p.k),.bool (decide (CD.Defs p.k)),.int .i64 (CD.argN p.k:Nat)] 304)).heap.size=w.heap.size+1 by simp] at e
  exact e
 have HK:=zH (fun w3 (hb:Below w2.heap.size w2 w3)=>show w3.heap[w.heap.size+1]?=_ from(hb.block _ (Array.getElem?_eq_some_iff.1 hk0).1).trans hk0)
 clear h hf hs hr hx hy hb2 hk0
 cases h1:CD.tf (CD.bH c p)
 ·have e0:z=false:=by rw[HZ.out];exact CD.aD (fun h=>CD.cZ h1 h.1)
  have H1:=zH h1
  clear HZ h1;subst e0
  unfold opA shA
  go_enter Tryz.func230,Tryz.ntmps230
  go_wp2_with (go_at_call 233;rw[<-ew2];refine HCT.out.mono ?_;rintro e w3 ⟨rfl,hb3⟩;rw[H1.out];have HB3:=zH hb3;clear hb3;have hk5:=jR (HK.out w3 HB3.out);have hk6:=jS (HK.out w3 HB3.out))
  go_ret
  exact⟨rfl,HB2.out.trans (HB3.out.mono HB2.out.size)⟩
 ·cases h2:CD.tf (CD.InOk p.xs nv)
  ·have e0:z=false:=by rw[HZ.out];exact CD.aD (fun h=>CD.cZ h2 h.2.1)
   have H1:=zH h1
   have H2:=zH h2
   have G1:=zH True.intro
   clear HZ h1 h2;subst e0
   unfold opA shA
   go_enter Tryz.func230,Tryz.ntmps230
   go_wp2_with (first | (go_at_call 233;rw[<-ew2];refine HCT.out.mono ?_;rintro e w3 ⟨rfl,hb3⟩;rw[H1.out];have HB3:=zH hb3;clear hb3;have hk5:=jR (HK.out w3 HB3.out);have hk6:=jS (HK.out w3 HB3.out)) | (clear G1;go_at_call 234;refine(HA1.out w3 HB3.out).mono ?_;rintro e w4 ⟨rfl,e4⟩;rewrite [e4];clear e4;rw[H2.out]))
   go_ret
   exact⟨rfl,HB2.out.trans (HB3.out.mono HB2.out.size)⟩
  ·cases h3:CD.tf (CD.InOk p.ys nb)
   ·have e0:z=false:=by rw[HZ.out];exact CD.aD (fun h=>CD.cZ h3 h.2.2)
    have H1:=zH h1
    have H2:=zH h2
    have H3:=zH h3
    have G1:=zH True.intro
    clear HZ h1 h2 h3;subst e0
    unfold opA shA
    go_enter Tryz.func230,Tryz.ntmps230
    go_wp2_with (first | (go_at_call 233;rw[<-ew2];refine HCT.out.mono ?_;rintro e w3 ⟨rfl,hb3⟩;rw[H1.out];have HB3:=zH hb3;clear hb3;have hk5:=jR (HK.out w3 HB3.out);have hk6:=jS (HK.out w3 HB3.out)) | (clear G1;go_at_call 234;refine(HA1.out w3 HB3.out).mono ?_;rintro e w4 ⟨rfl,e4⟩;rewrite [e4];clear e4;rw[H2.out]) | (go_at_call 234;refine(HA2.out w3 HB3.out).mono ?_;rintro e w4 ⟨rfl,e4⟩;rewrite [e4];clear e4;rw[H3.out]))
    go_ret
    exact⟨rfl,HB2.out.trans (HB3.out.mono HB2.out.size)⟩
   ·have e0:z=true:=by rw[HZ.out];exact CD.bz ⟨CD.dU h1,CD.dU h2,CD.dU h3⟩
    have H1:=zH h1
    have H2:=zH h2
    have H3:=zH h3
    have G1:=zH True.intro
    clear HZ h1 h2 h3;subst e0
    unfold opA shA
    go_enter Tryz.func230,Tryz.ntmps230
    go_wp2_with (first | (go_at_call 233;rw[<-ew2];refine HCT.out.mono ?_;rintro e w3 ⟨rfl,hb3⟩;rw[H1.out];have HB3:=zH hb3;clear hb3;have hk5:=jR (HK.out w3 HB3.out);have hk6:=jS (HK.out w3 HB3.out)) | (clear G1;go_at_call 234;refine(HA1.out w3 HB3.out).mono ?_;rintro e w4 ⟨rfl,e4⟩;rewrite [e4];clear e4;rw[H2.out]) | (go_at_call 234;refine(HA2.out w3 HB3.out).mono ?_;rintro e w4 ⟨rfl,e4⟩;rewrite [e4];clear e4;rw[H3.out]))
    go_ret
    exact⟨rfl,HB2.out.trans (HB3.out.mono HB2.out.size)⟩
end
section
open Go.RowKit
open CD (OpP BodyP CodeP aj blAt fnAt)
theorem fV(B:Nat)(j n T:Int)(w:World)(hj:0<=j/\j<8)(hc:w.cell? ⟨B,3+j.toNat,none⟩=some (.int .i64 T)) :
 Calls Tryz.prog 135 #[.pointer (some ⟨B,0,none⟩),.int .u8 j,.int .i64 n] w fun e w'=>e=.returned (.bool (decide (0<=n/\n<T)))/\w'=w:=by
 obtain⟨k,rfl⟩:=Int.eq_ofNat_of_zero_le hj.1
 exact jQ B k n T w (by omega) (by simpa using hc)
theorem refW_lt(k:Int):0<=refW k/\refW k<8:=by
 unfold refW
 repeat' split
 all_goals omega
theorem altW_lt(k:Int):0<=altW k/\altW k<8:=by
 unfold altW
 split <;> omega
theorem ph(av fv:Value)(mn0:Int)(q:CD.Cnt)(nb:Nat)(nv nx lf k:Int):(ckC av fv mn0 q nb nv nx lf)[3+(refW k).toNat]?=some (.int .i64 (CD.refN q nb k:Nat)):=by
 unfold refW CD.refN
 repeat' split
 all_goals first | rfl | (exfalso;omega)
theorem ck_alt(av fv:Value)(mn0:Int)(q:CD.Cnt)(nb:Nat)(nv nx lf k:Int):(ckC av fv mn0 q nb nv nx lf)[3+(altW k).toNat]?=some (.int .i64 (CD.altN nb k:Nat)):=by
 unfold altW CD.altN
 split <;> rfl
theorem box9{w:World}{b:Nat}{t:TypeId}{v0 v1 v2 v3 v4 v5 v6 v7 v8:Value}(h:w.heap[b]?=some (.cells #[v0,v1,v2,v3,v4,v5,v6,v7,v8] t)) :
 w.cell? ⟨b,0,none⟩=some v0/\w.cell? ⟨b,1,none⟩=some v1/\w.cell? ⟨b,2,none⟩=some v2/\w.cell? ⟨b,3,none⟩=some v3/\w.cell? ⟨b,4,none⟩=some v4/\w.cell? ⟨b,5,none⟩=some v5/\w.cell? ⟨b,6,none⟩=some v6/\w.cell? ⟨b,7,none⟩=some v7/\w.cell? ⟨b,8,none⟩=some v8 :=
 ⟨cell_of_row _ _ 0 _ _ _ h,cell_of_row _ _ 1 _ _ _ h,cell_of_row _ _ 2 _ _ _ h,cell_of_row _ _ 3 _ _ _ h,cell_of_row _ _ 4 _ _ _ h,cell_of_row _ _ 5 _ _ _ h,cell_of_row _ _ 6 _ _ _ h,cell_of_row _ _ 7 _ _ _ h,cell_of_row _ _ 8 _ _ _ h⟩
theorem box4{w:World}{b:Nat}{t:TypeId}{v0 v1 v2 v3:Value}(h:w.heap[b]?=some (.cells #[v0,v1,v2,v3] t)) :
 w.cell? ⟨b,0,none⟩=some v0/\w.cell? ⟨b,1,none⟩=some v1/\w.cell? ⟨b,2,none⟩=some v2/\w.cell? ⟨b,3,none⟩=some v3 :=
 ⟨cell_of_row _ _ 0 _ _ _ h,cell_of_row _ _ 1 _ _ _ h,cell_of_row _ _ 2 _ _ _ h,cell_of_row _ _ 3 _ _ _ h⟩
def opO(p:OpP)(xa:Option Addr)(xc:Nat)(ya:Option Addr)(yc:Nat):Obj :=
 .cells #[.int .u8 p.k,.int .u8 p.o,.int .i64 p.d,.int .i64 p.r,.int .i64 p.a,.slice xa p.xs.length xc,.slice ya p.ys.length yc,.int .i64 p.n,.int .i64 p.t] 56
def shO(k:Int):Obj:=.cells #[.int .u8 (refW k),.int .u8 (altW k),.bool (decide (CD.Defs k)),.int .i64 (CD.argN k:Nat)] 304
set_option maxRecDepth 100000 in
set_option maxHeartbeats 12800000 in
theorem nop_any{n₀:Nat}(B:Nat)(av fv:Value)(c:CodeP)(b:BodyP)(q:CD.Cnt)(nx lf:Int)(p:OpP)(xa:Option Addr)(xc:Nat)(ya:Option Addr)(yc:Nat)(w:World)(h:Ck B w (ckC av fv c.mn0 q b.bs.length b.va nx lf))(hf:bh n₀ w fv c.fs)(hn:n₀<=B)(hfl:c.fs.length<=100)(hqf:q.fn=c.fs.length)(hs:fl p)(hnx:0<=nx/\nx<=1048576)(hT:ShT w)(hBT:B≠shG)
 (hx:Row n₀ w (.slice xa p.xs.length xc) p.xs) (hy:Row n₀ w (.slice ya p.ys.length yc) p.ys) :
 Calls Tryz.prog 219 #[.pointer (some ⟨B,0,none⟩),opA p xa xc ya yc] w fun e w'=>e=.returned (.bool (CD.tf (CD.OpOk q c b p nx)))/\w.grownBy w' (some B)/\(CD.OpOk q c b p nx->Ck B w' (ckC av fv c.mn0 q b.bs.length b.va (nextI p.k nx) lf)):=by
 obtain⟨z,ez⟩:∃z,z=CD.tf (CD.OpOk q c b p nx):=⟨_,rfl⟩
 rw[<-ez]
 have HZ:=zH ez
 clear ez
 have hBw:=h.lt
 obtain⟨w1,ew1⟩:∃w1,w1=w.alloc (opO p xa xc ya yc):=⟨_,rfl⟩
 have hb1:Below w.heap.size w w1:=by rw[ew1];exact(Below.refl _ _).alloc (Nat.le_refl _) _
 have HB1:=zH hb1
 rcases Decidable.em (1<=p.k) with k1 | k1
 ·rcases Decidable.em (p.k<=13) with k2 | k2
  ·obtain⟨w2,ew2⟩:∃w2,w2=(w.alloc (opO p xa xc ya yc)).alloc (shO p.k):=⟨_,rfl⟩
   have hb2:Below w.heap.size w w2:=by rw[ew2];exact((Below.refl _ _).alloc (Nat.le_refl _) _).alloc (by simp) _
   have hz2:w2.heap.size=w.heap.size+2:=by rw[ew2];simp
   have hk9:w2.heap[w.heap.size]?=some (opO p xa xc ya yc):=by
    rw[ew2,Below.heap_alloc _ _ _ (by simp)];exact heap_alloc_new _ _
   have hk4:w2.heap[w.heap.size+1]?=some (shO p.k):=by
    have e:=heap_alloc_new (w.alloc (opO p xa xc ya yc)) (shO p.k)
    rw[show (w.alloc (opO p xa xc ya yc)).heap.size=w.heap.size+1 by simp] at e
    rw[ew2];exact e
   have HK9:=zH (fun w3 (hg:w2.grownBy w3 (some B))=>box9 (show w3.heap[w.heap.size]?=some (opO p xa xc ya yc) from(hg.block _ (by omega) (fun e=>by cases e;omega)).trans hk9))
   have HK4:=zH (fun w3 (hg:w2.grownBy w3 (some B))=>box4 (show w3.heap[w.heap.size+1]?=some (shO p.k) from(hg.block _ (by omega) (fun e=>by cases e;omega)).trans hk4))
   have HC2:=zH (h.on hb2)
   have HF2:=zH (hf.below (hb2.mono (by omega)))
   have HX2:=zH (hx.below (hb2.mono (by omega)))
   have HY2:=zH (hy.below (hb2.mono (by omega)))
   have HG2:=zH (bp (some B) hb2)
   have HN:=zH (show n₀<=w2.heap.size by omega)
   have HBZ:=zH hBw
   have hsh:=hT p.k.toNat (by omega)
   rw[show ((p.k.toNat:Nat):Int)=p.k by omega] at hsh
   have hs0:w1.cell? ⟨shG,p.k.toNat*4,none⟩=some (.int .u8 (refW p.k)):=(hb1.cell (p:=⟨shG,p.k.toNat*4,none⟩) hT.lt).trans hsh.1
   have hs1:w1.cell? ⟨shG,p.k.toNat*4+1,none⟩=some (.int .u8 (altW p.k)):=(hb1.cell (p:=⟨shG,p.k.toNat*4+1,none⟩) hT.lt).trans hsh.2.1
   have hs2:w1.cell? ⟨shG,p.k.toNat*4+2,none⟩=some (.bool (decide (CD.Defs p.k))):=(hb1.cell (p:=⟨shG,p.k.toNat*4+2,none⟩) hT.lt).trans hsh.2.2.1
   have hs3:w1.cell? ⟨shG,p.k.toNat*4+3,none⟩=some (.int .i64 (CD.argN p.k:Nat)):=(hb1.cell (p:=⟨shG,p.k.toNat*4+3,none⟩) hT.lt).trans hsh.2.2.2
   rw[ew1] at hs0 hs1 hs2 hs3
   unfold opO at hs0 hs1 hs2 hs3
   have HR:=zH (fun(hr:0<=p.r/\p.r<(CD.refN q b.bs.length p.k:Nat)) (e7:p.k=7)=>show 0<=p.r/\p.r<(c.fs.length:Nat) by
    rw[e7] at hr
    have e:CD.refN q b.bs.length 7=q.fn:=rfl
    rw[e,hqf] at hr
    exact hr)
   have i1:(1:Int)<=p.k/\p.k<=13:=⟨k1,k2⟩
   clear hsh hT h hf hx hy hb2 hk9 hk4 hz2 hb1 ew1 HB1
   have HRW:=zH (refW_lt p.k)
   have HAW:=zH (altW_lt p.k)
   have HSM:=zH hs
   have HNX:=zH hnx
   have HFL:=zH hfl
   clear hs hnx hfl hqf
   cases h1:CD.tf (CD.gY p)
   ·have e0:z=false:=by rw[HZ.out];exact CD.aD (fun h=>CD.cZ h1 h.2.1)
    have H1:=zH h1
    have G1:=zH True.intro
    have G2:=zH True.intro
    have HNO:=zH (show ¬CD.OpOk q c b p nx from fun h=>CD.cZ h1 h.2.1)
    clear HZ h1
    subst e0
    unfold opA
    go_enter Tryz.func219,Tryz.ntmps219
    go_wp2_with (first | (go_at_call 228;unfold opO shO at ew2;rw[<-ew2];refine(fO p xa xc ya yc w2).mono ?_;rintro e w3 ⟨rfl,hb⟩;rw[H1.out];have HG3:=zH (bp (some B) hb);have HC3:=zH (HC2.out.on hb);clear hb hs0 hs1 hs2 hs3;obtain⟨hc0,hc1,hc2,hc3,hc4,hc5,hc6,hc7,hc8⟩:=HK9.out w3 HG3.out;obtain⟨hd0,hd1,hd2,hd3⟩:=HK4.out w3 HG3.out))
    go_ret
    exact⟨rfl,aH HG2.out HG3.out,fun h=>absurd h HNO.out⟩
   ·skip
    cases h2:decide (if CD.Defs p.k then p.d=nx else p.d = -1)
    ·have e0:z=false:=by rw[HZ.out];exact CD.aD (fun h=>of_decide_eq_false h2 h.2.2.1)
     have H1:=zH h1
     have H2:=zH h2
     have G1:=zH True.intro
     have G2:=zH True.intro
     have HNO:=zH (show ¬CD.OpOk q c b p nx from fun h=>of_decide_eq_false h2 h.2.2.1)
     clear HZ h1 h2
     subst e0
     unfold opA
     go_enter Tryz.func219,Tryz.ntmps219
     go_wp2_with (first | (go_at_call 228;unfold opO shO at ew2;rw[<-ew2];refine(fO p xa xc ya yc w2).mono ?_;rintro e w3 ⟨rfl,hb⟩;rw[H1.out];have HG3:=zH (bp (some B) hb);have HC3:=zH (HC2.out.on hb);clear hb hs0 hs1 hs2 hs3;obtain⟨hc0,hc1,hc2,hc3,hc4,hc5,hc6,hc7,hc8⟩:=HK9.out w3 HG3.out;obtain⟨hd0,hd1,hd2,hd3⟩:=HK4.out w3 HG3.out) | (go_at_call 229;refine(iB B av fv c.mn0 q b.bs.length b.va nx lf p.k p.d w3 HC3.out HNX.out).mono ?_;rintro e w4 ⟨rfl,hg,hck⟩;rw[H2.out];have HG4:=zH (aH HG3.out hg);have HC4:=zH hck;clear hg hck hc0 hc1 hc2 hc3 hc4 hc5 hc6 hc7 hc8 hd0 hd1 hd2 hd3;obtain⟨hc0,hc1,hc2,hc3,hc4,hc5,hc6,hc7,hc8⟩:=HK9.out w4 HG4.out;obtain⟨hd0,hd1,hd2,hd3⟩:=HK4.out w4 HG4.out))
     go_ret
     exact⟨rfl,aH HG2.out HG4.out,fun h=>absurd h HNO.out⟩
    ·skip
     cases h3:decide (0<=p.r/\p.r<(CD.refN q b.bs.length p.k:Nat))
     ·have e0:z=false:=by rw[HZ.out];exact CD.aD (fun h=>of_decide_eq_false h3 h.2.2.2.1)
      have H1:=zH h1
      have H2:=zH h2
      have H3:=zH h3
      have G1:=zH True.intro
      have G2:=zH True.intro
      have HNO:=zH (show ¬CD.OpOk q c b p nx from fun h=>of_decide_eq_false h3 h.2.2.2.1)
      clear HZ h1 h2 h3
      subst e0
      unfold opA
      go_enter Tryz.func219,Tryz.ntmps219
      go_wp2_with (first | (go_at_call 228;unfold opO shO at ew2;rw[<-ew2];refine(fO p xa xc ya yc w2).mono ?_;rintro e w3 ⟨rfl,hb⟩;rw[H1.out];have HG3:=zH (bp (some B) hb);have HC3:=zH (HC2.out.on hb);clear hb hs0 hs1 hs2 hs3;obtain⟨hc0,hc1,hc2,hc3,hc4,hc5,hc6,hc7,hc8⟩:=HK9.out w3 HG3.out;obtain⟨hd0,hd1,hd2,hd3⟩:=HK4.out w3 HG3.out) | (go_at_call 229;refine(iB B av fv c.mn0 q b.bs.length b.va nx lf p.k p.d w3 HC3.out HNX.out).mono ?_;rintro e w4 ⟨rfl,hg,hck⟩;rw[H2.out];have HG4:=zH (aH HG3.out hg);have HC4:=zH hck;clear hg hck hc0 hc1 hc2 hc3 hc4 hc5 hc6 hc7 hc8 hd0 hd1 hd2 hd3;obtain⟨hc0,hc1,hc2,hc3,hc4,hc5,hc6,hc7,hc8⟩:=HK9.out w4 HG4.out;obtain⟨hd0,hd1,hd2,hd3⟩:=HK4.out w4 HG4.out) | (clear G1;go_at_call 135;refine(fV B (refW p.k) p.r (CD.refN q b.bs.length p.k:Nat) w4 HRW.out (HC4.out.at _ (ph av fv c.mn0 q b.bs.length b.va _ lf p.k))).mono ?_;rintro e w5 ⟨rfl,e5⟩;rewrite [e5];clear e5;rw[H3.out]))
      go_ret
      exact⟨rfl,aH HG2.out HG4.out,fun h=>absurd h HNO.out⟩
     ·skip
      cases h4:decide (0<=p.a/\p.a<(CD.altN b.bs.length p.k:Nat))
      ·have e0:z=false:=by rw[HZ.out];exact CD.aD (fun h=>of_decide_eq_false h4 h.2.2.2.2.1)
       have H1:=zH h1
       have H2:=zH h2
       have H3:=zH h3
       have H4:=zH h4
       have G1:=zH True.intro
       have G2:=zH True.intro
       have HNO:=zH (show ¬CD.OpOk q c b p nx from fun h=>of_decide_eq_false h4 h.2.2.2.2.1)
       clear HZ h1 h2 h3 h4
       subst e0
       unfold opA
       go_enter Tryz.func219,Tryz.ntmps219
       go_wp2_with (first | (go_at_call 228;unfold opO shO at ew2;rw[<-ew2];refine(fO p xa xc ya yc w2).mono ?_;rintro e w3 ⟨rfl,hb⟩;rw[H1.out];have HG3:=zH (bp (some B) hb);have HC3:=zH (HC2.out.on hb);clear hb hs0 hs1 hs2 hs3;obtain⟨hc0,hc1,hc2,hc3,hc4,hc5,hc6,hc7,hc8⟩:=HK9.out w3 HG3.out;obtain⟨hd0,hd1,hd2,hd3⟩:=HK4.out w3 HG3.out) | (go_at_call 229;refine(iB B av fv c.mn0 q b.bs.length b.va nx lf p.k p.d w3 HC3.out HNX.out).mono ?_;rintro e w4 ⟨rfl,hg,hck⟩;rw[H2.out];have HG4:=zH (aH HG3.out hg);have HC4:=zH hck;clear hg hck hc0 hc1 hc2 hc3 hc4 hc5 hc6 hc7 hc8 hd0 hd1 hd2 hd3;obtain⟨hc0,hc1,hc2,hc3,hc4,hc5,hc6,hc7,hc8⟩:=HK9.out w4 HG4.out;obtain⟨hd0,hd1,hd2,hd3⟩:=HK4.out w4 HG4.out) | (clear G1;go_at_call 135;refine(fV B (refW p.k) p.r (CD.refN q b.bs.length p.k:Nat) w4 HRW.out (HC4.out.at _ (ph av fv c.mn0 q b.bs.length b.va _ lf p.k))).mono ?_;rintro e w5 ⟨rfl,e5⟩;rewrite [e5];clear e5;rw[H3.out]) | (clear G2;go_at_call 135;refine(fV B (altW p.k) p.a (CD.altN b.bs.length p.k:Nat) w4 HAW.out (HC4.out.at _ (ck_alt av fv c.mn0 q b.bs.length b.va _ lf p.k))).mono ?_;rintro e w5 ⟨rfl,e5⟩;rewrite [e5];clear e5;rw[H4.out]))
       go_ret
       exact⟨rfl,aH HG2.out HG4.out,fun h=>absurd h HNO.out⟩
      ·skip
       cases h5:CD.tf (CD.bH c p/\CD.InOk p.xs b.va/\CD.InOk p.ys b.bs.length)
       ·have e0:z=false:=by rw[HZ.out];exact CD.aD (fun h=>CD.cZ h5 h.2.2.2.2.2)
        have H1:=zH h1
        have H2:=zH h2
        have H3:=zH h3
        have H4:=zH h4
        have H5:=zH h5
        have G1:=zH True.intro
        have G2:=zH True.intro
        have HNO:=zH (show ¬CD.OpOk q c b p nx from fun h=>CD.cZ h5 h.2.2.2.2.2)
        clear HZ h1 h2 h3 h4 h5
        subst e0
        unfold opA
        go_enter Tryz.func219,Tryz.ntmps219
        go_wp2_with (first | (go_at_call 228;unfold opO shO at ew2;rw[<-ew2];refine(fO p xa xc ya yc w2).mono ?_;rintro e w3 ⟨rfl,hb⟩;rw[H1.out];have HG3:=zH (bp (some B) hb);have HC3:=zH (HC2.out.on hb);clear hb hs0 hs1 hs2 hs3;obtain⟨hc0,hc1,hc2,hc3,hc4,hc5,hc6,hc7,hc8⟩:=HK9.out w3 HG3.out;obtain⟨hd0,hd1,hd2,hd3⟩:=HK4.out w3 HG3.out) | (go_at_call 229;refine(iB B av fv c.mn0 q b.bs.length b.va nx lf p.k p.d w3 HC3.out HNX.out).mono ?_;rintro e w4 ⟨rfl,hg,hck⟩;rw[H2.out];have HG4:=zH (aH HG3.out hg);have HC4:=zH hck;clear hg hck hc0 hc1 hc2 hc3 hc4 hc5 hc6 hc7 hc8 hd0 hd1 hd2 hd3;obtain⟨hc0,hc1,hc2,hc3,hc4,hc5,hc6,hc7,hc8⟩:=HK9.out w4 HG4.out;obtain⟨hd0,hd1,hd2,hd3⟩:=HK4.out w4 HG4.out) | (clear G1;go_at_call 135;refine(fV B (refW p.k) p.r (CD.refN q b.bs.length p.k:Nat) w4 HRW.out (HC4.out.at _ (ph av fv c.mn0 q b.bs.length b.va _ lf p.k))).mono ?_;rintro e w5 ⟨rfl,e5⟩;rewrite [e5];clear e5;rw[H3.out]) | (clear G2;go_at_call 135;refine(fV B (altW p.k) p.a (CD.altN b.bs.length p.k:Nat) w4 HAW.out (HC4.out.at _ (ck_alt av fv c.mn0 q b.bs.length b.va _ lf p.k))).mono ?_;rintro e w5 ⟨rfl,e5⟩;rewrite [e5];clear e5;rw[H4.out]) | (go_at_call 230;refine(lR (n₀:=n₀) B av fv c q b.bs.length b.va _ lf p xa xc ya yc w4 HC4.out (HF2.out.below (aX HG4.out hn HN.out)) (Nat.le_trans HN.out HG4.out.size) HFL.out HSM.out (HR.out (of_decide_eq_true H3.out)) (HX2.out.below (aX HG4.out hn HN.out)) (HY2.out.below (aX HG4.out hn HN.out))).mono ?_;rintro e w6 ⟨rfl,hb6⟩;rw[H5.out];have HG6:=zH (aH HG4.out (bp (some B) hb6));have HC6:=zH (HC4.out.on hb6);clear hb6))
        go_ret
        exact⟨rfl,aH HG2.out HG6.out,fun h=>absurd h HNO.out⟩
       ·skip
        have e0:z=true:=by rw[HZ.out];exact CD.bz ⟨i1,CD.dU h1,of_decide_eq_true h2,of_decide_eq_true h3,of_decide_eq_true h4,CD.dU h5⟩
        have H1:=zH h1
        have H2:=zH h2
        have H3:=zH h3
        have H4:=zH h4
        have H5:=zH h5
        have G1:=zH True.intro
        have G2:=zH True.intro
        clear HZ h1 h2 h3 h4 h5
        subst e0
        unfold opA
        go_enter Tryz.func219,Tryz.ntmps219
        go_wp2_with (first | (go_at_call 228;unfold opO shO at ew2;rw[<-ew2];refine(fO p xa xc ya yc w2).mono ?_;rintro e w3 ⟨rfl,hb⟩;rw[H1.out];have HG3:=zH (bp (some B) hb);have HC3:=zH (HC2.out.on hb);clear hb hs0 hs1 hs2 hs3;obtain⟨hc0,hc1,hc2,hc3,hc4,hc5,hc6,hc7,hc8⟩:=HK9.out w3 HG3.out;obtain⟨hd0,hd1,hd2,hd3⟩:=HK4.out w3 HG3.out) | (go_at_call 229;refine(iB B av fv c.mn0 q b.bs.length b.va nx lf p.k p.d w3 HC3.out HNX.out).mono ?_;rintro e w4 ⟨rfl,hg,hck⟩;rw[H2.out];have HG4:=zH (aH HG3.out hg);have HC4:=zH hck;clear hg hck hc0 hc1 hc2 hc3 hc4 hc5 hc6 hc7 hc8 hd0 hd1 hd2 hd3;obtain⟨hc0,hc1,hc2,hc3,hc4,hc5,hc6,hc7,hc8⟩:=HK9.out w4 HG4.out;obtain⟨hd0,hd1,hd2,hd3⟩:=HK4.out w4 HG4.out) | (clear G1;go_at_call 135;refine(fV B (refW p.k) p.r (CD.refN q b.bs.length p.k:Nat) w4 HRW.out (HC4.out.at _ (ph av fv c.mn0 q b.bs.length b.va _ lf p.k))).mono ?_;rintro e w5 ⟨rfl,e5⟩;rewrite [e5];clear e5;rw[H3.out]) | (clear G2;go_at_call 135;refine(fV B (altW p.k) p.a (CD.altN b.bs.length p.k:Nat) w4 HAW.out (HC4.out.at _ (ck_alt av fv c.mn0 q b.bs.length b.va _ lf p.k))).mono ?_;rintro e w5 ⟨rfl,e5⟩;rewrite [e5];clear e5;rw[H4.out]) | (go_at_call 230;refine(lR (n₀:=n₀) B av fv c q b.bs.length b.va _ lf p xa xc ya yc w4 HC4.out (HF2.out.below (aX HG4.out hn HN.out)) (Nat.le_trans HN.out HG4.out.size) HFL.out HSM.out (HR.out (of_decide_eq_true H3.out)) (HX2.out.below (aX HG4.out hn HN.out)) (HY2.out.below (aX HG4.out hn HN.out))).mono ?_;rintro e w6 ⟨rfl,hb6⟩;rw[H5.out];have HG6:=zH (aH HG4.out (bp (some B) hb6));have HC6:=zH (HC4.out.on hb6);clear hb6))
        go_ret
        exact⟨rfl,aH HG2.out HG6.out,fun _=>HC6.out⟩
  ·have e0:z=false:=by rw[HZ.out];exact CD.aD (fun h=>absurd h.1.2 k2)
   have HNO:=zH (show ¬CD.OpOk q c b p nx from fun h=>absurd h.1.2 k2)
   clear HZ
   subst e0
   unfold opA
   go_enter Tryz.func219,Tryz.ntmps219
   go_wp2_with fail
   go_ret
   exact⟨rfl,bp _ ((Below.refl _ _).alloc (Nat.le_refl _) _),fun h=>absurd h HNO.out⟩
 ·have e0:z=false:=by rw[HZ.out];exact CD.aD (fun h=>absurd h.1.1 k1)
  have HNO:=zH (show ¬CD.OpOk q c b p nx from fun h=>absurd h.1.1 k1)
  clear HZ
  subst e0
  unfold opA
  go_enter Tryz.func219,Tryz.ntmps219
  go_wp2_with fail
  go_ret
  exact⟨rfl,bp _ ((Below.refl _ _).alloc (Nat.le_refl _) _),fun h=>absurd h HNO.out⟩
end
end Go.Proofs.YtjngffgkllakaaaGreatDoor
