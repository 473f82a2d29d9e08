/- A part of a proof: laws that the last text uses. -/
import Derived.Test.YtjngffgkllakaaaGreatDoorY01
import Derived.Test.YtjngffgkllakaaaGreatDoorY03
import Derived.Test.YtjngffgkllakaaaGreatDoorY06
import Derived.Deep.RegionHeld3
import Derived.Deep.QuietTactic
import Derived.BigQuiet
import Derived.Deep.DrawnRows
import Derived.Deep.RegionLaw
import Derived.Deep.OwnRows
import Derived.Deep.LoopGhost
import Derived.StillTailTactics
import Derived.Lib.ItoaLen
import Derived.Lib.ParseIntBTie
import Derived.Lib.ParseIntBCases
import Derived.Lib.AtoiErrMem
import Derived.StringKeys
import Derived.Maps.AppendAt
import Derived.Sort.QuietIn
import Derived.Deep.RegionWith
import Derived.Lib.FieldsP
import Derived.Lib.Index
import Derived.Lib.SplitLaws
import Derived.Lib.FieldsU
import Derived.Lib.CountLaws
import Derived.Lib.TrimU
import Derived.Lib.IndexBytes
import Derived.Shelf.Strings.MapAny
import Derived.Deep.Cut
set_option linter.unusedSimpArgs false
set_option linter.unusedVariables false
namespace Go.Proofs.YtjngffgkllakaaaGreatDoor
open List renaming getElem_toArray → zA, getElem_cons_succ → zB, getElem_cons_zero → zC, setIfInBounds_toArray → zD, set_cons_zero → zE, set_cons_succ → zF
open Lib renaming hid → zH
section
open Go.RowKit
theorem au(s:ByteArray)(f k:Nat)(l:List UInt8)(hl:(wordW k).toList=l)(h:(s.toList == l)=false):dC s (f+1) k=dC s f (k+1):=by
 subst hl
 simp only[dC]
 rw[if_neg (by intro e;rw[beq_iff_eq] at e;rw[e] at h;simp at h)]
theorem aw(s:ByteArray)(f k:Nat)(l:List UInt8)(hl:(wordW k).toList=l)(h:(s.toList == l)=true):dC s (f+1) k=true:=by
 subst hl
 simp only[dC]
 rw[if_pos (by rw[beq_iff_eq] at h ⊢;exact h.symm)]
set_option maxRecDepth 100000 in
set_option maxHeartbeats 6400000 in
theorem word_any(s:ByteArray)(w:World) :
 Calls Tryz.prog 174 #[.string s] w fun e w'=>e=.returned (.bool (wordB s))/\w'=w:=by
 have HW:Hid (wordB s=dC s 26 0):=zH rfl
 cases h0:(s.toList == [97,114,114,97,121])
 rotate_left
 ·have HV:=zH (HW.out.trans (aw s 25 0 _ (by rw[ByteArray.toList_eq];rfl) h0))
  clear HW
  go_enter Tryz.func174,Tryz.ntmps174
  go_wp2_with fail
  go_ret
  exact⟨af HV.out.symm,rfl⟩
 replace HW:=zH (HW.out.trans (au s 25 0 _ (by rw[ByteArray.toList_eq];rfl) h0))
 cases h1:(s.toList == [102,110])
 rotate_left
 ·have HV:=zH (HW.out.trans (aw s 24 1 _ (by rw[ByteArray.toList_eq];rfl) h1))
  clear HW
  go_enter Tryz.func174,Tryz.ntmps174
  go_wp2_with fail
  go_ret
  exact⟨af HV.out.symm,rfl⟩
 replace HW:=zH (HW.out.trans (au s 24 1 _ (by rw[ByteArray.toList_eq];rfl) h1))
 cases h2:(s.toList == [99,111,110,115,116])
 rotate_left
 ·have HV:=zH (HW.out.trans (aw s 23 2 _ (by rw[ByteArray.toList_eq];rfl) h2))
  clear HW
  go_enter Tryz.func174,Tryz.ntmps174
  go_wp2_with fail
  go_ret
  exact⟨af HV.out.symm,rfl⟩
 replace HW:=zH (HW.out.trans (au s 23 2 _ (by rw[ByteArray.toList_eq];rfl) h2))
 cases h3:(s.toList == [112,104,105])
 rotate_left
 ·have HV:=zH (HW.out.trans (aw s 22 3 _ (by rw[ByteArray.toList_eq];rfl) h3))
  clear HW
  go_enter Tryz.func174,Tryz.ntmps174
  go_wp2_with fail
  go_ret
  exact⟨af HV.out.symm,rfl⟩
 replace HW:=zH (HW.out.trans (au s 22 3 _ (by rw[ByteArray.toList_eq];rfl) h3))
 cases h4:(s.toList == [108,111,97,100])
 rotate_left
 ·have HV:=zH (HW.out.trans (aw s 21 4 _ (by rw[ByteArray.toList_eq];rfl) h4))
  clear HW
  go_enter Tryz.func174,Tryz.ntmps174
  go_wp2_with fail
  go_ret
  exact⟨af HV.out.symm,rfl⟩
 replace HW:=zH (HW.out.trans (au s 21 4 _ (by rw[ByteArray.toList_eq];rfl) h4))
 cases h5:(s.toList == [119,114,97,112])
 rotate_left
 ·have HV:=zH (HW.out.trans (aw s 20 5 _ (by rw[ByteArray.toList_eq];rfl) h5))
  clear HW
  go_enter Tryz.func174,Tryz.ntmps174
  go_wp2_with fail
  go_ret
  exact⟨af HV.out.symm,rfl⟩
 replace HW:=zH (HW.out.trans (au s 20 5 _ (by rw[ByteArray.toList_eq];rfl) h5))
 cases h6:(s.toList == [115,116,111,114,101])
 rotate_left
 ·have HV:=zH (HW.out.trans (aw s 19 6 _ (by rw[ByteArray.toList_eq];rfl) h6))
  clear HW
  go_enter Tryz.func174,Tryz.ntmps174
  go_wp2_with fail
  go_ret
  exact⟨af HV.out.symm,rfl⟩
 replace HW:=zH (HW.out.trans (au s 19 6 _ (by rw[ByteArray.toList_eq];rfl) h6))
 cases h7:(s.toList == [99,97,108,108])
 rotate_left
 ·have HV:=zH (HW.out.trans (aw s 18 7 _ (by rw[ByteArray.toList_eq];rfl) h7))
  clear HW
  go_enter Tryz.func174,Tryz.ntmps174
  go_wp2_with fail
  go_ret
  exact⟨af HV.out.symm,rfl⟩
 replace HW:=zH (HW.out.trans (au s 18 7 _ (by rw[ByteArray.toList_eq];rfl) h7))
 cases h8:(s.toList == [105,110,112,117,116])
 rotate_left
 ·have HV:=zH (HW.out.trans (aw s 17 8 _ (by rw[ByteArray.toList_eq];rfl) h8))
  clear HW
  go_enter Tryz.func174,Tryz.ntmps174
  go_wp2_with fail
  go_ret
  exact⟨af HV.out.symm,rfl⟩
 replace HW:=zH (HW.out.trans (au s 17 8 _ (by rw[ByteArray.toList_eq];rfl) h8))
 cases h9:(s.toList == [111,117,116,112,117,116])
 rotate_left
 ·have HV:=zH (HW.out.trans (aw s 16 9 _ (by rw[ByteArray.toList_eq];rfl) h9))
  clear HW
  go_enter Tryz.func174,Tryz.ntmps174
  go_wp2_with fail
  go_ret
  exact⟨af HV.out.symm,rfl⟩
 replace HW:=zH (HW.out.trans (au s 16 9 _ (by rw[ByteArray.toList_eq];rfl) h9))
 cases h10:(s.toList == [114,101,108,101,97,115,101])
 rotate_left
 ·have HV:=zH (HW.out.trans (aw s 15 10 _ (by rw[ByteArray.toList_eq];rfl) h10))
  clear HW
  go_enter Tryz.func174,Tryz.ntmps174
  go_wp2_with fail
  go_ret
  exact⟨af HV.out.symm,rfl⟩
 replace HW:=zH (HW.out.trans (au s 15 10 _ (by rw[ByteArray.toList_eq];rfl) h10))
 cases h11:(s.toList == [106,117,109,112])
 rotate_left
 ·have HV:=zH (HW.out.trans (aw s 14 11 _ (by rw[ByteArray.toList_eq];rfl) h11))
  clear HW
  go_enter Tryz.func174,Tryz.ntmps174
  go_wp2_with fail
  go_ret
  exact⟨af HV.out.symm,rfl⟩
 replace HW:=zH (HW.out.trans (au s 14 11 _ (by rw[ByteArray.toList_eq];rfl) h11))
 cases h12:(s.toList == [98,114,97,110,99,104])
 rotate_left
 ·have HV:=zH (HW.out.trans (aw s 13 12 _ (by rw[ByteArray.toList_eq];rfl) h12))
  clear HW
  go_enter Tryz.func174,Tryz.ntmps174
  go_wp2_with fail
  go_ret
  exact⟨af HV.out.symm,rfl⟩
 replace HW:=zH (HW.out.trans (au s 13 12 _ (by rw[ByteArray.toList_eq];rfl) h12))
 cases h13:(s.toList == [114,101,116,117,114,110])
 rotate_left
 ·have HV:=zH (HW.out.trans (aw s 12 13 _ (by rw[ByteArray.toList_eq];rfl) h13))
  clear HW
  go_enter Tryz.func174,Tryz.ntmps174
  go_wp2_with fail
  go_ret
  exact⟨af HV.out.symm,rfl⟩
 replace HW:=zH (HW.out.trans (au s 12 13 _ (by rw[ByteArray.toList_eq];rfl) h13))
 cases h14:(s.toList == [97,100,100])
 rotate_left
 ·have HV:=zH (HW.out.trans (aw s 11 14 _ (by rw[ByteArray.toList_eq];rfl) h14))
  clear HW
  go_enter Tryz.func174,Tryz.ntmps174
  go_wp2_with fail
  go_ret
  exact⟨af HV.out.symm,rfl⟩
 replace HW:=zH (HW.out.trans (au s 11 14 _ (by rw[ByteArray.toList_eq];rfl) h14))
 cases h15:(s.toList == [115,117,98])
 rotate_left
 ·have HV:=zH (HW.out.trans (aw s 10 15 _ (by rw[ByteArray.toList_eq];rfl) h15))
  clear HW
  go_enter Tryz.func174,Tryz.ntmps174
  go_wp2_with fail
  go_ret
  exact⟨af HV.out.symm,rfl⟩
 replace HW:=zH (HW.out.trans (au s 10 15 _ (by rw[ByteArray.toList_eq];rfl) h15))
 cases h16:(s.toList == [109,117,108])
 rotate_left
 ·have HV:=zH (HW.out.trans (aw s 9 16 _ (by rw[ByteArray.toList_eq];rfl) h16))
  clear HW
  go_enter Tryz.func174,Tryz.ntmps174
  go_wp2_with fail
  go_ret
  exact⟨af HV.out.symm,rfl⟩
 replace HW:=zH (HW.out.trans (au s 9 16 _ (by rw[ByteArray.toList_eq];rfl) h16))
 cases h17:(s.toList == [100,105,118])
 rotate_left
 ·have HV:=zH (HW.out.trans (aw s 8 17 _ (by rw[ByteArray.toList_eq];rfl) h17))
  clear HW
  go_enter Tryz.func174,Tryz.ntmps174
  go_wp2_with fail
  go_ret
  exact⟨af HV.out.symm,rfl⟩
 replace HW:=zH (HW.out.trans (au s 8 17 _ (by rw[ByteArray.toList_eq];rfl) h17))
 cases h18:(s.toList == [109,111,100])
 rotate_left
 ·have HV:=zH (HW.out.trans (aw s 7 18 _ (by rw[ByteArray.toList_eq];rfl) h18))
  clear HW
  go_enter Tryz.func174,Tryz.ntmps174
  go_wp2_with fail
  go_ret
  exact⟨af HV.out.symm,rfl⟩
 replace HW:=zH (HW.out.trans (au s 7 18 _ (by rw[ByteArray.toList_eq];rfl) h18))
 cases h19:(s.toList == [97,110,100])
 rotate_left
 ·have HV:=zH (HW.out.trans (aw s 6 19 _ (by rw[ByteArray.toList_eq];rfl) h19))
  clear HW
  go_enter Tryz.func174,Tryz.ntmps174
  go_wp2_with fail
  go_ret
  exact⟨af HV.out.symm,rfl⟩
 replace HW:=zH (HW.out.trans (au s 6 19 _ (by rw[ByteArray.toList_eq];rfl) h19))
 cases h20:(s.toList == [111,114])
 rotate_left
 ·have HV:=zH (HW.out.trans (aw s 5 20 _ (by rw[ByteArray.toList_eq];rfl) h20))
  clear HW
  go_enter Tryz.func174,Tryz.ntmps174
  go_wp2_with fail
  go_ret
  exact⟨af HV.out.symm,rfl⟩
 replace HW:=zH (HW.out.trans (au s 5 20 _ (by rw[ByteArray.toList_eq];rfl) h20))
 cases h21:(s.toList == [120,111,114])
 rotate_left
 ·have HV:=zH (HW.out.trans (aw s 4 21 _ (by rw[ByteArray.toList_eq];rfl) h21))
  clear HW
  go_enter Tryz.func174,Tryz.ntmps174
  go_wp2_with fail
  go_ret
  exact⟨af HV.out.symm,rfl⟩
 replace HW:=zH (HW.out.trans (au s 4 21 _ (by rw[ByteArray.toList_eq];rfl) h21))
 cases h22:(s.toList == [115,104,108])
 rotate_left
 ·have HV:=zH (HW.out.trans (aw s 3 22 _ (by rw[ByteArray.toList_eq];rfl) h22))
  clear HW
  go_enter Tryz.func174,Tryz.ntmps174
  go_wp2_with fail
  go_ret
  exact⟨af HV.out.symm,rfl⟩
 replace HW:=zH (HW.out.trans (au s 3 22 _ (by rw[ByteArray.toList_eq];rfl) h22))
 cases h23:(s.toList == [115,104,114])
 rotate_left
 ·have HV:=zH (HW.out.trans (aw s 2 23 _ (by rw[ByteArray.toList_eq];rfl) h23))
  clear HW
  go_enter Tryz.func174,Tryz.ntmps174
  go_wp2_with fail
  go_ret
  exact⟨af HV.out.symm,rfl⟩
 replace HW:=zH (HW.out.trans (au s 2 23 _ (by rw[ByteArray.toList_eq];rfl) h23))
 cases h24:(s.toList == [101,113])
 rotate_left
 ·have HV:=zH (HW.out.trans (aw s 1 24 _ (by rw[ByteArray.toList_eq];rfl) h24))
  clear HW
  go_enter Tryz.func174,Tryz.ntmps174
  go_wp2_with fail
  go_ret
  exact⟨af HV.out.symm,rfl⟩
 replace HW:=zH (HW.out.trans (au s 1 24 _ (by rw[ByteArray.toList_eq];rfl) h24))
 cases h25:(s.toList == [108,101,115,115])
 rotate_left
 ·have HV:=zH (HW.out.trans (aw s 0 25 _ (by rw[ByteArray.toList_eq];rfl) h25))
  clear HW
  go_enter Tryz.func174,Tryz.ntmps174
  go_wp2_with fail
  go_ret
  exact⟨af HV.out.symm,rfl⟩
 replace HW:=zH (HW.out.trans (au s 0 25 _ (by rw[ByteArray.toList_eq];rfl) h25))
 go_enter Tryz.func174,Tryz.ntmps174
 go_wp2_with fail
 go_ret
 exact⟨af HW.out.symm,rfl⟩
def dH(s:ByteArray):Bool:=fy s && !wordB s
set_option maxRecDepth 100000 in
set_option maxHeartbeats 1600000 in
theorem iK(s:ByteArray)(w:World)(hs:s.size<=562949953421312) :
 Calls Tryz.prog 122 #[.string s] w fun e w'=>e=.returned (.bool (dH s))/\Below w.heap.size w w':=by
 cases hn:fy s
 ·have HN:=zH (show dH s=false by unfold dH;rw[hn];rfl)
  go_enter Tryz.func122,Tryz.ntmps122
  go_wp2_with (first
   | (go_at_call 173;refine(pJ s _ hs).mono ?_;rintro e w' ⟨rfl,hb⟩;rw[hn]))
  go_ret
  exact⟨af HN.out.symm,hb⟩
 ·have HN:=zH (show dH s = !wordB s by unfold dH;rw[hn];rfl)
  go_enter Tryz.func122,Tryz.ntmps122
  go_wp2_with (first
   | (go_at_call 173;refine(pJ s _ hs).mono ?_;rintro e w' ⟨rfl,hb⟩;rw[hn])
   | (go_at_call 174;refine(word_any s _).mono ?_;rintro e w' ⟨rfl,rfl⟩))
  go_ret
  exact⟨af HN.out.symm,hb⟩
set_option maxRecDepth 100000 in
set_option maxHeartbeats 1600000 in
theorem lm(v:Value)(ss:List ByteArray)(s:ByteArray)(n:Nat)(w:World)(hv:Strs n w v ss)(hx:ss.length<=9223372036854775807) :
 Calls Tryz.prog 123 #[v,.string s] w fun e w'=>e=.returned (.bool (decide (0<=cB ss s)))/\w'=w:=by
 have HV:=zH hv
 clear hv
 go_enter Tryz.func123,Tryz.ntmps123
 go_wp2_with (go_at_call 175;refine(index_q v ss s n _ HV.out hx).mono ?_;rintro e w' ⟨rfl,rfl⟩)
 go_ret
 exact⟨rfl,rfl⟩
end
section
open Go.RowKit
def wd6(ws:List ByteArray)(k:Nat):ByteArray:=ws[k]?.getD ⟨#[]⟩
theorem ib{w W:World}{o:Obj}{n:Nat}(hW:W.heap=w.heap)(hn:w.heap.size=n):(W.alloc o).heap[n]?=some o:=by
 subst hn
 show (W.heap.push o)[w.heap.size]?=_
 rw[hW];simp
def levelP(st:PSt)(ws:List ByteArray):PSt × Int :=
 if ws.length≠2 then (st,8) else if dH (wd6 ws 1)=false then (st,8) else if 0<=cB st.L (wd6 ws 1) then (st,9) else if st.L.length=64 then (st,3) else ({ st with L:=st.L ++ [wd6 ws 1] },0)
end
end Go.Proofs.YtjngffgkllakaaaGreatDoor
namespace Go.Proofs.YtjngffgkllakaaaGreatDoor.LL
open List renaming getElem_toArray → zA, getElem_cons_succ → zB, getElem_cons_zero → zC, setIfInBounds_toArray → zD, set_cons_zero → zE, set_cons_succ → zF
open Lib renaming hid → zH
section
def ab(xs:List Int)(i k:Nat):Bool:=MM.hasB (xs[i]?.getD 0) (k:Int)
def ordAt(xs:List Int)(i k:Nat):Bool :=
 !ab xs i k || (decide (k<xs.length) && ((k == i || !ab xs k i) && (bits .or .u64 (xs[k]?.getD 0) (xs[i]?.getD 0) == xs[i]?.getD 0)))
def iL(xs:List Int)(i:Nat):Bool:=ab xs i i && (List.range 64).all (ordAt xs i)
def ordB(xs:List Int):Bool:=decide (1<=xs.length/\xs.length<=64) && (List.range xs.length).all (iL xs)
def joinAt(xs:List Int)(a b k m:Nat):Bool:=!ab xs a m || (!ab xs b m || ab xs k m)
def ln(xs:List Int)(a b k:Nat):Bool:=ab xs a k && (ab xs b k && (List.range xs.length).all (joinAt xs a b k))
def meetAt(xs:List Int)(a b k m:Nat):Bool:=!ab xs m a || (!ab xs m b || ab xs m k)
def lp(xs:List Int)(a b k:Nat):Bool:=ab xs k a && (ab xs k b && (List.range xs.length).all (meetAt xs a b k))
def jk(xs:List Int)(k:Nat):Bool:=(List.range xs.length).all (fun m=>ab xs k m)
def cp(n:Nat)(p:Nat->Bool):Int:=match (List.range n).find? p with | some k=>(k:Int) | none=>-1
def dD(xs:List Int)(a b:Nat):Int:=cp xs.length (ln xs a b)
def meetI(xs:List Int)(a b:Nat):Int:=cp xs.length (lp xs a b)
def endI(xs:List Int):Int:=cp xs.length (jk xs)
def pairB(xs:List Int)(a b:Nat):Bool:=decide (0<=dD xs a b) && decide (0<=meetI xs a b)
def bL(xs:List Int):Bool:=ordB xs && (List.range xs.length).all (fun a=>(List.range a).all (pairB xs a))
theorem all_no{n:Nat}{p:Nat->Bool}{i:Nat}(hi:i<n)(h:p i=false):(List.range n).all p=false:=by
 rw[Bool.eq_false_iff]
 intro ha
 rw[List.all_eq_true] at ha
 rw[ha i (List.mem_range.2 hi)] at h
 cases h
theorem all_yes{n:Nat}{p:Nat->Bool}(h:∀j,j<n->p j=true):(List.range n).all p=true :=
 List.all_eq_true.2 fun j hj=>h j (List.mem_range.1 hj)
theorem iM{n:Nat}{p:Nat->Bool}{k:Nat}(hk:k<n)(hp:p k=true)(hno:∀j,j<k->p j=false):cp n p=(k:Int):=by
 have e:(List.range n).find? p=some k:=by
  rw[List.find?_eq_some_iff_append]
  refine⟨hp,List.range k,(List.range' (k+1) (n-k-1)),?_,fun j hj=>by rw[hno j (List.mem_range.1 hj)];rfl⟩
  rw[List.range_eq_range',List.range_eq_range',show n=k+(n-k-1+1) by omega,<-List.range'_append_1,List.range'_succ]
  simp
 unfold cp;rw[e]
theorem kg{n:Nat}{p:Nat->Bool}(hno:∀j,j<n->p j=false):cp n p = -1:=by
 have e:(List.range n).find? p=none:=by
  rw[List.find?_eq_none]
  intro j hj h
  rw[hno j (List.mem_range.1 hj)] at h
  cases h
 unfold cp;rw[e]
theorem firstI_bd(n:Nat)(p:Nat->Bool):-1<=cp n p/\cp n p<n:=by
 unfold cp
 split
 ·rename_i k h
  have:=List.mem_range.1 (List.mem_of_find?_eq_some h)
  omega
 ·omega
theorem ie{n:Nat}{p:Nat->Bool}(h:0<=cp n p):∃k:Nat,cp n p=(k:Int)/\k<n/\p k=true:=by
 unfold cp at *
 split at h
 ·rename_i k e
  exact⟨k,rfl,List.mem_range.1 (List.mem_of_find?_eq_some e),by simpa using List.find?_some e⟩
 ·omega
theorem lq{n:Nat}{p:Nat->Bool}(h:∀j,j<n->p j=true)(hn:p n=true):∀j,j<n+1->p j=true:=by
 intro j hj
 by_cases e:j=n
 ·subst e;exact hn
 ·exact h j (by omega)
theorem none_step{n:Nat}{p:Nat->Bool}(h:∀j,j<n->p j=false)(hn:p n=false):∀j,j<n+1->p j=false:=by
 intro j hj
 by_cases e:j=n
 ·subst e;exact hn
 ·exact h j (by omega)
end
end Go.Proofs.YtjngffgkllakaaaGreatDoor.LL
namespace Go.Proofs.YtjngffgkllakaaaGreatDoor
open List renaming getElem_toArray → zA, getElem_cons_succ → zB, getElem_cons_zero → zC, setIfInBounds_toArray → zD, set_cons_zero → zE, set_cons_succ → zF
open Lib renaming hid → zH
section
open Go.RowKit
def Wide(xs:List Int):Prop:=∀x∈xs,0<=x/\x<=18446744073709551615
theorem Wide.at{xs:List Int}(h:Wide xs)(i:Nat):0<=xs[i]?.getD 0/\xs[i]?.getD 0<=18446744073709551615:=by
 cases e:xs[i]? with
 | none=>simp
 | some x=>exact h x (List.mem_of_getElem? e)
end
section
open Go.RowKit
end
section
open Go.RowKit
end
section
open Go.RowKit
end
end Go.Proofs.YtjngffgkllakaaaGreatDoor
namespace Go.Proofs.YtjngffgkllakaaaGreatDoor.LL
open List renaming getElem_toArray → zA, getElem_cons_succ → zB, getElem_cons_zero → zC, setIfInBounds_toArray → zD, set_cons_zero → zE, set_cons_succ → zF
open Lib renaming hid → zH
section
inductive Reach (ps:List (Nat × Nat)) (i:Nat):Nat->Prop where
 | refl:Reach ps i i
 | tail {k m:Nat} (h:Reach ps i k) (hp:(k,m)∈ps):Reach ps i m
theorem Reach.trans{ps:List (Nat × Nat)}{i k m:Nat}(h:Reach ps i k)(g:Reach ps k m):Reach ps i m:=by
 induction g with
 | refl=>exact h
 | tail _ hp ih=>exact ih.tail hp
theorem Reach.one{ps:List (Nat × Nat)}{k m:Nat}(hp:(k,m)∈ps):Reach ps k m:=Reach.refl.tail hp
theorem or_nat(x y:Int)(x0:0<=x)(x1:x<=18446744073709551615)(y0:0<=y)(y1:y<=18446744073709551615):bits .or .u64 x y=((x.toNat ||| y.toNat:Nat):Int):=by
 obtain⟨a,rfl⟩:∃a:Nat,x=a:=⟨x.toNat,by omega⟩
 obtain⟨b,rfl⟩:∃b:Nat,y=b:=⟨y.toNat,by omega⟩
 rw[u64_or_nat _ _ (by omega) (by omega)]
 simp
theorem or_has(x y:Int)(k:Nat)(x0:0<=x)(x1:x<=18446744073709551615)(y0:0<=y)(y1:y<=18446744073709551615):MM.hasB (bits .or .u64 x y) k=(MM.hasB x k || MM.hasB y k):=by
 rw[or_nat x y x0 x1 y0 y1]
 unfold MM.hasB
 rw[Int.toNat_natCast,Nat.testBit_or]
 cases decide (0<=(k:Int)/\(k:Int)<64) <;> simp
theorem or_bd5(x y:Int)(x0:0<=x)(x1:x<=18446744073709551615)(y0:0<=y)(y1:y<=18446744073709551615):0<=bits .or .u64 x y/\bits .or .u64 x y<=18446744073709551615:=by
 rw[or_nat x y x0 x1 y0 y1]
 have:x.toNat ||| y.toNat<2 ^ 64:=Nat.or_lt_two_pow (by omega) (by omega)
 omega
theorem lr(x y:Int)(x0:0<=x)(x1:x<=18446744073709551615)(y0:0<=y)(y1:y<=18446744073709551615)(h:∀k:Nat,MM.hasB x k=MM.hasB y k):x=y:=by
 have e:x.toNat=y.toNat:=by
  apply Nat.eq_of_testBit_eq
  intro j
  by_cases hj:j<64
  ·have:=h j
   unfold MM.hasB at this
   rw[decide_eq_true (show 0<=(j:Int)/\(j:Int)<64 by omega),Bool.true_and,Bool.true_and,Int.toNat_natCast] at this
   exact this
  ·have hp:(2:Nat) ^ 64<=2 ^ j:=Nat.pow_le_pow_right (by decide) (by omega)
   have h64:(2:Nat) ^ 64=18446744073709551616:=by decide
   rw[Nat.testBit_lt_two_pow (Nat.lt_of_lt_of_le (show x.toNat<2 ^ 64 by omega) hp),Nat.testBit_lt_two_pow (Nat.lt_of_lt_of_le (show y.toNat<2 ^ 64 by omega) hp)]
 omega
def Inv(n:Nat)(ps:List (Nat × Nat))(S:List Int):Prop:=S.length=n/\Wide S/\∀i k,i<n->ab S i k=true->k<n/\Reach ps i k
def closedAt(S:List Int)(i k:Nat):Bool:=!ab S i k || (bits .or .u64 (S[i]?.getD 0) (S[k]?.getD 0) == S[i]?.getD 0)
def Closed(n:Nat)(S:List Int):Prop:=∀i,i<n->∀k,k<n->closedAt S i k=true
def far:List Int->Nat
 | []=>0
 | x :: l=>(18446744073709551615-x).toNat+far l
end
section
def st(xs:List Int)(a b:Nat):Bool:=a != b && ab xs a b
def cnt(xs:List Int)(a:Nat):Nat:=((List.range xs.length).filter (ab xs a)).length
theorem jl{xs:List Int}(h:ordB xs=true){i:Nat}(hi:i<xs.length):ab xs i i=true:=by
 unfold ordB at h
 rw[Bool.and_eq_true,List.all_eq_true] at h
 have:=h.2 i (List.mem_range.2 hi)
 unfold iL at this
 rw[Bool.and_eq_true] at this
 exact this.1
theorem gE{xs:List Int}(h:ordB xs=true){i k:Nat}(hi:i<xs.length)(hk:ab xs i k=true) :
 k<xs.length/\(k=i∨ab xs k i=false)/\(bits .or .u64 (xs[k]?.getD 0) (xs[i]?.getD 0) == xs[i]?.getD 0)=true:=by
 have hk64:k<64:=by
  unfold ab MM.hasB at hk
  rw[Bool.and_eq_true,decide_eq_true_eq] at hk
  omega
 unfold ordB at h
 rw[Bool.and_eq_true,List.all_eq_true] at h
 have:=h.2 i (List.mem_range.2 hi)
 unfold iL at this
 rw[Bool.and_eq_true,List.all_eq_true] at this
 have:=this.2 k (List.mem_range.2 hk64)
 unfold ordAt at this
 rw[hk] at this
 simp only[Bool.not_true,Bool.false_or,Bool.and_eq_true,decide_eq_true_eq,Bool.or_eq_true,beq_iff_eq,Bool.not_eq_true'] at this
 exact⟨this.1,this.2.1,by rw[beq_iff_eq];exact this.2.2⟩
theorem fR{xs:List Int}(h:ordB xs=true):1<=xs.length/\xs.length<=64:=by
 unfold ordB at h
 rw[Bool.and_eq_true,decide_eq_true_eq] at h
 exact h.1
theorem fA{xs:List Int}(h:ordB xs=true)(hw:Wide xs){i k m:Nat}(hi:i<xs.length)(hk:ab xs i k=true)(hm:ab xs k m=true):ab xs i m=true:=by
 have e:=(gE h hi hk).2.2
 rw[beq_iff_eq] at e
 have h4:=or_has (xs[k]?.getD 0) (xs[i]?.getD 0) m (hw.at k).1 (hw.at k).2 (hw.at i).1 (hw.at i).2
 rw[e] at h4
 unfold ab at *
 rw[h4,hm,Bool.true_or]
theorem cnt_le(xs:List Int)(a:Nat):cnt xs a<=xs.length:=by
 unfold cnt;exact Nat.le_trans (List.length_filter_le _ _) (by simp)
end
section
theorem fB{xs:List Int}(h:bL xs=true):ordB xs=true:=by
 unfold bL at h;rw[Bool.and_eq_true] at h;exact h.1
theorem lu{xs:List Int}(h:bL xs=true){a:Nat}(ha:a<xs.length):ab xs a a=true:=jl (fB h) ha
theorem le_anti{xs:List Int}(h:bL xs=true){a b:Nat}(ha:a<xs.length)(h1:ab xs a b=true)(h2:ab xs b a=true):a=b:=by
 rcases (gE (fB h) ha h1).2.1 with e | e
 ·exact e.symm
 ·rw[h2] at e;cases e
theorem le_trans5{xs:List Int}(h:bL xs=true)(hw:Wide xs){a b c:Nat}(ha:a<xs.length)(h1:ab xs a b=true)(h2:ab xs b c=true):ab xs a c=true:=fA (fB h) hw ha h1 h2
def IsJ(xs:List Int)(a b j:Nat):Prop:=j<xs.length/\ab xs a j=true/\ab xs b j=true/\∀m,m<xs.length->ab xs a m=true->ab xs b m=true->ab xs j m=true
def IsM(xs:List Int)(a b j:Nat):Prop:=j<xs.length/\ab xs j a=true/\ab xs j b=true/\∀m,m<xs.length->ab xs m a=true->ab xs m b=true->ab xs m j=true
theorem eF{xs:List Int}{a b j:Nat}(hj:j<xs.length):ln xs a b j=true↔IsJ xs a b j:=by
 unfold ln IsJ joinAt
 simp only[Bool.and_eq_true,List.all_eq_true,List.mem_range,Bool.or_eq_true,Bool.not_eq_true']
 constructor
 ·rintro ⟨h1,h2,h3⟩
  refine⟨hj,h1,h2,fun m hm e1 e2=>?_⟩
  rcases h3 m hm with h | h | h
  ·rw[e1] at h;cases h
  ·rw[e2] at h;cases h
  ·exact h
 ·rintro ⟨_,h1,h2,h3⟩
  refine⟨h1,h2,fun m hm=>?_⟩
  cases e1:ab xs a m
  ·exact .inl rfl
  ·cases e2:ab xs b m
   ·exact .inr (.inl rfl)
   ·exact .inr (.inr (h3 m hm e1 e2))
theorem lw{xs:List Int}{a b j:Nat}(hj:j<xs.length):lp xs a b j=true↔IsM xs a b j:=by
 unfold lp IsM meetAt
 simp only[Bool.and_eq_true,List.all_eq_true,List.mem_range,Bool.or_eq_true,Bool.not_eq_true']
 constructor
 ·rintro ⟨h1,h2,h3⟩
  refine⟨hj,h1,h2,fun m hm e1 e2=>?_⟩
  rcases h3 m hm with h | h | h
  ·rw[e1] at h;cases h
  ·rw[e2] at h;cases h
  ·exact h
 ·rintro ⟨_,h1,h2,h3⟩
  refine⟨h1,h2,fun m hm=>?_⟩
  cases e1:ab xs m a
  ·exact .inl rfl
  ·cases e2:ab xs m b
   ·exact .inr (.inl rfl)
   ·exact .inr (.inr (h3 m hm e1 e2))
theorem IsJ.symm{xs:List Int}{a b j:Nat}(h:IsJ xs a b j):IsJ xs b a j:=⟨h.1,h.2.2.1,h.2.1,fun m hm e1 e2=>h.2.2.2 m hm e2 e1⟩
theorem IsM.symm{xs:List Int}{a b j:Nat}(h:IsM xs a b j):IsM xs b a j:=⟨h.1,h.2.2.1,h.2.1,fun m hm e1 e2=>h.2.2.2 m hm e2 e1⟩
theorem pair_at{xs:List Int}(h:bL xs=true){a b:Nat}(ha:a<xs.length)(hb:b<a):pairB xs a b=true:=by
 unfold bL at h
 rw[Bool.and_eq_true,List.all_eq_true] at h
 have:=h.2 a (List.mem_range.2 ha)
 rw[List.all_eq_true] at this
 exact this b (List.mem_range.2 hb)
theorem ex_meet{xs:List Int}(h:bL xs=true){a b:Nat}(ha:a<xs.length)(hb:b<xs.length):∃j,IsM xs a b j:=by
 have key:∀a b,a<xs.length->b<a->∃j,IsM xs a b j:=by
  intro a b ha hb
  have hp:=pair_at h ha hb
  unfold pairB at hp
  rw[Bool.and_eq_true,decide_eq_true_eq,decide_eq_true_eq] at hp
  obtain⟨j,_,hj,hi⟩:=ie hp.2
  exact⟨j,(lw hj).1 hi⟩
 rcases Nat.lt_trichotomy a b with e | e | e
 ·obtain⟨j,hj⟩:=key b a hb e;exact⟨j,hj.symm⟩
 ·subst e;exact⟨a,ha,lu h ha,lu h ha,fun m _ e1 _=>e1⟩
 ·exact key a b ha e
section
variable {xs:List Int} (h:bL xs=true) (hw:Wide xs) {a b c:Nat} (ha:a<xs.length) (hb:b<xs.length) (hc:c<xs.length)
include h ha hb
end
theorem ex_end{xs:List Int}(h:bL xs=true)(hw:Wide xs):∃k,k<xs.length/\∀m,m<xs.length->ab xs k m=true:=by
 have hl:=(fR (fB h)).1
 have key:∀i,i<xs.length->∃k,k<xs.length/\∀m,m<=i->ab xs k m=true:=by
  intro i
  induction i with
  | zero=>intro hi;exact⟨0,hi,fun m hm=>by obtain rfl:m=0:=(by omega);exact lu h hi⟩
  | succ i ih =>
    intro hi
    obtain⟨k,hk,hall⟩:=ih (by omega)
    obtain⟨j,hj⟩:=ex_meet h hk hi
    refine⟨j,hj.1,fun m hm=>?_⟩
    by_cases e:m=i+1
    ·subst e;exact hj.2.2.1
    ·exact le_trans5 h hw hj.1 hj.2.1 (hall m (by omega))
 obtain⟨k,hk,hall⟩:=key (xs.length-1) (by omega)
 exact⟨k,hk,fun m hm=>hall m (by omega)⟩
theorem rC{n:Nat}{p:Nat->Bool}{k:Nat}(hk:k<n)(hp:p k=true)(h1:∀j,j<n->p j=true->j=k):cp n p=(k:Int) :=
 iM hk hp fun j hj=>by
  cases e:p j
  ·rfl
  ·have:=h1 j (by omega) e;omega
theorem endI_is{xs:List Int}(h:bL xs=true){k:Nat}(hk:k<xs.length)(ha:∀m,m<xs.length->ab xs k m=true):endI xs=(k:Int) :=
 rC hk (by unfold jk;exact all_yes ha) fun j hj e=>by
  unfold jk at e
  rw[List.all_eq_true] at e
  exact le_anti h hj (e k (List.mem_range.2 hk)) (ha j hj)
end
end Go.Proofs.YtjngffgkllakaaaGreatDoor.LL
namespace Go.Proofs.YtjngffgkllakaaaGreatDoor
open List renaming getElem_toArray → zA, getElem_cons_succ → zB, getElem_cons_zero → zC, setIfInBounds_toArray → zD, set_cons_zero → zE, set_cons_succ → zF
open Lib renaming hid → zH
section
open Go.RowKit
namespace LL
def coverAt(xs:List Int)(a b m:Nat):Bool:=m == a || (m == b || (!ab xs a m || !ab xs m b))
def isCover(xs:List Int)(a b:Nat):Bool:=(a != b && ab xs a b) && (List.range xs.length).all (coverAt xs a b)
end LL
end
end Go.Proofs.YtjngffgkllakaaaGreatDoor
namespace Go.Proofs.YtjngffgkllakaaaGreatDoor.LL
open List renaming getElem_toArray → zA, getElem_cons_succ → zB, getElem_cons_zero → zC, setIfInBounds_toArray → zD, set_cons_zero → zE, set_cons_succ → zF
open Lib renaming hid → zH
section
end
end Go.Proofs.YtjngffgkllakaaaGreatDoor.LL
namespace Go.Proofs.YtjngffgkllakaaaGreatDoor
open List renaming getElem_toArray → zA, getElem_cons_succ → zB, getElem_cons_zero → zC, setIfInBounds_toArray → zD, set_cons_zero → zE, set_cons_succ → zF
open Lib renaming hid → zH
section
open Go.RowKit
end
section
open Go.RowKit
end
section
open Go.RowKit
end
section
open Go.RowKit
abbrev big5:Nat:=17592186044416
end
section
open Go.RowKit
section
variable {v:Value} {xs:List Int} {w W:World} {a b:Nat}
end
end
section
open Go.RowKit
def bO(ss:List ByteArray):Nat->Nat->Bool
 | 0,_=>true
 | f+1,k=>if dH (wd6 ss k)=false then false else if 0<=cB (ss.take k) (wd6 ss k) then false else bO ss f (k+1)
def gF(ss:List ByteArray):Bool:=bO ss ss.length 0
def mK(n:Int)(cs:List (ByteArray × Int)):Bool:=cs.all fun c=>decide (0<=c.2) && decide (c.2<n)
def cT(n:Int)(cs:List (ByteArray × Int)):Bool:=decide (cs.length<=32) && mK n cs && gF (cs.map (·.1))
def aS(st:PSt)(S:List Int):Bool :=
 decide (1<=st.D/\st.D<=64) && decide (S.length=st.L.length) && LL.bL S && gF st.L && cT st.L.length st.I && cT st.L.length st.O
end
section
open Go.RowKit Go.Sort Go.Shelf
def num(n:Int):ByteArray:=⟨(Lib.itoa n).toArray⟩
end
section
open Go.RowKit
end
section
open Go.RowKit
end
section
open Go.RowKit
theorem gG{w W:World}{v:Value}{cs:List (ByteArray × Int)}(h:dM w.heap.size w v cs)(hb:Below w.heap.size w W):dM W.heap.size W v cs:=(h.below hb).mono hb.size
theorem ku{w W:World}{v:Value}{cs:List ByteArray}(h:Strs w.heap.size w v cs)(hb:Below w.heap.size w W):Strs W.heap.size W v cs:=(h.below hb).mono hb.size
def chanIP(st:PSt)(ws:List ByteArray):PSt × Int :=
 if ws.length≠3 then (st,8) else if dH (wd6 ws 1)=false then (st,8) else if 0<=chanI st.I (wd6 ws 1) then (st,9) else if cB st.L (wd6 ws 2)<0 then (st,10) else if st.I.length=32 then (st,3) else ({ st with I:=st.I ++ [((wd6 ws 1),cB st.L (wd6 ws 2))] },0)
def chanOP(st:PSt)(ws:List ByteArray):PSt × Int :=
 if ws.length≠3 then (st,8) else if dH (wd6 ws 1)=false then (st,8) else if 0<=chanI st.O (wd6 ws 1) then (st,9) else if cB st.L (wd6 ws 2)<0 then (st,10) else if st.O.length=32 then (st,3) else ({ st with O:=st.O ++ [((wd6 ws 1),cB st.L (wd6 ws 2))] },0)
end
section
open Go.RowKit
def flowP(st:PSt)(ws:List ByteArray):PSt × Int :=
 if ws.length≠3 then (st,8) else if cB st.L (wd6 ws 1)<0 then (st,10) else if cB st.L (wd6 ws 2)<0 then (st,10) else ({ st with F:=st.F ++ [(cB st.L (wd6 ws 1),cB st.L (wd6 ws 2))] },0)
def numO(s:ByteArray):Option Int:=match Lib.parseIntB 64 s.data.toList with | .ok v=>if num v=s then some v else none | _=>none
def depthP(st:PSt)(ws:List ByteArray):PSt × Int :=
 if ws.length≠2 then (st,8) else match numO (wd6 ws 1) with
  | none=>(st,8)
  | some k=>if st.D≠0 then (st,9) else if k<1∨64<k then (st,12) else ({ st with D:=k },0)
end
section
open Go.RowKit
open Go.Maps (Keyed string_keyed)
def wLevel:ByteArray:=⟨#[108,101,118,101,108]⟩
def wFlow:ByteArray:=⟨#[102,108,111,119]⟩
def gH:ByteArray:=⟨#[105,110,112,117,116]⟩
def eT:ByteArray:=⟨#[111,117,116,112,117,116]⟩
def wDepth:ByteArray:=⟨#[100,101,112,116,104]⟩
def doP(st:PSt)(ws:List ByteArray):PSt × Int :=
 if ws.length=0 then (st,0) else if (wd6 ws 0).data.toList[0]?=some 35 then (st,0)
 else if wd6 ws 0=wLevel then levelP st ws else if wd6 ws 0=wFlow then flowP st ws else if wd6 ws 0=gH then chanIP st ws
 else if wd6 ws 0=eT then chanOP st ws else if wd6 ws 0=wDepth then depthP st ws else (st,8)
end
end Go.Proofs.YtjngffgkllakaaaGreatDoor
namespace Go.Proofs.YtjngffgkllakaaaGreatDoor.LL
open List renaming getElem_toArray → zA, getElem_cons_succ → zB, getElem_cons_zero → zC, setIfInBounds_toArray → zD, set_cons_zero → zE, set_cons_succ → zF
open Lib renaming hid → zH
section
theorem and_nat(x y:Int)(x0:0<=x)(x1:x<=18446744073709551615)(y0:0<=y)(y1:y<=18446744073709551615):bits .and .u64 x y=((x.toNat &&& y.toNat:Nat):Int) :=
 u64_and x y x0 (by omega) y0 (by omega)
theorem and_has(x y:Int)(k:Nat)(x0:0<=x)(x1:x<=18446744073709551615)(y0:0<=y)(y1:y<=18446744073709551615):MM.hasB (bits .and .u64 x y) k=(MM.hasB x k && MM.hasB y k):=by
 rw[and_nat x y x0 x1 y0 y1]
 unfold MM.hasB
 rw[Int.toNat_natCast,Nat.testBit_and]
 cases decide (0<=(k:Int)/\(k:Int)<64) <;> simp
theorem and_bd(x y:Int)(x0:0<=x)(x1:x<=18446744073709551615)(y0:0<=y)(y1:y<=18446744073709551615):0<=bits .and .u64 x y/\bits .and .u64 x y<=18446744073709551615:=by
 rw[and_nat x y x0 x1 y0 y1]
 have:x.toNat &&& y.toNat<=x.toNat:=Nat.and_le_left
 omega
theorem not_has(y k:Nat)(hy:y<2 ^ 64)(hk:k<64):(18446744073709551615-y).testBit k = !y.testBit k:=by
 rw[show 18446744073709551615-y=2 ^ 64-(y+1) from by omega,Nat.testBit_two_pow_sub_succ hy]
 simp [hk]
theorem rD(x y:Int)(k:Nat)(x0:0<=x)(x1:x<=18446744073709551615)(y0:0<=y)(y1:y<=18446744073709551615):MM.hasB (bits .andNot .u64 x y) k=(MM.hasB x k && !MM.hasB y k):=by
 rw[u64_andNot x y x0 (by omega) y0 (by omega)]
 unfold MM.hasB
 by_cases hk:k<64
 ·rw[decide_eq_true (show 0<=(k:Int)/\(k:Int)<64 by omega),Int.toNat_natCast,Int.toNat_natCast,Nat.testBit_and]
  have:=not_has y.toNat k (by omega) hk
  simp only[Bool.true_and]
  rw[<-this]
 ·rw[decide_eq_false (show ¬(0<=(k:Int)/\(k:Int)<64) by omega)];simp
theorem andNot_bd(x y:Int)(x0:0<=x)(x1:x<=18446744073709551615)(y0:0<=y)(y1:y<=18446744073709551615):0<=bits .andNot .u64 x y/\bits .andNot .u64 x y<=18446744073709551615:=by
 rw[u64_andNot x y x0 (by omega) y0 (by omega)]
 have:∀z:Nat,x.toNat &&& z<=x.toNat:=fun z=>Nat.and_le_left
 have:=this (18446744073709551615-y.toNat)
 omega
def subB(x y:Int):Bool:=(List.range 64).all (fun k=>!MM.hasB x (k:Int) || MM.hasB y (k:Int))
theorem has_lt{x:Int}{k:Nat}(h:MM.hasB x (k:Int)=true):k<64:=by
 unfold MM.hasB at h
 rw[Bool.and_eq_true,decide_eq_true_eq] at h
 omega
theorem cg{x y:Int}:subB x y=true↔∀k:Nat,MM.hasB x (k:Int)=true->MM.hasB y (k:Int)=true:=by
 unfold subB
 rw[List.all_eq_true]
 constructor
 ·intro h k hk
  have:=h k (List.mem_range.2 (has_lt hk))
  rw[hk] at this
  simpa using this
 ·intro h k _
  cases e:MM.hasB x (k:Int)
  ·rfl
  ·rw[h k e];rfl
theorem lz(k:Nat):MM.hasB 0 (k:Int)=false:=by
 unfold MM.hasB;simp
theorem sub_or(x y:Int)(x0:0<=x)(x1:x<=18446744073709551615)(y0:0<=y)(y1:y<=18446744073709551615):(bits .or .u64 x y == y)=subB x y:=by
 rw[Bool.eq_iff_iff,beq_iff_eq,cg]
 constructor
 ·intro h k hk
  have:=or_has x y k x0 x1 y0 y1
  rw[h,hk,Bool.true_or] at this
  exact this
 ·intro h
  have b:=or_bd5 x y x0 x1 y0 y1
  refine lr _ _ b.1 b.2 y0 y1 fun k=>?_
  rw[or_has x y k x0 x1 y0 y1]
  cases e:MM.hasB x (k:Int)
  ·rfl
  ·rw[h k e];rfl
theorem iN(x y:Int)(x0:0<=x)(x1:x<=18446744073709551615)(y0:0<=y)(y1:y<=18446744073709551615):(bits .andNot .u64 x y == 0)=subB x y:=by
 rw[Bool.eq_iff_iff,beq_iff_eq,cg]
 have hb:=fun k=>rD x y k x0 x1 y0 y1
 constructor
 ·intro h k hk
  have:=hb k
  rw[h,lz,hk] at this
  simpa using this.symm
 ·intro h
  have b:=andNot_bd x y x0 x1 y0 y1
  refine lr _ _ b.1 b.2 (by omega) (by omega) fun k=>?_
  rw[hb k,lz]
  cases e:MM.hasB x (k:Int)
  ·rfl
  ·rw[h k e];rfl
theorem eq_sub{x y:Int}(x0:0<=x)(x1:x<=18446744073709551615)(y0:0<=y)(y1:y<=18446744073709551615):x=y↔subB x y=true/\subB y x=true:=by
 constructor
 ·rintro rfl;exact⟨cg.2 fun _ h=>h,cg.2 fun _ h=>h⟩
 ·rintro ⟨h1,h2⟩
  refine lr _ _ x0 x1 y0 y1 fun k=>?_
  rw[Bool.eq_iff_iff]
  exact⟨cg.1 h1 k,cg.1 h2 k⟩
theorem dX(n k:Nat)(hn:n<=64):MM.hasB (MM.cj (n:Int)) (k:Int)=decide (k<n):=by
 have e:MM.cj (n:Int)=MM.ones n:=by
  unfold MM.cj
  by_cases h:n<64
  ·rw[if_pos (by omega),Int.toNat_natCast]
  ·rw[if_neg (by omega),show n=64 by omega]
 rw[e]
 unfold MM.hasB MM.ones
 rw[Int.toNat_natCast,Int.toNat_natCast,Nat.testBit_two_pow_sub_one]
 by_cases hk:k<n
 ·rw[decide_eq_true hk,decide_eq_true (show 0<=(k:Int)/\(k:Int)<64 by omega)];rfl
 ·rw[decide_eq_false hk,Bool.and_false]
theorem gI(n:Nat)(hn:n<=64):0<=MM.cj (n:Int)/\MM.cj (n:Int)<=18446744073709551615:=by
 unfold MM.cj
 split
 ·exact MM.je _ (by omega)
 ·exact MM.je 64 (Nat.le_refl _)
theorem fS(m:Int)(i j:Nat)(hi:i<64):MM.hasB (MM.cN m (i:Int)) (j:Int)=(MM.hasB m (j:Int) && !decide (i=j)):=by
 unfold MM.hasB MM.cN
 rw[if_pos (by omega),Int.toNat_natCast,Int.toNat_natCast,Int.toNat_natCast,Nat.testBit_and]
 by_cases hj:j<64
 ·have hp:=MM.fq i hi
  rw[not_has (2 ^ i) j (by omega) hj,Nat.testBit_two_pow,decide_eq_true (show 0<=(j:Int)/\(j:Int)<64 by omega)]
  simp
 ·rw[decide_eq_false (show ¬(0<=(j:Int)/\(j:Int)<64) by omega)];simp
theorem jm{m:Int}{k:Nat}:k∈MM.dG m↔MM.hasB m (k:Int)=true:=by
 unfold MM.dG MM.upto
 rw[List.mem_filter,List.mem_range]
 exact⟨fun h=>h.2,fun h=>⟨has_lt h,h⟩⟩
def pAt(xs:List Int)(i j:Nat):Bool:=!ab xs j i && (bits .andNot .u64 (xs[j]?.getD 0) (xs[i]?.getD 0) == 0)
def pRow(xs:List Int)(i:Nat):Bool :=
 (ab xs i i && (bits .andNot .u64 (xs[i]?.getD 0) (MM.cj xs.length) == 0)) && (MM.dG (MM.cN (xs[i]?.getD 0) (i:Int))).all (pAt xs i)
theorem pRow_is{xs:List Int}(hw:Wide xs)(hl:xs.length<=64){i:Nat}(hi:i<xs.length):pRow xs i=iL xs i:=by
 have hb:=gI xs.length hl
 have hx:=hw.at i
 unfold pRow iL
 cases hii:ab xs i i
 ·rfl
 ·rw[iN _ _ hx.1 hx.2 hb.1 hb.2,Bool.true_and,Bool.true_and,Bool.eq_iff_iff,Bool.and_eq_true,List.all_eq_true,List.all_eq_true,cg]
  have hat:∀j:Nat,pAt xs i j=(!ab xs j i && (bits .or .u64 (xs[j]?.getD 0) (xs[i]?.getD 0) == xs[i]?.getD 0)):=by
   intro j
   unfold pAt
   rw[iN _ _ (hw.at j).1 (hw.at j).2 hx.1 hx.2,sub_or _ _ (hw.at j).1 (hw.at j).2 hx.1 hx.2]
  constructor
  ·rintro ⟨h1,h2⟩ k _
   unfold ordAt
   cases e:ab xs i k
   ·rfl
   ·have hk:k<xs.length:=by
     have:=h1 k e
     rw[dX _ _ hl,decide_eq_true_eq] at this
     exact this
    rw[decide_eq_true hk]
    by_cases hki:k=i
    ·subst hki
     have e2:(bits .or .u64 (xs[k]?.getD 0) (xs[k]?.getD 0) == xs[k]?.getD 0)=true:=by
      rw[sub_or _ _ hx.1 hx.2 hx.1 hx.2];exact cg.2 fun _ h=>h
     rw[e2];simp
    ·have:=h2 k (jm.2 (by
      rw[fS _ _ _ (by omega)]
      have e':MM.hasB (xs[i]?.getD 0) (k:Int)=true:=e
      rw[e',decide_eq_false (fun h=>hki h.symm)];rfl))
     rw[hat,Bool.and_eq_true] at this
     rw[this.1,this.2];simp
  ·intro h
   have key:∀k,ab xs i k=true->k<xs.length/\(k=i∨ab xs k i=false)/\(bits .or .u64 (xs[k]?.getD 0) (xs[i]?.getD 0) == xs[i]?.getD 0)=true:=by
    intro k hk
    have:=h k (List.mem_range.2 (has_lt hk))
    unfold ordAt at this
    rw[hk] at this
    simpa [Bool.or_eq_true,Bool.and_eq_true] using this
   refine⟨fun k hk=>?_,fun j hj=>?_⟩
   ·rw[dX _ _ hl,decide_eq_true_eq];exact(key k hk).1
   ·rw[jm,fS _ _ _ (by omega),Bool.and_eq_true,Bool.not_eq_true',decide_eq_false_iff_not] at hj
    have:=key j hj.1
    rw[hat,this.2.2,Bool.and_true,Bool.not_eq_true']
    rcases this.2.1 with e | e
    ·exact absurd e.symm hj.2
    ·exact e
theorem ord_rows{xs:List Int}(hw:Wide xs)(h:1<=xs.length/\xs.length<=64)(ha:∀i,i<xs.length->pRow xs i=true):ordB xs=true:=by
 unfold ordB
 rw[decide_eq_true h,Bool.true_and]
 exact all_yes fun j hj=>by rw[<-pRow_is hw h.2 hj];exact ha j hj
theorem rE{xs:List Int}(hw:Wide xs)(h:1<=xs.length/\xs.length<=64){i:Nat}(hi:i<xs.length)(ha:pRow xs i=false):ordB xs=false:=by
 unfold ordB
 rw[all_no (p:=iL xs) hi (by rw[<-pRow_is hw h.2 hi];exact ha),Bool.and_false]
end
section
theorem ord_mk{xs:List Int}(hw:Wide xs)(h:1<=xs.length/\xs.length<=64)(h1:∀i,i<xs.length->ab xs i i=true)
 (h2:∀i k,i<xs.length->ab xs i k=true->k<xs.length/\(k=i∨ab xs k i=false)/\∀m,ab xs k m=true->ab xs i m=true):ordB xs=true:=by
 unfold ordB
 rw[decide_eq_true h,Bool.true_and]
 refine all_yes fun i hi=>?_
 unfold iL
 rw[h1 i hi,Bool.true_and]
 refine all_yes fun k _=>?_
 unfold ordAt
 cases e:ab xs i k
 ·rfl
 ·obtain⟨g1,g2,g3⟩:=h2 i k hi e
  rw[decide_eq_true g1,sub_or _ _ (hw.at k).1 (hw.at k).2 (hw.at i).1 (hw.at i).2,cg.2 g3]
  rcases g2 with g | g
  ·subst g;simp
  ·rw[g];simp
theorem pK{n:Nat}{p:Nat->Bool}{k:Nat}(hk:k<n)(hp:p k=true)(hu:∀j,j<n->p j=true->j=k):cp n p=(k:Int):=by
 refine iM hk hp fun j hj=>?_
 cases e:p j
 ·rfl
 ·have:=hu j (by omega) e;omega
def cu(ys:List Int)(a b:Nat):Int:=bits .and .u64 (ys[a]?.getD 0) (ys[b]?.getD 0)
theorem both_bd{ys:List Int}(hw:Wide ys)(a b:Nat):0<=cu ys a b/\cu ys a b<=18446744073709551615:=and_bd _ _ (hw.at a).1 (hw.at a).2 (hw.at b).1 (hw.at b).2
theorem gJ{ys:List Int}(hw:Wide ys)(a b k:Nat):MM.hasB (cu ys a b) (k:Int)=(ab ys a k && ab ys b k):=and_has _ _ k (hw.at a).1 (hw.at a).2 (hw.at b).1 (hw.at b).2
theorem pL{ys:List Int}(h:ordB ys=true)(hw:Wide ys){a b k:Nat}(ha:a<ys.length)(hb:b<ys.length) :
 (MM.hasB (cu ys a b) (k:Int)=true/\ys[k]?.getD 0=cu ys a b)↔(k<ys.length/\ln ys a b k=true):=by
 have bb:=both_bd hw a b
 rw[eq_sub (hw.at k).1 (hw.at k).2 bb.1 bb.2,gJ hw,Bool.and_eq_true]
 constructor
 ·rintro ⟨⟨h1,h2⟩,_,h4⟩
  have hk:=(gE h ha h1).1
  refine⟨hk,(eF hk).2 ⟨hk,h1,h2,fun m _ e1 e2=>?_⟩⟩
  exact cg.1 h4 m (by rw[gJ hw,e1,e2];rfl)
 ·rintro ⟨hk,hj⟩
  obtain⟨_,h1,h2,h3⟩:=(eF hk).1 hj
  refine⟨⟨h1,h2⟩,cg.2 fun m hm=>?_,cg.2 fun m hm=>?_⟩
  ·rw[gJ hw,fA h hw ha h1 hm,fA h hw hb h2 hm];rfl
  ·rw[gJ hw,Bool.and_eq_true] at hm
   exact h3 m (gE h ha hm.1).1 hm.1 hm.2
theorem near_hit{ys:List Int}(h:ordB ys=true)(hw:Wide ys){a b k:Nat}(ha:a<ys.length)(hb:b<ys.length)(h1:MM.hasB (cu ys a b) (k:Int)=true)(h2:ys[k]?.getD 0=cu ys a b):dD ys a b=(k:Int):=by
 obtain⟨hk,hj⟩:=(pL h hw ha hb).1 ⟨h1,h2⟩
 have hJ:=(eF hk).1 hj
 refine pK hk hj fun j hjn e=>?_
 have hJ2:=(eF hjn).1 e
 have e1:=hJ.2.2.2 j hjn hJ2.2.1 hJ2.2.2.1
 have e2:=hJ2.2.2.2 k hk hJ.2.1 hJ.2.2.1
 rcases (gE h hk e1).2.1 with e | e
 ·exact e
 ·rw[e2] at e;cases e
theorem near_none{ys:List Int}(h:ordB ys=true)(hw:Wide ys){a b:Nat}(ha:a<ys.length)(hb:b<ys.length)(hn:∀k,k∈MM.dG (cu ys a b)->ys[k]?.getD 0≠cu ys a b):dD ys a b = -1:=by
 refine kg fun k hk=>?_
 cases e:ln ys a b k
 ·rfl
 ·have:=(pL h hw ha hb).2 ⟨hk,e⟩
  exact absurd this.2 (hn k (jm.2 this.1))
theorem end_eq{ys:List Int}(h:ordB ys=true)(hw:Wide ys){i:Nat}(hi:i<ys.length):(ys[i]?.getD 0 == MM.cj ys.length)=jk ys i:=by
 have hl:=(fR h).2
 have bb:=gI ys.length hl
 rw[Bool.eq_iff_iff,beq_iff_eq,eq_sub (hw.at i).1 (hw.at i).2 bb.1 bb.2]
 unfold jk
 rw[List.all_eq_true]
 constructor
 ·rintro ⟨_,h2⟩ m hm
  exact cg.1 h2 m (by rw[dX _ _ hl,decide_eq_true (List.mem_range.1 hm)])
 ·intro hm
  refine⟨cg.2 fun m e=>?_,cg.2 fun m e=>?_⟩
  ·rw[dX _ _ hl,decide_eq_true (gE h hi e).1]
  ·rw[dX _ _ hl,decide_eq_true_eq] at e
   exact hm m (List.mem_range.2 e)
def dnI(xs:List Int)(i:Nat):Nat->Int
 | 0=>0
 | k+1=>if ab xs k i=true then MM.eC (dnI xs i k) (k:Int) else dnI xs i k
theorem dn_bd(xs:List Int)(i k:Nat):0<=dnI xs i k/\dnI xs i k<=18446744073709551615:=by
 induction k with
 | zero=>exact⟨Int.le_refl _,by show (0:Int)<=_;omega⟩
 | succ k ih =>
   unfold dnI
   split
   ·exact MM.withI_bd _ _ ih.1 ih.2
   ·exact ih
theorem dn_has(xs:List Int)(i:Nat):∀k j:Nat,k<=64->MM.hasB (dnI xs i k) (j:Int)=(decide (j<k) && ab xs j i):=by
 intro k
 induction k with
 | zero=>intro j _;rw[show dnI xs i 0=0 from rfl,lz];simp
 | succ k ih =>
   intro j hk
   have hih:=ih j (by omega)
   show MM.hasB (if ab xs k i=true then MM.eC (dnI xs i k) (k:Int) else dnI xs i k) (j:Int)=_
   by_cases hj:j<64
   ·by_cases hki:ab xs k i=true
    ·rw[if_pos hki]
     have hs:MM.hasB (MM.eC (dnI xs i k) (k:Int)) (j:Int)=(MM.hasB (dnI xs i k) (j:Int) || decide (k=j)):=by
      unfold MM.hasB MM.eC
      rw[if_pos (by omega),Int.toNat_natCast,Int.toNat_natCast,Int.toNat_natCast,Nat.testBit_or,Nat.testBit_two_pow,decide_eq_true (show 0<=(j:Int)/\(j:Int)<64 by omega),Bool.true_and,Bool.true_and]
     rw[hs,hih]
     by_cases e:k=j
     ·subst e;rw[hki];simp
     ·have:(j<k)↔(j<k+1):=by omega
      simp [e,this]
    ·rw[if_neg hki,hih]
     by_cases e:j=k
     ·subst e;simp [hki]
     ·have:(j<k)↔(j<k+1):=by omega
      simp [this]
   ·have:MM.hasB (if ab xs k i=true then MM.eC (dnI xs i k) (k:Int) else dnI xs i k) (j:Int)=false:=by
     unfold MM.hasB;rw[decide_eq_false (show ¬(0<=(j:Int)/\(j:Int)<64) by omega),Bool.false_and]
    rw[this,decide_eq_false (by omega),Bool.false_and]
def gK(xs:List Int):List Int:=(List.range xs.length).map fun i=>dnI xs i xs.length
theorem jn(xs:List Int):(gK xs).length=xs.length:=by unfold gK;simp
theorem dual_at(xs:List Int){i:Nat}(hi:i<xs.length):(gK xs)[i]?.getD 0=dnI xs i xs.length:=by
 unfold gK;rw[List.getElem?_map,List.getElem?_range hi];rfl
theorem mL(xs:List Int):Wide (gK xs):=by
 intro x hx
 unfold gK at hx
 obtain⟨i,_,rfl⟩:=List.mem_map.1 hx
 exact dn_bd _ _ _
theorem og{xs:List Int}(hl:xs.length<=64){i:Nat}(hi:i<xs.length)(j:Nat):ab (gK xs) i j=(decide (j<xs.length) && ab xs j i):=by
 show MM.hasB ((gK xs)[i]?.getD 0) (j:Int)=_
 rw[dual_at xs hi];exact dn_has xs i xs.length j hl
theorem lA{xs:List Int}(hl:xs.length<=64){i j:Nat}(hi:i<xs.length)(hj:j<xs.length):ab (gK xs) i j=ab xs j i:=by
 rw[og hl hi j,decide_eq_true hj,Bool.true_and]
theorem dual_ord{xs:List Int}(h:ordB xs=true)(hw:Wide xs):ordB (gK xs)=true:=by
 have hl:=fR h
 refine ord_mk (mL xs) (by rw[jn];exact hl) (fun i hi=>?_) (fun i k hi e=>?_)
 ·rw[jn] at hi;rw[lA hl.2 hi hi];exact jl h hi
 ·rw[jn] at hi ⊢
  rw[og hl.2 hi,Bool.and_eq_true,decide_eq_true_eq] at e
  refine⟨e.1,?_,fun m hm=>?_⟩
  ·rcases (gE h e.1 e.2).2.1 with g | g
   ·exact .inl g.symm
   ·exact .inr (by rw[lA hl.2 e.1 hi];exact g)
  ·rw[og hl.2 e.1,Bool.and_eq_true,decide_eq_true_eq] at hm
   rw[lA hl.2 hi hm.1]
   exact fA h hw hm.1 hm.2 e.2
def iO(xs:List Int):Bool:=ordB xs && (decide (0<=endI xs) && (List.range xs.length).all fun a=>(List.range a).all fun b=>decide (0<=dD xs a b))
theorem p_meets{xs:List Int}(h:ordB xs=true)(hw:Wide xs)(he:∃k,k<xs.length/\∀m,m<xs.length->ab xs k m=true)
 (hj:∀a b,a<xs.length->b<xs.length->∃j,IsJ xs a b j) {a b:Nat} (ha:a<xs.length) (hb:b<xs.length):∃j,IsM xs a b j:=by
 obtain⟨e,hen,he⟩:=he
 have key:∀l:List Nat,(∀x∈l,x<xs.length/\ab xs x a=true/\ab xs x b=true)->∃s,s<xs.length/\ab xs s a=true/\ab xs s b=true/\∀x∈l,ab xs x s=true:=by
  intro l
  induction l with
  | nil=>intro _;exact⟨e,hen,he a ha,he b hb,fun x hx=>absurd hx (by simp)⟩
  | cons x l ih =>
    intro hl
    obtain⟨s,s1,s2,s3,s4⟩:=ih fun y hy=>hl y (by simp [hy])
    obtain⟨x1,x2,x3⟩:=hl x (by simp)
    obtain⟨j,j1,j2,j3,j4⟩:=hj s x s1 x1
    refine⟨j,j1,j4 a ha s2 x2,j4 b hb s3 x3,fun y hy=>?_⟩
    rcases List.mem_cons.1 hy with rfl | hy
    ·exact j3
    ·exact fA h hw (hl y (by simp [hy])).1 (s4 y hy) j2
 obtain⟨s,s1,s2,s3,s4⟩:=key ((List.range xs.length).filter fun x=>ab xs x a && ab xs x b) (by
  intro x hx
  rw[List.mem_filter,List.mem_range,Bool.and_eq_true] at hx
  exact hx)
 refine⟨s,s1,s2,s3,fun m hm e1 e2=>s4 m ?_⟩
 rw[List.mem_filter,List.mem_range,Bool.and_eq_true]
 exact⟨hm,e1,e2⟩
theorem right_p{xs:List Int}(hw:Wide xs):bL xs=iO xs:=by
 cases h:ordB xs
 ·unfold bL iO;rw[h];rfl
 ·rw[Bool.eq_iff_iff]
  constructor
  ·intro hr
   obtain⟨k,hk,he⟩:=ex_end hr hw
   unfold iO
   rw[h,endI_is hr hk he,decide_eq_true (by omega),Bool.true_and,Bool.true_and]
   refine all_yes fun a ha=>all_yes fun b hb=>?_
   have:=pair_at hr ha hb
   unfold pairB at this
   rw[Bool.and_eq_true] at this
   exact this.1
  ·intro hp
   unfold iO at hp
   rw[h,Bool.true_and,Bool.and_eq_true,decide_eq_true_eq,List.all_eq_true] at hp
   obtain⟨h0,hj⟩:=hp
   obtain⟨k,_,hk,he⟩:=ie h0
   have he':∃k,k<xs.length/\∀m,m<xs.length->ab xs k m=true:=by
    refine⟨k,hk,fun m hm=>?_⟩
    unfold jk at he
    rw[List.all_eq_true] at he
    exact he m (List.mem_range.2 hm)
   have hj1:∀a b,a<xs.length->b<a->∃j,IsJ xs a b j:=by
    intro a b ha hb
    have:=hj a (List.mem_range.2 ha)
    rw[List.all_eq_true] at this
    have:=this b (List.mem_range.2 hb)
    rw[decide_eq_true_eq] at this
    obtain⟨j,_,hj,e⟩:=ie this
    exact⟨j,(eF hj).1 e⟩
   have hj2:∀a b,a<xs.length->b<xs.length->∃j,IsJ xs a b j:=by
    intro a b ha hb
    rcases Nat.lt_trichotomy a b with e | e | e
    ·obtain⟨j,hj⟩:=hj1 b a hb e;exact⟨j,hj.symm⟩
    ·subst e;exact⟨a,ha,jl h ha,jl h ha,fun m _ e1 _=>e1⟩
    ·exact hj1 a b ha e
   unfold bL
   rw[h,Bool.true_and]
   refine all_yes fun a ha=>all_yes fun b hb=>?_
   unfold pairB
   have:=hj a (List.mem_range.2 ha)
   rw[List.all_eq_true] at this
   rw[this b (List.mem_range.2 hb),Bool.true_and,decide_eq_true_eq]
   obtain⟨m,hm⟩:=p_meets h hw he' hj2 ha (show b<xs.length by omega)
   have hmm:lp xs a b m=true:=(lw hm.1).2 hm
   apply Classical.byContradiction
   intro hn
   have e:∀i,i<xs.length->lp xs a b i=false:=by
    unfold meetI cp at hn
    split at hn
    ·omega
    ·rename_i e
     rw[List.find?_eq_none] at e
     intro i hi
     have:=e i (List.mem_range.2 hi)
     simpa using this
   rw[e m hm.1] at hmm;cases hmm
end
section
end
section
end
end Go.Proofs.YtjngffgkllakaaaGreatDoor.LL
namespace Go.Proofs.YtjngffgkllakaaaGreatDoor
open List renaming getElem_toArray → zA, getElem_cons_succ → zB, getElem_cons_zero → zC, setIfInBounds_toArray → zD, set_cons_zero → zE, set_cons_succ → zF
open Lib renaming hid → zH
section
open Go.RowKit
def dE(w:World)(v:Value)(t:Bool):World:=(w.alloc (.cells #[v] 23)).alloc (.cells #[.bool t] 4)
def wayF(Bt Bu:Nat):Value:=.func (.func 171) #[] #[.pointer (some ⟨Bt,0,none⟩),.pointer (some ⟨Bu,0,none⟩)]
set_option maxHeartbeats 400000 in
theorem way_any(a:Option Addr)(len cap:Nat)(t:Bool)(w:World) :
 Calls Tryz.prog 119 #[.slice a len cap,.bool t] w fun e w'=>e=.returned (wayF (w.heap.size+1) w.heap.size)/\w'=dE w (.slice a len cap) t:=by
 go_enter Tryz.func119,Tryz.ntmps119
 go_wp2_with fail
 go_ret
 exact⟨rfl,rfl⟩
def beyL(xs:List Int)(t:Bool):List Int:=if t=true then LL.gK xs else xs
theorem bey_len(xs:List Int)(t:Bool):(beyL xs t).length=xs.length:=by
 cases t
 ·rfl
 ·exact LL.jn xs
theorem pM{xs:List Int}(hx:Wide xs)(t:Bool):Wide (beyL xs t):=by
 cases t
 ·exact hx
 ·exact LL.mL xs
theorem bey_ord{xs:List Int}(h:LL.ordB xs=true)(hx:Wide xs)(t:Bool):LL.ordB (beyL xs t)=true:=by
 cases t
 ·exact h
 ·exact LL.dual_ord h hx
def Way(n₀:Nat)(w:World)(Bt Bu:Nat)(xs:List Int)(t:Bool):Prop :=
 Bt<n₀/\Bu<n₀/\w.cell? ⟨Bt,0,none⟩=some (.bool t)/\∃v,w.cell? ⟨Bu,0,none⟩=some v/\Nums .u64 n₀ w v xs
theorem Way.below{n₀:Nat}{w w':World}{Bt Bu:Nat}{xs:List Int}{t:Bool}(h:Way n₀ w Bt Bu xs t)(hb:Below n₀ w w'):Way n₀ w' Bt Bu xs t:=by
 obtain⟨h1,h2,h3,v,h4,h5⟩:=h
 exact⟨h1,h2,(hb.cell (p:=⟨Bt,0,none⟩) h1).trans h3,v,(hb.cell (p:=⟨Bu,0,none⟩) h2).trans h4,h5.below hb⟩
theorem Way.drew{n₀:Nat}{w:World}{Bt Bu:Nat}{xs:List Int}{t:Bool}(h:Way n₀ w Bt Bu xs t):Way n₀ w.drew Bt Bu xs t:=h.below ⟨rfl,rfl,rfl,Nat.le_refl _,fun _ _=>rfl⟩
theorem Way.made{n₀:Nat}{w:World}{v:Value}{xs:List Int}(t:Bool)(h:Nums .u64 n₀ w v xs)(hn:n₀<=w.heap.size):Way (w.heap.size+2) (dE w v t) (w.heap.size+1) w.heap.size xs t:=by
 have e1:(dE w v t).heap[w.heap.size+1]?=some (.cells #[.bool t] 4):=by
  have:=World.alloc_heap_new (w.alloc (.cells #[v] 23)) (.cells #[.bool t] 4)
  rw[World.size_alloc] at this;exact this
 have e2:(dE w v t).heap[w.heap.size]?=some (.cells #[v] 23) :=
  (Below.heap_alloc (w.alloc (.cells #[v] 23)) _ _ (by simp)).trans (World.alloc_heap_new w _)
 refine⟨by omega,by omega,by simp [World.cell?,e1],v,by simp [World.cell?,e2],?_⟩
 exact(h.below (((Below.refl n₀ w).alloc hn _).alloc (by simp;omega) _)).mono (by omega)
set_option maxHeartbeats 800000 in
theorem jp(Bt Bu i n₀:Nat)(xs:List Int)(t:Bool)(w:World)(h:Way n₀ w Bt Bu xs t)(hx:Wide xs)(hl:xs.length<=64)(hi:i<xs.length) :
 Calls Tryz.prog 171 #[.int .i64 i,.pointer (some ⟨Bt,0,none⟩),.pointer (some ⟨Bu,0,none⟩)] w fun e w'=>e=.returned (.int .u64 ((beyL xs t)[i]?.getD 0))/\w'=w:=by
 obtain⟨_,_,ht,v,hu,hv⟩:=h
 obtain⟨bk,off,cap,rfl,hbk,hc⟩:=hv.at (by omega)
 have HX:=zH hx
 have i1:(0:Int)<=i/\(i:Int)<xs.length:=by omega
 cases t
 ·have hci:=hc i hi
  have HB:=zH (show xs[i]?.getD 0=(beyL xs false)[i]?.getD 0 from rfl)
  clear hc hv hx
  generalize xs[i]?.getD 0=x at hci HB
  go_enter Tryz.func171,Tryz.ntmps171
  go_wp2_with fail
  go_ret
  exact⟨cC HB.out,rfl⟩
 ·have HC:=zH hc
  have HD:=zH (show LL.dnI xs i xs.length=(beyL xs true)[i]?.getD 0 from(LL.dual_at xs hi).symm)
  clear hc hv hx
  go_enter Tryz.func171,Tryz.ntmps171
  go_wp2_with fail
  go_loop [5,15] (fun m k=>∃j:Nat,j<=xs.length/\k=.int .i64 (j:Int)/\m=.int .u64 (LL.dnI xs i j)) (fun _ k=>xs.length-(intOf k).toNat)
  case atStart=>exact⟨0,Nat.zero_le _,rfl,rfl⟩
  case round =>
   obtain⟨j,hj,rfl,rfl⟩:=hrel
   by_cases hlt:j<xs.length
   ·have hcj:=HC.out j hlt
    have hxj:=HX.out.at j
    have HXJ:=zH hxj
    have hd:=LL.dn_bd xs i j
    have HDB:=zH hd
    have i2:(0:Int)<=j/\(j:Int)<xs.length:=by omega
    cases hab:LL.ab xs j i
    ·have HN:=zH (show LL.dnI xs i j=LL.dnI xs i (j+1) by show _=if _ then _ else _;rw[hab];rfl)
     have HA:=zH (show MM.hasB (xs[j]?.getD 0) (i:Int)=false from hab)
     clear hab hxj hd
     generalize xs[j]?.getD 0=xj at hcj HA HXJ
     go_wp2_with (go_at_call 168;refine(nF _ _ _ HXJ.out.1 HXJ.out.2).mono ?_;rintro e w' ⟨rfl,rfl⟩;rw[HA.out])
     go_round
     case rel=>exact⟨j+1,by omega,by go_num,by rw[HN.out]⟩
     case measure=>simp [intOf];omega
    ·have HN:=zH (show MM.eC (LL.dnI xs i j) (j:Int)=LL.dnI xs i (j+1) by show _=if _ then _ else _;rw[hab];rfl)
     have HA:=zH (show MM.hasB (xs[j]?.getD 0) (i:Int)=true from hab)
     clear hab hxj hd
     generalize xs[j]?.getD 0=xj at hcj HA HXJ
     go_wp2_with (first | (go_at_call 168;refine(nF _ _ _ HXJ.out.1 HXJ.out.2).mono ?_;rintro e w' ⟨rfl,rfl⟩;rw[HA.out]) | (go_at_call 172;refine(kK _ _ _ HDB.out.1 HDB.out.2).mono ?_;rintro e w' ⟨rfl,rfl⟩))
     go_round
     case rel=>exact⟨j+1,by omega,by go_num,by rw[HN.out]⟩
     case measure=>simp [intOf];omega
   ·obtain rfl:j=xs.length:=by omega
    go_wp2_with fail
    go_ret
    exact⟨cC HD.out,rfl⟩
def nearE(k:Int):Ending:=.returned (.tuple #[.int .i64 (if 0<=k then k else 0),.bool (decide (0<=k))])
theorem ig(j:Nat):Ending.returned (.tuple #[.int .i64 (j:Int),.bool true])=nearE (j:Int):=by
 unfold nearE;rw[if_pos (by omega),decide_eq_true (by omega)]
theorem jq:Ending.returned (.tuple #[.int .i64 0,.bool false])=nearE (-1):=rfl
set_option maxHeartbeats 800000 in
theorem end_any(Bt Bu n n₀:Nat)(xs:List Int)(t:Bool)(w:World)(h:Way n₀ w Bt Bu xs t)(hx:Wide xs)(ho:LL.ordB xs=true)(hn:n=xs.length) :
 Calls Tryz.prog 120 #[.int .i64 n,wayF Bt Bu] w fun e w'=>e=nearE (LL.endI (beyL xs t))/\w'=w:=by
 subst hn
 have HW:=zH h
 have HX:=zH hx
 have HO:=zH (bey_ord ho hx t)
 have HBx:=zH (pM hx t)
 have hl:=(LL.fR ho).2
 have bb:=LL.gI xs.length hl
 have HL:=zH (bey_len xs t)
 clear h hx ho
 unfold wayF
 go_enter Tryz.func120,Tryz.ntmps120
 go_wp2_with (go_at_call 167;refine(mm _ _ (by omega) (by omega)).mono ?_;rintro e w' ⟨rfl,rfl⟩)
 obtain⟨B,hB⟩:∃B,MM.cj (xs.length:Int)=B:=⟨_,rfl⟩
 rw[hB]
 have HB:=zH hB
 clear hB bb
 go_loop [11] (fun k=>∃j:Nat,j<=xs.length/\k=.int .i64 (j:Int)/\RowKit.Hid (∀i,i<j->LL.jk (beyL xs t) i=false)) (fun k=>xs.length-(intOf k).toNat)
 case atStart=>exact⟨0,Nat.zero_le _,rfl,zH (fun i hi=>absurd hi (Nat.not_lt_zero _))⟩
 case round =>
  obtain⟨j,hj,rfl,HN⟩:=hrel
  by_cases hlt:j<xs.length
  ·have HE:=zH (show ((beyL xs t)[j]?.getD 0 == B)=LL.jk (beyL xs t) j by
    rw[<-HB.out,<-HL.out];exact LL.end_eq HO.out HBx.out (by rw[HL.out];exact hlt))
   cases he:LL.jk (beyL xs t) j
   ·have hE:((beyL xs t)[j]?.getD 0 == B)=false:=by rw[HE.out,he]
    have HS:=zH (LL.none_step HN.out he)
    clear he HE
    generalize hbj:(beyL xs t)[j]?.getD 0=y at hE
    have HBJ:=zH hbj
    clear hbj
    go_wp2_with (go_at_call 171;refine(jp Bt Bu j n₀ xs t _ HW.out HX.out hl hlt).mono ?_;rintro e w' ⟨rfl,rfl⟩;rw[HBJ.out])
    go_round
    case rel=>exact⟨j+1,by omega,by go_num,HS⟩
    case measure=>simp [intOf];omega
   ·have hE:((beyL xs t)[j]?.getD 0 == B)=true:=by rw[HE.out,he]
    have HR:=zH (show LL.endI (beyL xs t)=(j:Int) from LL.iM (by rw[HL.out];exact hlt) he HN.out)
    clear he HE
    generalize hbj:(beyL xs t)[j]?.getD 0=y at hE
    have HBJ:=zH hbj
    clear hbj
    go_wp2_with (go_at_call 171;refine(jp Bt Bu j n₀ xs t _ HW.out HX.out hl hlt).mono ?_;rintro e w' ⟨rfl,rfl⟩;rw[HBJ.out])
    go_ret2
    exact⟨by rw[HR.out];exact ig j,rfl⟩
  ·have HR:=zH (show LL.endI (beyL xs t) = -1 from LL.kg (fun i hi=>HN.out i (by rw[HL.out] at hi;omega)))
   go_wp2_with fail
   go_ret2
   exact⟨by rw[HR.out];exact jq,rfl⟩
end
section
open Go.RowKit Go.Shelf
attribute [local go_sem] Oper.semAt_some
end
section
open Go.RowKit Go.Shelf
attribute [local go_sem] Oper.semAt_some
attribute [local simp] wide_fn iq
theorem mM{m i:Int}{t:Bool}{W:World}(HX:RowKit.Hid (0<=m/\m<=18446744073709551615))(h:RowKit.Hid (MM.hasB m i=t))(n:Nat) :
 Calls Tryz.prog 168 #[.int .u64 m,.int .i64 i] (W.drewN n) fun e w'=>e=.returned (.bool t)/\∃k,w'=W.drewN k :=
 (nF m i _ HX.out.1 HX.out.2).mono fun e w' h'=>⟨by rw[h'.1,h.out],n,h'.2.symm⟩
set_option maxRecDepth 100000 in
set_option maxHeartbeats 16000000 in
theorem order_in(v:Value) (xs:List Int) (n₀:Nat) (w:World) (hv:Nums .u64 n₀ w v xs) (hn:n₀<=w.heap.size) (hx:Wide xs) (h0:1<=xs.length/\xs.length<=64) (hT:Tz w) :
 Calls Tryz.prog 118 #[v] w fun e w'=>e=.returned (.bool (LL.ordB xs))/\Below w.heap.size w w':=by
 have HX:=zH hx
 obtain⟨bk,off,cap,rfl,hbk,hc⟩:=hv.at (by omega)
 have HV:=zH hv
 have HC:=zH hc
 have hG:=hT.lt
 have l1:1<=(xs.length:Int):=by omega
 have l2:(xs.length:Int)<=64:=by omega
 have g1:decide ((xs.length:Int)<1)=false:=decide_eq_false (by omega)
 have g2:decide ((64:Int)<(xs.length:Int))=false:=decide_eq_false (by omega)
 have hbb:=LL.gI xs.length h0.2
 have H0:=zH h0
 clear hv hx hc h0
 refine(callsIn_wide (n:=5)).1 ?_
 refine callsIn_of_wp_marks Tryz.func118 rfl trivial ?_ rfl
 simp only[Tryz.ntmps118,List.size_toArray,List.length_cons,List.length_nil,Nat.reduceAdd,Nat.reduceSub,Array.replicate_succ,Array.replicate_zero,List.push_toArray,List.append_toArray,List.nil_append,List.cons_append]
 refine wpIn_mono (Q:=gU _) ?_ eE
 gi_wp2_with (gi_at_call 167;refine(callsIn_wide.2 (mm _ _ (by omega) (by omega))).mono ?_;rintro e w' ⟨rfl,rfl⟩)
 have hs1:=bX (w.alloc (.cells #[.slice (some ⟨bk,off,none⟩) xs.length cap] 23)) (.bool false) 4
 rw[World.size_alloc] at hs1
 have hs0:=aD (W:=w.alloc (.cells #[.slice (some ⟨bk,off,none⟩) xs.length cap] 23)) (.cells #[.bool false] 4) (bX w (.slice (some ⟨bk,off,none⟩) xs.length cap) 23).1
 have hB0:=((Below.refl w.heap.size w).alloc (Nat.le_refl _) (.cells #[.slice (some ⟨bk,off,none⟩) xs.length cap] 23)).alloc (by simp) (.cells #[.bool false] 4)
 have HBel:=zH (show MM.cj (xs.length:Int)=MM.cj (xs.length:Int) from rfl)
 obtain⟨Bv,hBv⟩:∃Bv,MM.cj (xs.length:Int)=Bv:=⟨_,rfl⟩
 have HBv:=zH hBv
 rw[hBv] at hbb ⊢
 clear hBv HBel
 refine wpIn_loop (fun a' w'=>∃(k:Nat) (Ds:List Nat) (u4 u5 u20 u21 u22 u23 u24 u25 u26 u27 u28 u29 u30 u31 u32 u33 u34 u35 u36 u37 u38 u39 u40 u41 u42 u43 u44 u46 u47 u48 u49 u50 u51 u52 u53 u54 u55 u56 u57 u58 u59 u60 u61 u62 u63 u64:Value),a' = { tmps:=#[.slice (some ⟨bk,off,none⟩) xs.length cap,.pointer (some ⟨w.heap.size,0,none⟩),.pointer (some ⟨w.heap.size+1,0,none⟩),.int .u64 Bv,u4,u5,.slice (some ⟨bk,off,none⟩) xs.length cap,.int .i64 (xs.length:Int),.bool false,.bool false,.slice (some ⟨bk,off,none⟩) xs.length cap,.int .i64 (xs.length:Int),.bool false,.bool false,.slice (some ⟨bk,off,none⟩) xs.length cap,.int .i64 (xs.length:Int),.int .u64 Bv,.slice (some ⟨bk,off,none⟩) xs.length cap,.int .i64 (xs.length:Int),.int .i64 (k:Int),u20,u21,u22,u23,u24,u25,u26,u27,u28,u29,u30,u31,u32,u33,u34,u35,u36,u37,u38,u39,u40,u41,u42,u43,u44,undef,u46,u47,u48,u49,u50,u51,u52,u53,u54,u55,u56,u57,u58,u59,u60,u61,u62,u63,u64],defers:=marks Ds }/\k<=xs.length/\(w'.cell? ⟨w.heap.size,0,none⟩=some (.slice (some ⟨bk,off,none⟩) xs.length cap)/\w'.cell? ⟨w.heap.size+1,0,none⟩=some (.bool false)/\w'.frozen? ⟨w.heap.size+1,0,none⟩=false)/\cW w.heap.size w' Ds/\Below w.heap.size w w'/\RowKit.Hid (∀j,j<k->LL.pRow xs j=true))
  (fun a' _=>xs.length-(intOf (a'.tmps.getD 19 undef)).toNat) ?_ ?_
 ·refine⟨0,[],?_⟩
  (repeat apply Exists.intro)
  exact⟨rfl,Nat.zero_le _,⟨hs0,hs1.1,hs1.2⟩,cW.nil _ _,hB0,zH (fun j hj=>absurd hj (Nat.not_lt_zero _))⟩
 ·rintro a' W ⟨k,Ds,u4,u5,u20,u21,u22,u23,u24,u25,u26,u27,u28,u29,u30,u31,u32,u33,u34,u35,u36,u37,u38,u39,u40,u41,u42,u43,u44,u46,u47,u48,u49,u50,u51,u52,u53,u54,u55,u56,u57,u58,u59,u60,u61,u62,u63,u64,rfl,hk,⟨hc0,hc1,hf1⟩,hM,hB,HN⟩
  have HM:=zH hM
  clear hM hs0 hs1 hB0
  by_cases hkn:k<xs.length
  ·have i1:(0:Int)<=k/\(k:Int)<xs.length:=by omega
   have hgk:decide ((xs.length:Int)<=(k:Int))=false:=decide_eq_false (by omega)
   have hgk2:decide (xs.length<=k)=false:=decide_eq_false (by omega)
   have hck:W.cell? ⟨bk,off+k,none⟩=some (.int .u64 (xs[k]?.getD 0)):=(hB.cell (p:=⟨bk,off+k,none⟩) (by show bk<w.heap.size;omega)).trans (HC.out k hkn)
   have hXk:=HX.out.at k
   have HXk:=zH hXk
   have HPno:=zH (show LL.pRow xs k=false->LL.ordB xs=false from fun h=>LL.rE HX.out H0.out hkn h)
   obtain⟨xk,hxk⟩:∃xk,xs[k]?.getD 0=xk:=⟨_,rfl⟩
   have HXe:=zH hxk
   rw[hxk] at hck HXk hXk
   clear hxk
   gi_wp2
   have hbi:=bX W (.int .i64 (k:Int)) 3
   have hc01:=aD (.cells #[.int .i64 (k:Int)] 3) hc0
   have hck1:=aD (.cells #[.int .i64 (k:Int)] 3) hck
   have hc11:=aD (.cells #[.int .i64 (k:Int)] 3) hc1
   have hf11:=bP (.cells #[.int .i64 (k:Int)] 3) hc1 hf1
   have hM1:=zH (HM.out.keeps (KeepsOthers.alloc W (.cells #[.int .i64 (k:Int)] 3)))
   have hB1:=hB.alloc hB.size (.cells #[.int .i64 (k:Int)] 3)
   have hsz1:w.heap.size+1<W.heap.size:=cell_lt hc1
   have hWs:(W.alloc (.cells #[.int .i64 (k:Int)] 3)).heap.size=W.heap.size+1:=World.size_alloc ..
   generalize W.alloc (.cells #[.int .i64 (k:Int)] 3)=W1 at hbi hc01 hck1 hc11 hf11 hM1 hB1 hWs ⊢
   obtain⟨Bi,hBi⟩:∃Bi,W.heap.size=Bi:=⟨_,rfl⟩
   rw[hBi] at hbi hsz1 hWs ⊢
   clear hc0 hc1 hf1 hck HM hB hBi
   cases hab:LL.ab xs k k
   ·have HA:=zH (show MM.hasB xk (k:Int)=false by rw[<-HXe.out];exact hab)
    have HR:=zH (HPno.out (by unfold LL.pRow;rw[hab];rfl))
    clear hab
    gi_quiet ((gi_at_call 168;exact callsIn_wide.2 (mM HXk HA _)))
    have hc12:(W1.drewN nq).cell? ⟨w.heap.size+1,0,none⟩=some (.bool false):=hc11
    have hf12:(W1.drewN nq).frozen? ⟨w.heap.size+1,0,none⟩=false:=hf11
    have hB2:=_root_.Go.below_drewN hB1 nq
    have hM2:=zH (hM1.out.drewN nq)
    clear hc01 hck1 hc11 hf11 hB1 hM1 hbi hWs
    generalize W1.drewN nq=W2 at hc12 hf12 hB2 hM2 ⊢
    gi_wp2
    show LeavesInM _ _ _ _ _ _ (marks Ds) .returning _
    refine dP (b:=w.heap.size) Ds _ (by have:=hB2.size;simp;omega) (hM2.out.keeps (KeepsOthers.setCell _ _ _)) fun W' hcell hBel=>?_
    have h1:=hcell _ _ (World.cell?_setCell_same' W2 ⟨w.heap.size+1,0,none⟩ (.bool false) (by rw[hc12];rfl))
    refine⟨.bool false,?_,by rw[HR.out],(hB2.setCell (p:=⟨w.heap.size+1,0,none⟩) (by simp) _).trans hBel⟩
    simp [results,Tryz.f118,go_sem,h1]
   ·have HA:=zH (show MM.hasB xk (k:Int)=true by rw[<-HXe.out];exact hab)
    have HAb:=zH hab
    cases h5:(bits .andNot .u64 xk Bv == 0)
    ·have HR:=zH (HPno.out (by unfold LL.pRow;rw[hab,HXe.out,HBv.out,h5];rfl))
     have h5':(bits .andNot .u64 xk Bv != 0)=true:=by rw[bne,h5];rfl
     clear hab
     gi_quiet ((gi_at_call 168;exact callsIn_wide.2 (mM HXk HA _)))
     have hc12:(W1.drewN nq).cell? ⟨w.heap.size+1,0,none⟩=some (.bool false):=hc11
     have hf12:(W1.drewN nq).frozen? ⟨w.heap.size+1,0,none⟩=false:=hf11
     have hB2:=_root_.Go.below_drewN hB1 nq
     have hM2:=zH (hM1.out.drewN nq)
     clear hc01 hck1 hc11 hf11 hB1 hM1 hbi hWs
     generalize W1.drewN nq=W2 at hc12 hf12 hB2 hM2 ⊢
     gi_wp2
     show LeavesInM _ _ _ _ _ _ (marks Ds) .returning _
     refine dP (b:=w.heap.size) Ds _ (by have:=hB2.size;simp;omega) (hM2.out.keeps (KeepsOthers.setCell _ _ _)) fun W' hcell hBel=>?_
     have h1:=hcell _ _ (World.cell?_setCell_same' W2 ⟨w.heap.size+1,0,none⟩ (.bool false) (by rw[hc12];rfl))
     refine⟨.bool false,?_,by rw[HR.out],(hB2.setCell (p:=⟨w.heap.size+1,0,none⟩) (by simp) _).trans hBel⟩
     simp [results,Tryz.f118,go_sem,h1]
    ·have h5':(bits .andNot .u64 xk Bv != 0)=false:=by rw[bne,h5];rfl
     have H5:=zH h5
     clear hab
     gi_quiet ((gi_at_call 168;exact callsIn_wide.2 (mM HXk HA _)))
     have hc12:(W1.drewN nq).cell? ⟨w.heap.size+1,0,none⟩=some (.bool false):=hc11
     have hf12:(W1.drewN nq).frozen? ⟨w.heap.size+1,0,none⟩=false:=hf11
     have hc02:(W1.drewN nq).cell? ⟨w.heap.size,0,none⟩=some (.slice (some ⟨bk,off,none⟩) xs.length cap):=hc01
     have hck2:(W1.drewN nq).cell? ⟨bk,off+k,none⟩=some (.int .u64 xk):=hck1
     have hbi2:(W1.drewN nq).cell? ⟨Bi,0,none⟩=some (.int .i64 (k:Int)):=hbi.1
     have hB2:=_root_.Go.below_drewN hB1 nq
     have hM2:=zH (hM1.out.drewN nq)
     have hW2:(W1.drewN nq).heap.size=Bi+1:=hWs
     clear hc01 hck1 hc11 hf11 hB1 hM1 hbi hWs
     generalize W1.drewN nq=W2 at hc12 hf12 hc02 hck2 hbi2 hB2 hM2 hW2 ⊢
     gi_wp2
     rename_i K9 hK9
     obtain⟨mk,hmk⟩:∃mk,MM.cN xk (k:Int)=mk:=⟨_,rfl⟩
     have HMk:=zH hmk
     have hmb:=MM.oT xk (k:Int) HXk.out.1 HXk.out.2
     rw[hmk] at hmb
     clear hmk
     have hSub:=LL.cg.1 (show LL.subB xk (MM.cj (xs.length:Int))=true by
      have hb9:=LL.gI xs.length H0.out.2
      rw[<-LL.iN xk _ HXk.out.1 HXk.out.2 hb9.1 hb9.2,HBv.out];exact H5.out)
     have HXl:=zH (show ∀z:Nat,MM.hasB mk (z:Int)=true->z<xs.length by
      intro z hz
      rw[<-HMk.out,LL.fS _ _ _ (by have:=H0.out.2;omega),Bool.and_eq_true] at hz
      have:=hSub z hz.1
      rw[LL.dX _ _ H0.out.2,decide_eq_true_eq] at this
      exact this)
     clear hSub
     have hsB:Bi<W2.heap.size:=by omega
     have HK:K9 { tmps:=#[.slice (some ⟨bk,off,none⟩) xs.length cap,.pointer (some ⟨w.heap.size,0,none⟩),.pointer (some ⟨w.heap.size+1,0,none⟩),.int .u64 Bv,.pointer (some ⟨Bi,0,none⟩),u5,.slice (some ⟨bk,off,none⟩) xs.length cap,.int .i64 (xs.length:Int),.bool false,.bool false,.slice (some ⟨bk,off,none⟩) xs.length cap,.int .i64 (xs.length:Int),.bool false,.bool false,.slice (some ⟨bk,off,none⟩) xs.length cap,.int .i64 (xs.length:Int),.int .u64 Bv,.slice (some ⟨bk,off,none⟩) xs.length cap,.int .i64 (xs.length:Int),.int .i64 (k:Int),.bool true,.int .i64 (k:Int),.slice (some ⟨bk,off,none⟩) xs.length cap,.int .i64 (k:Int),.pointer (some ⟨bk,off+k,none⟩),.int .u64 xk,.int .i64 (k:Int),.bool true,.bool false,.bool false,.slice (some ⟨bk,off,none⟩) xs.length cap,.int .i64 (k:Int),.pointer (some ⟨bk,off+k,none⟩),.int .u64 xk,.int .u64 Bv,.int .u64 (bits .andNot .u64 xk Bv),.bool false,.bool false,.slice (some ⟨bk,off,none⟩) xs.length cap,.int .i64 (k:Int),.pointer (some ⟨bk,off+k,none⟩),.int .u64 xk,.int .i64 (k:Int),.int .u64 mk,.func (.func 201) #[] #[.pointer (some ⟨Bi+1,0,none⟩)],undef,u46,u47,u48,u49,u50,u51,u52,u53,u54,u55,u56,u57,u58,u59,u60,u61,u62,u63,u64],defers:=marks Ds } (W2.alloc (.cells #[.int .u64 mk] 178)).drew:=by
      apply hK9
      clear hK9
      have hbm:=bX W2 (.int .u64 mk) 178
      rw[hW2] at hbm
      have hcm:(W2.alloc (.cells #[.int .u64 mk] 178)).drew.cell? ⟨Bi+1,0,none⟩=some (.int .u64 mk):=hbm.1
      have hc03:(W2.alloc (.cells #[.int .u64 mk] 178)).drew.cell? ⟨w.heap.size,0,none⟩=some (.slice (some ⟨bk,off,none⟩) xs.length cap):=aD (W:=W2) _ hc02
      have hc13:(W2.alloc (.cells #[.int .u64 mk] 178)).drew.cell? ⟨w.heap.size+1,0,none⟩=some (.bool false):=aD (W:=W2) _ hc12
      have hf13:(W2.alloc (.cells #[.int .u64 mk] 178)).drew.frozen? ⟨w.heap.size+1,0,none⟩=false:=bP (W:=W2) _ hc12 hf12
      have hbi3:(W2.alloc (.cells #[.int .u64 mk] 178)).drew.cell? ⟨Bi,0,none⟩=some (.int .i64 (k:Int)):=aD (W:=W2) _ hbi2
      have hB3:Below w.heap.size w (W2.alloc (.cells #[.int .u64 mk] 178)).drew:=(hB2.alloc hB2.size _).drew
      have hM3:cW w.heap.size (W2.alloc (.cells #[.int .u64 mk] 178)).drew Ds:=(hM2.out.keeps (KeepsOthers.alloc W2 (.cells #[.int .u64 mk] 178))).drewN 1
      have hT3:Tz (W2.alloc (.cells #[.int .u64 mk] 178)).drew:=hT.on hB3
      have hW3:(W2.alloc (.cells #[.int .u64 mk] 178)).drew.heap.size=Bi+2:=by show (W2.alloc _).heap.size=_;rw[World.size_alloc,hW2]
      generalize (W2.alloc (.cells #[.int .u64 mk] 178)).drew=W3 at hcm hc03 hc13 hf13 hbi3 hB3 hM3 hT3 hW3 ⊢
      clear hbm hc12 hf12 hc02 hck2 hbi2 hB2 hM2 hW2 hsB
      gi_wp2
      have hDlt:∀D∈Ds,D<W3.heap.size:=fun D hD=>hM3.lt hD
      refine wpIn_rangeFunc_ownF rfl (by omega) (gf:=201) (lb:=#[.pointer (some ⟨Bi+1,0,none⟩)]) rfl trivial (enters_of Tryz.func201 (by kernel_rfl) rfl)
       (kM _ (by omega) (Bi+1) mk hmb.1 hmb.2 W3 (by omega) hcm hT3) (fun h k=>h.trans k) (oY (by omega)) (Below.refl _ _) (fun _=>rfl)
       (fun pre Wr=>(((Wr.cell? ⟨w.heap.size,0,none⟩=some (.slice (some ⟨bk,off,none⟩) xs.length cap)/\Wr.cell? ⟨Bi,0,none⟩=some (.int .i64 (k:Int))/\(Wr.cell? ⟨w.heap.size+1,0,none⟩=some (.bool false)/\Wr.frozen? ⟨w.heap.size+1,0,none⟩=false))/\RowKit.Hid (∀z∈pre,LL.pAt xs k z.1=true))/\cW w.heap.size Wr Ds)/\Below w.heap.size w Wr)
       (fun c pre Wr=>(((c=.ret/\Wr.cell? ⟨w.heap.size+1,0,none⟩=some (.bool false))/\RowKit.Hid (∃z,z∈MM.dG mk/\LL.pAt xs k z=false))/\cW w.heap.size Wr Ds)/\Below w.heap.size w Wr)
       (OwnFrom.and (OwnFrom.and (Own.from (fun s A B row hs hg hr=>⟨⟨cell_kept hs.1.1 hg hr,cell_kept hs.1.2.1 hg hr,⟨cell_kept hs.1.2.2.1 hg hr,(frozen_kept hs.1.2.2.1 hg hr).trans hs.1.2.2.2⟩⟩,hs.2⟩) _) (mp _ _ _ hDlt)) (ownFrom_below (Nat.le_refl _) (by omega)))
       (fun c=>OwnFrom.and (OwnFrom.and (Own.from (fun s A B row hs hg hr=>⟨⟨hs.1.1,cell_kept hs.1.2 hg hr⟩,hs.2⟩) _) (mp _ _ _ hDlt)) (ownFrom_below (Nat.le_refl _) (by omega)))
       ⟨⟨⟨⟨hc03,hbi3,hc13,hf13⟩,zH (fun z hz=>by cases hz)⟩,hM3⟩,hB3⟩
       (fun z=>{ tmps:=#[.slice (some ⟨bk,off,none⟩) xs.length cap,.pointer (some ⟨w.heap.size,0,none⟩),.pointer (some ⟨w.heap.size+1,0,none⟩),.int .u64 Bv,.pointer (some ⟨Bi,0,none⟩),.int .i64 ((z.1:Nat):Int),.slice (some ⟨bk,off,none⟩) xs.length cap,.int .i64 (xs.length:Int),.bool false,.bool false,.slice (some ⟨bk,off,none⟩) xs.length cap,.int .i64 (xs.length:Int),.bool false,.bool false,.slice (some ⟨bk,off,none⟩) xs.length cap,.int .i64 (xs.length:Int),.int .u64 Bv,.slice (some ⟨bk,off,none⟩) xs.length cap,.int .i64 (xs.length:Int),.int .i64 (k:Int),.bool true,.int .i64 (k:Int),.slice (some ⟨bk,off,none⟩) xs.length cap,.int .i64 (k:Int),.pointer (some ⟨bk,off+k,none⟩),.int .u64 xk,.int .i64 (k:Int),.bool true,.bool false,.bool false,.slice (some ⟨bk,off,none⟩) xs.length cap,.int .i64 (k:Int),.pointer (some ⟨bk,off+k,none⟩),.int .u64 xk,.int .u64 Bv,.int .u64 (bits .andNot .u64 xk Bv),.bool false,.bool false,.slice (some ⟨bk,off,none⟩) xs.length cap,.int .i64 (k:Int),.pointer (some ⟨bk,off+k,none⟩),.int .u64 xk,.int .i64 (k:Int),.int .u64 mk,.func (.func 201) #[] #[.pointer (some ⟨Bi+1,0,none⟩)],.int .i64 ((z.1:Nat):Int),u46,u47,u48,u49,u50,u51,u52,u53,u54,u55,u56,u57,u58,u59,u60,u61,u62,u63,u64],defers:=[] }) ?assign ?body ?done ?stop
      case assign =>
       intro l z W K hK
       gi_wp2
       exact hK
      case body =>
       rintro l pre z Wr ⟨⟨⟨⟨hc0,hbi,hc1,hf1⟩,HP⟩,hMr⟩,hBr⟩ hlt
       obtain⟨z,hzm⟩:=z
       have hzl:=HXl.out z hzm
       have hcz:Wr.cell? ⟨bk,off+z,none⟩=some (.int .u64 (xs[z]?.getD 0)):=(hBr.cell (p:=⟨bk,off+z,none⟩) (by show bk<w.heap.size;omega)).trans (HC.out z hzl)
       have hckr:Wr.cell? ⟨bk,off+k,none⟩=some (.int .u64 xk):=by rw[<-HXe.out];exact(hBr.cell (p:=⟨bk,off+k,none⟩) (by show bk<w.heap.size;omega)).trans (HC.out k hkn)
       have HXz:=zH (HX.out.at z)
       have i3:(0:Int)<=z/\(z:Int)<xs.length:=by omega
       have hgz:decide ((xs.length:Int)<=(z:Int))=false:=decide_eq_false (by omega)
       have hgz2:decide (xs.length<=z)=false:=decide_eq_false (by omega)
       obtain⟨xz,hxz⟩:∃xz,xs[z]?.getD 0=xz:=⟨_,rfl⟩
       have HXze:=zH hxz
       rw[hxz] at hcz HXz
       clear hxz
       have HMr:=zH hMr
       clear hMr
       have HMem:=zH (LL.jm.2 hzm)
       cases hab:LL.ab xs z k
       ·have HA:=zH (show MM.hasB xz (k:Int)=false by rw[<-HXze.out];exact hab)
        cases h6:(bits .andNot .u64 xz xk == 0)
        ·have h6':(bits .andNot .u64 xz xk != 0)=true:=by rw[bne,h6];rfl
         have HNo:=zH (show ∃z,z∈MM.dG mk/\LL.pAt xs k z=false from⟨z,HMem.out,by unfold LL.pAt;rw[HXze.out,HXe.out,h6,Bool.and_false]⟩)
         clear hab
         gi_wp2
         refine bT (by kernel_rfl) (by kernel_rfl) (by kernel_rfl) ?_
         repeat (gi_big_quiet_step ((gi_at_call 168;exact CallsIn.inRound l (callsIn_wide.2 (mM HXz HA _)))))
         refine wpQuietIn_nil ?_
         intro _ hw'
         obtain⟨nq,hw''⟩:=hw'
         subst hw''
         have hc14:(Wr.drewN nq).cell? ⟨w.heap.size+1,0,none⟩=some (.bool false):=hc1
         have hf14:(Wr.drewN nq).frozen? ⟨w.heap.size+1,0,none⟩=false:=hf1
         have hB4:=_root_.Go.below_drewN hBr nq
         have hM4:=zH (HMr.out.drewN nq)
         have hK4:KeepsOthers Wr (Wr.drewN nq):=⟨Nat.le_refl _,fun _ _ h _=>h⟩
         generalize Wr.drewN nq=W4 at hc14 hf14 hB4 hM4 hK4 ⊢
         gi_wp2
         exact⟨hK4.trans (KeepsOthers.setCell _ _ _),⟨⟨⟨rfl,World.cell?_setCell_same' _ _ _ (by rw[hc14];rfl)⟩,HNo⟩,hM4.out.keeps (KeepsOthers.setCell _ _ _)⟩,hB4.setCell (p:=⟨w.heap.size+1,0,none⟩) (by simp) _⟩
        ·have h6':(bits .andNot .u64 xz xk != 0)=false:=by rw[bne,h6];rfl
         have HYes:=zH (show ∀y∈pre ++ [(⟨z,hzm⟩:InS mk)],LL.pAt xs k y.1=true from fun y hy=>by
          rcases List.mem_append.1 hy with h | h
          ·exact HP.out y h
          ·obtain rfl:=List.mem_singleton.1 h
           show LL.pAt xs k z=true
           unfold LL.pAt
           rw[hab,HXze.out,HXe.out,h6];rfl)
         clear hab
         gi_wp2
         refine bT (by kernel_rfl) (by kernel_rfl) (by kernel_rfl) ?_
         repeat (gi_big_quiet_step ((gi_at_call 168;exact CallsIn.inRound l (callsIn_wide.2 (mM HXz HA _)))))
         refine wpQuietIn_nil ?_
         intro _ hw'
         obtain⟨nq,hw''⟩:=hw'
         subst hw''
         gi_wp2
         exact⟨⟨Nat.le_refl _,fun _ _ h _=>h⟩,rfl,⟨⟨⟨hc0,hbi,hc1,hf1⟩,HYes⟩,HMr.out.drewN nq⟩,_root_.Go.below_drewN hBr nq⟩
       ·have HA:=zH (show MM.hasB xz (k:Int)=true by rw[<-HXze.out];exact hab)
        have HNo:=zH (show ∃z,z∈MM.dG mk/\LL.pAt xs k z=false from⟨z,HMem.out,by unfold LL.pAt;rw[hab];rfl⟩)
        clear hab
        gi_wp2
        refine bT (by kernel_rfl) (by kernel_rfl) (by kernel_rfl) ?_
        repeat (gi_big_quiet_step ((gi_at_call 168;exact CallsIn.inRound l (callsIn_wide.2 (mM HXz HA _)))))
        refine wpQuietIn_nil ?_
        intro _ hw'
        obtain⟨nq,hw''⟩:=hw'
        subst hw''
        have hc14:(Wr.drewN nq).cell? ⟨w.heap.size+1,0,none⟩=some (.bool false):=hc1
        have hf14:(Wr.drewN nq).frozen? ⟨w.heap.size+1,0,none⟩=false:=hf1
        have hB4:=_root_.Go.below_drewN hBr nq
        have hM4:=zH (HMr.out.drewN nq)
        have hK4:KeepsOthers Wr (Wr.drewN nq):=⟨Nat.le_refl _,fun _ _ h _=>h⟩
        generalize Wr.drewN nq=W4 at hc14 hf14 hB4 hM4 hK4 ⊢
        gi_wp2
        exact⟨hK4.trans (KeepsOthers.setCell _ _ _),⟨⟨⟨rfl,World.cell?_setCell_same' _ _ _ (by rw[hc14];rfl)⟩,HNo⟩,hM4.out.keeps (KeepsOthers.setCell _ _ _)⟩,hB4.setCell (p:=⟨w.heap.size+1,0,none⟩) (by simp) _⟩
      case done =>
       rintro D ys Wr hD hys ⟨⟨⟨⟨hc0,hbi,hc1,hf1⟩,HP⟩,hMr⟩,hBr⟩ hKD
       have HS:=zH (LL.lq HN.out (show LL.pRow xs k=true by
        unfold LL.pRow
        rw[HAb.out,HXe.out,HBv.out,H5.out,HMk.out,Bool.true_and,Bool.true_and,List.all_eq_true]
        intro z hz
        rw[<-hys] at hz
        obtain⟨y,hy,rfl⟩:=List.mem_map.1 hz
        exact HP.out y hy))
       clear hys
       gi_wp2
       refine⟨⟨k+1,D :: Ds,?_⟩,by simp [intOf];omega⟩
       (repeat apply Exists.intro)
       exact⟨rfl,by omega,⟨hc0,hc1,hf1⟩,hMr.cons (by omega) hKD (fun E hE=>Nat.lt_of_lt_of_le (hDlt E hE) hD),hBr,HS⟩
      case stop =>
       rintro D c pre Wr hD hpre ⟨⟨⟨⟨rfl,hc1⟩,HP⟩,hMr⟩,hBr⟩ hKD
       have HR:=zH (HPno.out (show LL.pRow xs k=false by
        obtain⟨z,hz,hf⟩:=HP.out
        unfold LL.pRow
        rw[HXe.out,HMk.out,Bool.and_eq_false_iff]
        right
        rw[Bool.eq_false_iff]
        intro ha
        rw[List.all_eq_true] at ha
        rw[ha z hz] at hf;cases hf))
       clear hpre
       gi_wp2
       show LeavesInM _ _ _ _ _ _ (marks (D :: Ds)) .returning _
       refine dP (b:=w.heap.size) (D :: Ds) _ hBr.size (hMr.cons (by omega) hKD (fun E hE=>Nat.lt_of_lt_of_le (hDlt E hE) hD)) fun W' hcell hBel=>?_
       have h1:=hcell _ _ hc1
       refine⟨.bool false,?_,by rw[HR.out],hBr.trans hBel⟩
       simp [results,Tryz.f118,go_sem,h1]
     clear HC HV H0 HN HPno HXe HBv HAb H5 h5' hB2 hM2 hG hT hmb HXl hc12 hf12
     gi_region_with (first
      | (gi_at_call 170;refine(callsIn_wide.2 (oV xk _ _ HXk.out.1 HXk.out.2)).mono ?_;rintro e w' ⟨rfl,rfl⟩;rw[HMk.out])
      | (gi_at_call 169;refine(callsIn_wide.2 (all_any mk _)).mono ?_;rintro e w' ⟨rfl,rfl⟩))
     all_goals exact HK
  ·have HR:=zH (show LL.ordB xs=true from LL.ord_rows HX.out H0.out fun i hi=>HN.out i (by omega))
   gi_wp2
   show LeavesInM _ _ _ _ _ _ (marks Ds) .returning _
   refine dP (b:=w.heap.size) Ds _ (by have:=hB.size;simp;omega) (HM.out.keeps (KeepsOthers.setCell _ _ _)) fun W' hcell hBel=>?_
   have h1:=hcell _ _ (World.cell?_setCell_same' W ⟨w.heap.size+1,0,none⟩ (.bool true) (by rw[hc1];rfl))
   refine⟨.bool true,?_,by rw[HR.out],(hB.setCell (p:=⟨w.heap.size+1,0,none⟩) (by simp) _).trans hBel⟩
   simp [results,Tryz.f118,go_sem,h1]
end
section
open Go.RowKit Go.Shelf
attribute [local go_sem] Oper.semAt_some
theorem way1_q{Bt Bu i n₀:Nat}{xs:List Int}{t:Bool}{y:Int}{W:World}(HW:RowKit.Hid (Way n₀ W Bt Bu xs t))(HX:RowKit.Hid (Wide xs))(hl:xs.length<=64)(hi:i<xs.length)(hy:RowKit.Hid ((beyL xs t)[i]?.getD 0=y))(n:Nat) :
 Calls Tryz.prog 171 #[.int .i64 i,.pointer (some ⟨Bt,0,none⟩),.pointer (some ⟨Bu,0,none⟩)] (W.drewN n) fun e w'=>e=.returned (.int .u64 y)/\∃k,w'=W.drewN k :=
 (jp Bt Bu i n₀ xs t (W.drewN n) (HW.out.below ⟨rfl,rfl,rfl,Nat.le_refl _,fun _ _=>rfl⟩) HX.out hl hi).mono fun e w' h'=>⟨by rw[h'.1,hy.out],n,h'.2⟩
attribute [local simp] iq
set_option maxRecDepth 100000 in
set_option maxHeartbeats 8000000 in
theorem pN(Bt Bu a b n₀:Nat)(xs:List Int)(t:Bool)(w:World)(h:Way n₀ w Bt Bu xs t)(hn:n₀<=w.heap.size)(hx:Wide xs)(ho:LL.ordB xs=true)(ha:a<xs.length)(hb:b<xs.length)(hT:Tz w) :
 Calls Tryz.prog 121 #[.int .i64 a,.int .i64 b,wayF Bt Bu] w fun e w'=>e=nearE (LL.dD (beyL xs t) a b)/\Below w.heap.size w w':=by
 have HW:=zH h
 have HX:=zH hx
 have HO:=zH (bey_ord ho hx t)
 have HBx:=zH (pM hx t)
 have hl:=(LL.fR ho).2
 have HL:=zH (bey_len xs t)
 have hG:=hT.lt
 clear h hx ho
 unfold wayF
 refine(callsIn_wide (n:=5)).1 ?_
 refine callsIn_of_wp_marks Tryz.func121 rfl trivial ?_ rfl
 simp only[Tryz.ntmps121,List.size_toArray,List.length_cons,List.length_nil,Nat.reduceAdd,Nat.reduceSub,Array.replicate_succ,Array.replicate_zero,List.push_toArray,List.append_toArray,List.nil_append,List.cons_append]
 refine wpIn_mono (Q:=gU _) ?_ eE
 gi_wp2
 rename_i Q' K hK
 have hB3:=(((Below.refl w.heap.size w).alloc (Nat.le_refl _) (.cells #[.func (.func 171) #[] #[.pointer (some ⟨Bt,0,none⟩),.pointer (some ⟨Bu,0,none⟩)]] 190)).alloc (by simp) (.cells #[.int .i64 0] 3)).alloc (by simp;omega) (.cells #[.bool false] 4)
 have hcl:(((w.alloc (.cells #[.func (.func 171) #[] #[.pointer (some ⟨Bt,0,none⟩),.pointer (some ⟨Bu,0,none⟩)]] 190)).alloc (.cells #[.int .i64 0] 3)).alloc (.cells #[.bool false] 4)).cell? ⟨w.heap.size,0,none⟩=some (.func (.func 171) #[] #[.pointer (some ⟨Bt,0,none⟩),.pointer (some ⟨Bu,0,none⟩)]) :=
  aD _ (aD _ (bX w _ _).1)
 have hr1:(((w.alloc (.cells #[.func (.func 171) #[] #[.pointer (some ⟨Bt,0,none⟩),.pointer (some ⟨Bu,0,none⟩)]] 190)).alloc (.cells #[.int .i64 0] 3)).alloc (.cells #[.bool false] 4)).cell? ⟨w.heap.size+1,0,none⟩=some (.int .i64 0)/\(((w.alloc (.cells #[.func (.func 171) #[] #[.pointer (some ⟨Bt,0,none⟩),.pointer (some ⟨Bu,0,none⟩)]] 190)).alloc (.cells #[.int .i64 0] 3)).alloc (.cells #[.bool false] 4)).frozen? ⟨w.heap.size+1,0,none⟩=false:=by
  have h:=bX (w.alloc (.cells #[.func (.func 171) #[] #[.pointer (some ⟨Bt,0,none⟩),.pointer (some ⟨Bu,0,none⟩)]] 190)) (.int .i64 0) 3
  rw[World.size_alloc] at h
  exact⟨aD _ h.1,bP _ h.1 h.2⟩
 have hr2:(((w.alloc (.cells #[.func (.func 171) #[] #[.pointer (some ⟨Bt,0,none⟩),.pointer (some ⟨Bu,0,none⟩)]] 190)).alloc (.cells #[.int .i64 0] 3)).alloc (.cells #[.bool false] 4)).cell? ⟨w.heap.size+1+1,0,none⟩=some (.bool false)/\(((w.alloc (.cells #[.func (.func 171) #[] #[.pointer (some ⟨Bt,0,none⟩),.pointer (some ⟨Bu,0,none⟩)]] 190)).alloc (.cells #[.int .i64 0] 3)).alloc (.cells #[.bool false] 4)).frozen? ⟨w.heap.size+1+1,0,none⟩=false:=by
  have h:=bX ((w.alloc (.cells #[.func (.func 171) #[] #[.pointer (some ⟨Bt,0,none⟩),.pointer (some ⟨Bu,0,none⟩)]] 190)).alloc (.cells #[.int .i64 0] 3)) (.bool false) 4
  rw[World.size_alloc,World.size_alloc] at h
  exact h
 obtain⟨W3,hW3⟩:∃W3,((w.alloc (.cells #[.func (.func 171) #[] #[.pointer (some ⟨Bt,0,none⟩),.pointer (some ⟨Bu,0,none⟩)]] 190)).alloc (.cells #[.int .i64 0] 3)).alloc (.cells #[.bool false] 4)=W3:=⟨_,rfl⟩
 rw[hW3] at hB3 hcl hr1 hr2 ⊢
 have HW3:=zH (HW.out.below (hB3.mono hn))
 have HSz:=zH (show W3.heap.size=w.heap.size+3 by rw[<-hW3];simp)
 have hsz3:W3.heap.size=w.heap.size+3:=HSz.out
 have hbI:=LL.both_bd HBx.out a b
 have HBI:=zH (show bits .and .u64 ((beyL xs t)[a]?.getD 0) ((beyL xs t)[b]?.getD 0)=LL.cu (beyL xs t) a b from rfl)
 obtain⟨ya,hya⟩:∃y,(beyL xs t)[a]?.getD 0=y:=⟨_,rfl⟩
 obtain⟨yb,hyb⟩:∃y,(beyL xs t)[b]?.getD 0=y:=⟨_,rfl⟩
 rw[hya,hyb] at HBI
 have HYA:=zH hya
 have HYB:=zH hyb
 clear hya hyb
 have HK:Exit.then K Q' Exit.normal { tmps:=#[.int .i64 a,.int .i64 b,.func (.func 171) #[] #[.pointer (some ⟨Bt,0,none⟩),.pointer (some ⟨Bu,0,none⟩)],undef,undef,.pointer (some ⟨w.heap.size,0,none⟩),.pointer (some ⟨w.heap.size+1,0,none⟩),.pointer (some ⟨w.heap.size+1+1,0,none⟩),.pointer (some ⟨w.heap.size+3,0,none⟩),undef,
  .func (.func 171) #[] #[.pointer (some ⟨Bt,0,none⟩),.pointer (some ⟨Bu,0,none⟩)],.int .i64 a,.int .u64 ya,.func (.func 171) #[] #[.pointer (some ⟨Bt,0,none⟩),.pointer (some ⟨Bu,0,none⟩)],.int .i64 b,.int .u64 yb,.int .u64 (bits .and .u64 ya yb),undef,undef,undef,undef,undef,undef,undef,undef,undef],defers:=[] }
  (W3.alloc (.cells #[.int .u64 (bits .and .u64 ya yb)] 178)).drew:=by
  show K _ _
  apply hK
  clear hK
  have hbB:(W3.alloc (.cells #[.int .u64 (bits .and .u64 ya yb)] 178)).drew.cell? ⟨w.heap.size+3,0,none⟩=some (.int .u64 (bits .and .u64 ya yb)):=by
   have h:=(bX W3 (.int .u64 (bits .and .u64 ya yb)) 178).1
   rw[hsz3] at h;exact h
  have hcl4:(W3.alloc (.cells #[.int .u64 (bits .and .u64 ya yb)] 178)).drew.cell? ⟨w.heap.size,0,none⟩=some (.func (.func 171) #[] #[.pointer (some ⟨Bt,0,none⟩),.pointer (some ⟨Bu,0,none⟩)]):=aD (W:=W3) _ hcl
  have hr14:(W3.alloc (.cells #[.int .u64 (bits .and .u64 ya yb)] 178)).drew.cell? ⟨w.heap.size+1,0,none⟩=some (.int .i64 0)/\(W3.alloc (.cells #[.int .u64 (bits .and .u64 ya yb)] 178)).drew.frozen? ⟨w.heap.size+1,0,none⟩=false:=⟨aD (W:=W3) _ hr1.1,bP (W:=W3) _ hr1.1 hr1.2⟩
  have hr24:(W3.alloc (.cells #[.int .u64 (bits .and .u64 ya yb)] 178)).drew.cell? ⟨w.heap.size+1+1,0,none⟩=some (.bool false)/\(W3.alloc (.cells #[.int .u64 (bits .and .u64 ya yb)] 178)).drew.frozen? ⟨w.heap.size+1+1,0,none⟩=false:=⟨aD (W:=W3) _ hr2.1,bP (W:=W3) _ hr2.1 hr2.2⟩
  have hB4:Below w.heap.size w (W3.alloc (.cells #[.int .u64 (bits .and .u64 ya yb)] 178)).drew:=(hB3.alloc (by omega) _).drew
  have hsz4:(W3.alloc (.cells #[.int .u64 (bits .and .u64 ya yb)] 178)).drew.heap.size=w.heap.size+4:=by show (W3.alloc _).heap.size=_;rw[World.size_alloc,hsz3]
  rw[HBI.out] at hbB hcl4 hr14 hr24 hB4 hsz4 ⊢
  generalize (W3.alloc (.cells #[.int .u64 (LL.cu (beyL xs t) a b)] 178)).drew=W4 at hbB hcl4 hr14 hr24 hB4 hsz4 ⊢
  clear hB3 hcl hr1 hr2 hW3
  gi_wp2_with (refine⟨trivial,?_⟩;gi_at_call 169;refine(callsIn_wide.2 (all_any _ _)).mono ?_;rintro e w' ⟨rfl,rfl⟩)
  have hb5:=bX W4 (.int .u64 (LL.cu (beyL xs t) a b)) 178
  rw[hsz4] at hb5
  have hXl:∀x:Nat,MM.hasB (LL.cu (beyL xs t) a b) (x:Int)=true->x<xs.length:=by
   intro x hx
   rw[LL.gJ HBx.out,Bool.and_eq_true] at hx
   have:=(LL.gE HO.out (by rw[HL.out];exact ha) hx.1).1
   rw[HL.out] at this;exact this
  refine wpIn_rangeFunc_ownF rfl (by omega) (gf:=201) (lb:=#[.pointer (some ⟨w.heap.size+4,0,none⟩)]) rfl trivial (enters_of Tryz.func201 (by kernel_rfl) rfl)
   (kM _ (by omega) (w.heap.size+4) (LL.cu (beyL xs t) a b) hbI.1 hbI.2 _ (by rw[World.size_alloc];omega) hb5.1 ((hT.on hB4).alloc _)) (fun h k=>h.trans k) (oY (by rw[World.size_alloc];omega)) (Below.refl _ _) (fun _=>rfl)
   (fun pre W=>((W.cell? ⟨w.heap.size,0,none⟩=some (.func (.func 171) #[] #[.pointer (some ⟨Bt,0,none⟩),.pointer (some ⟨Bu,0,none⟩)])/\W.cell? ⟨w.heap.size+3,0,none⟩=some (.int .u64 (LL.cu (beyL xs t) a b))/\(W.cell? ⟨w.heap.size+1,0,none⟩=some (.int .i64 0)/\W.frozen? ⟨w.heap.size+1,0,none⟩=false)/\(W.cell? ⟨w.heap.size+1+1,0,none⟩=some (.bool false)/\W.frozen? ⟨w.heap.size+1+1,0,none⟩=false))/\RowKit.Hid (∀x∈pre,(beyL xs t)[x.1]?.getD 0≠LL.cu (beyL xs t) a b))/\Below w.heap.size w W)
   (fun c pre W=>((c=.ret/\∃x:Nat,RowKit.Hid (MM.hasB (LL.cu (beyL xs t) a b) (x:Int)=true/\(beyL xs t)[x]?.getD 0=LL.cu (beyL xs t) a b)/\W.cell? ⟨w.heap.size+1,0,none⟩=some (.int .i64 (x:Int))/\W.cell? ⟨w.heap.size+1+1,0,none⟩=some (.bool true)))/\Below w.heap.size w W)
   (OwnFrom.and (Own.from (fun s A B row hs hg hr=>⟨⟨cell_kept hs.1.1 hg hr,cell_kept hs.1.2.1 hg hr,⟨cell_kept hs.1.2.2.1.1 hg hr,(frozen_kept hs.1.2.2.1.1 hg hr).trans hs.1.2.2.1.2⟩,⟨cell_kept hs.1.2.2.2.1 hg hr,(frozen_kept hs.1.2.2.2.1 hg hr).trans hs.1.2.2.2.2⟩⟩,hs.2⟩) _) (ownFrom_below (Nat.le_refl _) (by rw[World.size_alloc];omega)))
   (fun c=>OwnFrom.and (Own.from (fun s A B row hs hg hr=>⟨hs.1,by obtain⟨x,e,h1,h2⟩:=hs.2;exact⟨x,e,cell_kept h1 hg hr,cell_kept h2 hg hr⟩⟩) _) (ownFrom_below (Nat.le_refl _) (by rw[World.size_alloc];omega)))
   ⟨⟨⟨aD _ hcl4,aD _ hbB,⟨aD _ hr14.1,bP _ hr14.1 hr14.2⟩,⟨aD _ hr24.1,bP _ hr24.1 hr24.2⟩⟩,zH (fun x hx=>by cases hx)⟩,hB4.alloc (by omega) _⟩
   (fun x=>{ tmps:=#[.int .i64 a,.int .i64 b,.func (.func 171) #[] #[.pointer (some ⟨Bt,0,none⟩),.pointer (some ⟨Bu,0,none⟩)],undef,undef,.pointer (some ⟨w.heap.size,0,none⟩),.pointer (some ⟨w.heap.size+1,0,none⟩),.pointer (some ⟨w.heap.size+1+1,0,none⟩),.pointer (some ⟨w.heap.size+3,0,none⟩),.int .i64 ((x.1:Nat):Int),.func (.func 171) #[] #[.pointer (some ⟨Bt,0,none⟩),.pointer (some ⟨Bu,0,none⟩)],.int .i64 a,.int .u64 ya,.func (.func 171) #[] #[.pointer (some ⟨Bt,0,none⟩),.pointer (some ⟨Bu,0,none⟩)],.int .i64 b,.int .u64 yb,.int .u64 (LL.cu (beyL xs t) a b),.int .u64 (LL.cu (beyL xs t) a b),.func (.func 201) #[] #[.pointer (some ⟨w.heap.size+4,0,none⟩)],.int .i64 ((x.1:Nat):Int),undef,undef,undef,undef,undef,undef],defers:=[] }) ?assign ?body ?done ?stop
  case assign =>
   intro l x W K hK
   gi_wp2
   exact hK
  case body =>
   rintro l pre x W ⟨⟨⟨hc0,hcb,⟨hc1,hf1⟩,hc2,hf2⟩,HP⟩,hB⟩ hlt
   obtain⟨x,hxm⟩:=x
   have hxl:=hXl x hxm
   have HWr:=zH (HW.out.below (hB.mono hn))
   obtain⟨yx,hyx⟩:∃y,(beyL xs t)[x]?.getD 0=y:=⟨_,rfl⟩
   have HYX:=zH hyx
   have HXM:=zH hxm
   obtain⟨bo,hbo⟩:∃y,LL.cu (beyL xs t) a b=y:=⟨_,rfl⟩
   have HBo:=zH hbo
   rw[hbo] at hcb
   clear hyx
   cases he:(yx == bo)
   ·have HN:=zH (show ∀z∈pre ++ [(⟨x,hxm⟩:InS (LL.cu (beyL xs t) a b))],(beyL xs t)[z.1]?.getD 0≠LL.cu (beyL xs t) a b from fun z hz=>by
     rcases List.mem_append.1 hz with h | h
     ·exact HP.out z h
     ·obtain rfl:=List.mem_singleton.1 h
      show (beyL xs t)[x]?.getD 0≠_
      rw[HYX.out,HBo.out]
      exact beq_eq_false_iff_ne.1 he)
    clear hbo
    gi_wp2
    refine bT (by kernel_rfl) (by kernel_rfl) (by kernel_rfl) ?_
    repeat (gi_big_quiet_step ((gi_at_call 171;exact CallsIn.inRound l (callsIn_wide.2 (way1_q HWr HX hl hxl HYX _)))))
    refine wpQuietIn_nil ?_
    intro _ hw'
    obtain⟨nq,hw''⟩:=hw'
    subst hw''
    gi_wp2
    exact⟨⟨Nat.le_refl _,fun _ _ h _=>h⟩,rfl,⟨⟨hc0,by rw[HBo.out];exact hcb,⟨hc1,hf1⟩,hc2,hf2⟩,HN⟩,_root_.Go.below_drewN hB nq⟩
   ·have HE:=zH (show MM.hasB (LL.cu (beyL xs t) a b) (x:Int)=true/\(beyL xs t)[x]?.getD 0=LL.cu (beyL xs t) a b from⟨hxm,by rw[HYX.out,HBo.out];exact beq_iff_eq.1 he⟩)
    clear hbo
    gi_wp2
    refine bT (by kernel_rfl) (by kernel_rfl) (by kernel_rfl) ?_
    repeat (gi_big_quiet_step ((gi_at_call 171;exact CallsIn.inRound l (callsIn_wide.2 (way1_q HWr HX hl hxl HYX _)))))
    refine wpQuietIn_nil ?_
    intro _ hw'
    obtain⟨nq,hw''⟩:=hw'
    subst hw''
    have hc14:(W.drewN nq).cell? ⟨w.heap.size+1,0,none⟩=some (.int .i64 0):=hc1
    have hf14:(W.drewN nq).frozen? ⟨w.heap.size+1,0,none⟩=false:=hf1
    have hc24:(W.drewN nq).cell? ⟨w.heap.size+1+1,0,none⟩=some (.bool false):=hc2
    have hf24:(W.drewN nq).frozen? ⟨w.heap.size+1+1,0,none⟩=false:=hf2
    have hB4':=_root_.Go.below_drewN hB nq
    have hK4:KeepsOthers W (W.drewN nq):=⟨Nat.le_refl _,fun _ _ h _=>h⟩
    generalize W.drewN nq=W6 at hc14 hf14 hc24 hf24 hB4' hK4 ⊢
    gi_wp2
    exact⟨hK4.trans ((KeepsOthers.setCell _ _ _).trans (KeepsOthers.setCell _ _ _)),⟨rfl,x,HE,(World.cell?_setCell_other _ _ _ _ (by simp)).trans (World.cell?_setCell_same' _ _ _ (by rw[hc14];rfl)),World.cell?_setCell_same' _ _ _ (by rw[World.cell?_setCell_other _ _ _ _ (by simp),hc24];rfl)⟩,(hB4'.setCell (p:=⟨w.heap.size+1,0,none⟩) (by simp) _).setCell (p:=⟨w.heap.size+1+1,0,none⟩) (by simp;omega) _⟩
  case done =>
   rintro D ys W hD hys ⟨⟨⟨hc0,hcb,⟨hc1,hf1⟩,hc2,hf2⟩,HP⟩,hB⟩ hK
   have HR:=zH (show LL.dD (beyL xs t) a b = -1 from LL.near_none HO.out HBx.out (by rw[HL.out];exact ha) (by rw[HL.out];exact hb) fun k hk=>by
    rw[<-hys] at hk
    obtain⟨z,hz,rfl⟩:=List.mem_map.1 hk
    exact HP.out z hz)
   clear hys
   gi_wp2
   have hK':=((KeepsOthers.setCell W ⟨w.heap.size+1,0,none⟩ (.int .i64 0)).trans (KeepsOthers.setCell _ ⟨w.heap.size+1+1,0,none⟩ (.bool false))).same D _ hK rfl
   refine⟨by simp,.inl ⟨_,_,rfl,run_takeDeferred hK',?_⟩⟩
   have h1:((W.setCell ⟨w.heap.size+1,0,none⟩ (.int .i64 0)).setCell ⟨w.heap.size+1+1,0,none⟩ (.bool false)).cell? ⟨w.heap.size+1,0,none⟩=some (.int .i64 0) :=
    (World.cell?_setCell_other _ _ _ _ (by simp)).trans (World.cell?_setCell_same' _ _ _ (by rw[hc1];rfl))
   have h2:((W.setCell ⟨w.heap.size+1,0,none⟩ (.int .i64 0)).setCell ⟨w.heap.size+1+1,0,none⟩ (.bool false)).cell? ⟨w.heap.size+1+1,0,none⟩=some (.bool false) :=
    World.cell?_setCell_same' _ _ _ (by rw[World.cell?_setCell_other _ _ _ _ (by simp),hc2];rfl)
   have h1':=cell_kept h1 (grownBy_putObj' _ D (.deferred none)) (fun r e=>(by cases e;exact⟨_,hK',rfl⟩))
   have h2':=cell_kept h2 (grownBy_putObj' _ D (.deferred none)) (fun r e=>(by cases e;exact⟨_,hK',rfl⟩))
   refine⟨.tuple #[.int .i64 0,.bool false],?_,by rw[HR.out];exact jq,((hB.setCell (p:=⟨w.heap.size+1,0,none⟩) (by simp) _).setCell (p:=⟨w.heap.size+1+1,0,none⟩) (by simp;omega) _).trans (belowK_b (w:=w) (Nat.le_refl _) _ D _ _ (by rw[World.size_alloc] at hD;omega) hK' rfl rfl)⟩
   simp [results,Tryz.f121,go_sem,h1',h2']
  case stop =>
   rintro D c pre W hD hpre ⟨⟨rfl,x,HE,hc1,hc2⟩,hB⟩ hK
   have HR:=zH (LL.near_hit HO.out HBx.out (by rw[HL.out];exact ha) (by rw[HL.out];exact hb) HE.out.1 HE.out.2)
   clear hpre
   gi_wp2
   refine⟨by simp,.inl ⟨_,_,rfl,run_takeDeferred hK,?_⟩⟩
   have h1':=cell_kept hc1 (grownBy_putObj' _ D (.deferred none)) (fun r e=>(by cases e;exact⟨_,hK,rfl⟩))
   have h2':=cell_kept hc2 (grownBy_putObj' _ D (.deferred none)) (fun r e=>(by cases e;exact⟨_,hK,rfl⟩))
   refine⟨.tuple #[.int .i64 (x:Int),.bool true],?_,by rw[HR.out];exact ig x,hB.trans (belowK_b (w:=w) (Nat.le_refl _) W D _ _ (by rw[World.size_alloc] at hD;omega) hK rfl rfl)⟩
   simp [results,Tryz.f121,go_sem,h1',h2']
 clear hr1 hr2 hbI HBI HSz hB3 hT hG HO HBx HL HW hW3
 gi_region_with (refine⟨trivial,?_⟩;gi_at_call 171;refine(callsIn_wide.2 (jp Bt Bu _ n₀ xs t _ (by first | exact HW3.out | exact HW3.out.drew | exact HW3.out.below ((Below.refl _ _).alloc (by omega) _) | exact(HW3.out.below ((Below.refl _ _).alloc (by omega) _)).drew | exact(HW3.out.drew.below ((Below.refl _ _).alloc (by show n₀<=W3.heap.size;omega) _)) | exact(HW3.out.drew.below ((Below.refl _ _).alloc (by show n₀<=W3.heap.size;omega) _)).drew) HX.out hl (by first | exact ha | exact hb))).mono ?_;rintro e w' ⟨rfl,rfl⟩;first | rw[HYA.out] | rw[HYB.out])
 all_goals exact HK
end
section
open Go.RowKit Go.Shelf
attribute [local go_sem] Oper.semAt_some
set_option maxRecDepth 100000 in
set_option maxHeartbeats 1600000 in
theorem mN(v:Value)(xs:List Int)(n₀:Nat)(w:World)(hv:Nums .u64 n₀ w v xs)(hn:n₀<=w.heap.size)(hx:Wide xs)(hl:xs.length<=big5)(hT:Tz w) :
 Calls Tryz.prog 118 #[v] w fun e w'=>e=.returned (.bool (LL.ordB xs))/\Below w.heap.size w w':=by
 by_cases h0:1<=xs.length/\xs.length<=64
 ·exact order_in v xs n₀ w hv hn hx h0 hT
 ·have HR:=zH (show LL.ordB xs=false by unfold LL.ordB;rw[decide_eq_false h0];rfl)
  have hl2:xs.length<=17592186044416:=hl
  obtain⟨a,cap,rfl⟩:=hv.form
  clear hv hx hl
  have hs1:=bX (w.alloc (.cells #[.slice a xs.length cap] 23)) (.bool false) 4
  rw[World.size_alloc] at hs1
  have hB0:=((Below.refl w.heap.size w).alloc (Nat.le_refl _) (.cells #[.slice a xs.length cap] 23)).alloc (by simp) (.cells #[.bool false] 4)
  refine(callsIn_wide (n:=5)).1 ?_
  refine callsIn_of_wp_marks Tryz.func118 rfl trivial ?_ rfl
  simp only[Tryz.ntmps118,List.size_toArray,List.length_cons,List.length_nil,Nat.reduceAdd,Nat.reduceSub,Array.replicate_succ,Array.replicate_zero,List.push_toArray,List.append_toArray,List.nil_append,List.cons_append]
  by_cases h1:(xs.length:Int)<1
  ·clear h0
   gi_wp2
   refine⟨.bool false,?_,by rw[HR.out],hB0⟩
   simp [results,Tryz.f118,go_sem,hs1.1]
  ·have h2:(64:Int)<xs.length:=by omega
   clear h0
   gi_wp2
   refine⟨.bool false,?_,by rw[HR.out],hB0⟩
   simp [results,Tryz.f118,go_sem,hs1.1]
end
section
open Go.RowKit
theorem lB{n:Nat}{p:Nat->Bool}:(∃j:Nat,LL.cp n p=(j:Int)/\j<n)∨LL.cp n p = -1:=by
 by_cases h:0<=LL.cp n p
 ·obtain⟨j,e,hj,_⟩:=LL.ie h
  exact .inl ⟨j,e,hj⟩
 ·have:=LL.firstI_bd n p
  exact .inr (by omega)
theorem near_end(xs:List Int):(∃j:Nat,LL.endI xs=(j:Int))∨LL.endI xs = -1:=lB.imp (fun⟨j,h,_⟩=>⟨j,h⟩) id
theorem near_join(xs:List Int)(a b:Nat):(∃j:Nat,LL.dD xs a b=(j:Int))∨LL.dD xs a b = -1:=lB.imp (fun⟨j,h,_⟩=>⟨j,h⟩) id
set_option maxRecDepth 100000 in
set_option maxHeartbeats 1600000 in
theorem fT(v:Value)(xs:List Int)(n₀:Nat)(w:World)(hv:Nums .u64 n₀ w v xs)(hn:n₀<=w.heap.size)(hx:Wide xs)(hl:xs.length<=big5)(hT:Tz w) :
 Calls Tryz.prog 76 #[v] w fun e w'=>e=.returned (.bool (LL.bL xs))/\Below w.heap.size w w':=by
 have HV:=zH hv
 have HX:=zH hx
 have HL:=zH hl
 have HRP:=zH (LL.right_p hx)
 obtain⟨a,cap,rfl⟩:=hv.form
 clear hv hx hl
 cases ho:LL.ordB xs
 ·have HO:=zH ho
  have HR:=zH (show LL.bL xs=false by unfold LL.bL;rw[ho];rfl)
  clear ho
  go_enter Tryz.func76,Tryz.ntmps76
  go_wp2_with fail
  refine(mN _ xs n₀ _ HV.out hn HX.out HL.out hT).mono ?_
  rintro e w1 ⟨rfl,hb1⟩
  rw[HO.out]
  go_wp2_with fail
  go_ret
  exact⟨af HR.out.symm,hb1⟩
 ·have HO:=zH ho
  have hl64:=(LL.fR ho).2
  clear ho
  go_enter Tryz.func76,Tryz.ntmps76
  go_wp2_with fail
  refine(mN _ xs n₀ _ HV.out hn HX.out HL.out hT).mono ?_
  rintro e w1 ⟨rfl,hb1⟩
  rw[HO.out]
  go_wp2_with fail
  refine(way_any a xs.length cap false w1).mono ?_
  rintro e w2 ⟨rfl,rfl⟩
  have hB2:Below w.heap.size w (dE w1 (.slice a xs.length cap) false):=((hb1.alloc hb1.size _).alloc (by have:=hb1.size;simp;omega) _)
  have HW:=zH (Way.made false (HV.out.below (hb1.mono hn)) (Nat.le_trans hn hb1.size))
  have hsz:(dE w1 (.slice a xs.length cap) false).heap.size=w1.heap.size+2:=by unfold dE;simp
  have hT2:=hT.on hB2
  have HB2:=zH hB2
  generalize hw2:dE w1 (.slice a xs.length cap) false=w2 at HW hsz hT2 HB2 ⊢
  clear hB2 hw2
  go_wp2_with fail
  refine(end_any _ _ xs.length _ xs false _ HW.out HX.out HO.out rfl).mono ?_
  rintro e w3 ⟨rfl,rfl⟩
  have hn2:n₀<=w1.heap.size+2:=by have:=hb1.size;omega
  clear hb1
  rcases near_end (beyL xs false) with⟨j,hj⟩ | hj
  ·have HJ:=zH hj
   rw[hj,<-ig]
   clear hj
   go_wp2_with fail
   go_loopw [26] (fun k wr=>∃i:Nat,i<=xs.length/\k=.int .i64 (i:Int)/\Below w3.heap.size w3 wr/\RowKit.Hid (∀j,j<i->((List.range j).all fun b=>decide (0<=LL.dD xs j b))=true)) (fun k _=>xs.length-(intOf k).toNat)
   case atStart=>exact⟨0,Nat.zero_le _,rfl,Below.refl _ _,zH (fun i hi=>absurd hi (Nat.not_lt_zero _))⟩
   case round =>
    obtain⟨i,hi,rfl,hB,HN⟩:=hrel
    by_cases hlt:i<xs.length
    ·have HNO:=zH (show ((List.range i).all fun b=>decide (0<=LL.dD xs i b))=false->LL.bL xs=false from fun h=>by
      rw[HRP.out];unfold LL.iO
      rw[LL.all_no (p:=fun a=>(List.range a).all fun b=>decide (0<=LL.dD xs a b)) hlt h,Bool.and_false,Bool.and_false])
     go_wp2_with fail
     go_loopw [30] (fun k wr=>∃q:Nat,q<=i/\k=.int .i64 (q:Int)/\Below w3.heap.size w3 wr/\RowKit.Hid (∀j,j<q->decide (0<=LL.dD xs i j)=true)) (fun k _=>i-(intOf k).toNat)
     case atStart=>exact⟨0,Nat.zero_le _,rfl,hB,zH (fun i hi=>absurd hi (Nat.not_lt_zero _))⟩
     case round =>
      obtain⟨q,hq,rfl,hB,HQ⟩:=hrel
      by_cases hq1:q<i
      ·go_wp2_with fail
       refine(pN _ _ i q _ xs false wr (HW.out.below (hB.mono (by omega))) (by have:=hB.size;omega) HX.out HO.out hlt (by omega) (hT2.on hB)).mono ?_
       rintro e w4 ⟨rfl,hb4⟩
       have hB4:=bstep hB hb4
       rcases near_join (beyL xs false) i q with⟨j,hj⟩ | hj
       ·have HS:=zH (LL.lq HQ.out (show decide (0<=LL.dD xs i q)=true by rw[show LL.dD xs i q=_ from hj];exact decide_eq_true (by omega)))
        rw[hj,<-ig]
        clear hj hb4
        go_wp2_with fail
        go_roundw
        case rel=>exact⟨q+1,by omega,by go_num,hB4,HS⟩
        case measure=>simp [intOf];omega
       ·have HR:=zH (HNO.out (LL.all_no hq1 (show decide (0<=LL.dD xs i q)=false by rw[show LL.dD xs i q=_ from hj];rfl)))
        rw[hj,<-jq]
        clear hj hb4
        go_wp2_with fail
        go_ret
        exact⟨af HR.out.symm,bstep HB2.out hB4⟩
      ·have HS:=zH (LL.lq HN.out (LL.all_yes (p:=fun b=>decide (0<=LL.dD xs i b)) fun j hj=>HQ.out j (by omega)))
       go_wp2_with fail
       go_roundw
       case rel=>exact⟨i+1,by omega,by go_num,hB,HS⟩
       case measure=>simp [intOf];omega
    ·have HR:=zH (show LL.bL xs=true by
      rw[HRP.out];unfold LL.iO
      rw[HO.out,show LL.endI xs=(j:Int) from HJ.out,decide_eq_true (show (0:Int)<=(j:Int) by omega),Bool.true_and,Bool.true_and]
      exact LL.all_yes fun j hj=>HN.out j (by omega))
     go_wp2_with fail
     go_ret
     exact⟨af HR.out.symm,bstep HB2.out hB⟩
  ·have HR:=zH (show LL.bL xs=false by
    rw[HRP.out];unfold LL.iO
    rw[show LL.endI xs = -1 from hj];simp)
   rw[hj,<-jq]
   clear hj
   go_wp2_with fail
   go_ret
   exact⟨af HR.out.symm,HB2.out⟩
end
section
open Go.RowKit
end
section
open Go.RowKit
end
section
open Go.RowKit
end
section
open Go.RowKit
theorem jr{k:IntKind}{w W:World}{v:Value}{cs:List Int}(h:Nums k w.heap.size w v cs)(hb:Below w.heap.size w W):Nums k W.heap.size W v cs:=(h.below hb).mono hb.size
end
section
open Go.RowKit
open Go.Lib (Utf8Tabs)
end
section
open Go.RowKit
end
section
open Go.RowKit
theorem do_input(st:PSt)(x y:ByteArray):doP st [gH,x,y]=chanIP st [gH,x,y]:=by
 have e:wd6 [gH,x,y] 0=gH:=rfl
 unfold doP
 rw[e,if_neg (by simp),if_neg (by decide),if_neg (show ¬gH=wLevel by decide +kernel),if_neg (show ¬gH=wFlow by decide +kernel),if_pos rfl]
theorem do_output(st:PSt)(x y:ByteArray):doP st [eT,x,y]=chanOP st [eT,x,y]:=by
 have e:wd6 [eT,x,y] 0=eT:=rfl
 unfold doP
 rw[e,if_neg (by simp),if_neg (by decide),if_neg (show ¬eT=wLevel by decide +kernel),if_neg (show ¬eT=wFlow by decide +kernel),if_neg (show ¬eT=gH by decide +kernel),if_pos rfl]
def chAt(cs:List (ByteArray × Int))(k:Nat):ByteArray × Int:=cs[k]?.getD (⟨#[]⟩,0)
theorem ch_name{cs:List (ByteArray × Int)}{k:Nat}(h:k<cs.length):wd6 (cs.map (·.1)) k=(chAt cs k).1:=by
 unfold wd6 chAt
 rw[List.getElem?_map,List.getElem?_eq_getElem h];rfl
theorem ch_lev{n:Int}{cs:List (ByteArray × Int)}(h:mK n cs=true){k:Nat}(hk:k<cs.length):0<=(chAt cs k).2/\(chAt cs k).2<n:=by
 unfold mK at h
 have:=List.all_eq_true.1 h (chAt cs k) (by unfold chAt;rw[List.getElem?_eq_getElem hk];exact List.getElem_mem hk)
 simpa using this
theorem gL{n:Int}{cs:List (ByteArray × Int)}(h:cT n cs=true):cs.length<=32/\mK n cs=true/\gF (cs.map (·.1))=true:=by
 unfold cT at h
 rw[Bool.and_eq_true,Bool.and_eq_true,decide_eq_true_eq] at h
 exact⟨h.1.1,h.1.2,h.2⟩
theorem cq{st:PSt}{S:List Int}(h:aS st S=true):(1<=st.D/\st.D<=64)/\S.length=st.L.length/\LL.bL S=true/\gF st.L=true/\cT st.L.length st.I=true/\cT st.L.length st.O=true:=by
 unfold aS at h
 simp only[Bool.and_eq_true,decide_eq_true_eq] at h
 obtain⟨⟨⟨⟨⟨a,b⟩,c⟩,d⟩,e⟩,f⟩:=h
 exact⟨a,b,c,d,e,f⟩
end
section
open Go.RowKit
end
end Go.Proofs.YtjngffgkllakaaaGreatDoor
namespace Go.Proofs.YtjngffgkllakaaaGreatDoor.LL
open List renaming getElem_toArray → zA, getElem_cons_succ → zB, getElem_cons_zero → zC, setIfInBounds_toArray → zD, set_cons_zero → zE, set_cons_succ → zF
open Lib renaming hid → zH
section
def kv(xs:List Int)(a c:Nat):Nat:=if isCover xs a c=true then 1 else 0
end
end Go.Proofs.YtjngffgkllakaaaGreatDoor.LL
namespace Go.Proofs.YtjngffgkllakaaaGreatDoor
open List renaming getElem_toArray → zA, getElem_cons_succ → zB, getElem_cons_zero → zC, setIfInBounds_toArray → zD, set_cons_zero → zE, set_cons_succ → zF
open Lib renaming hid → zH
section
open Go.RowKit
end
section
open Go.RowKit
structure PolIn (w:World) (v0 v1 v2 v3:Value) (st:PSt) (S:List Int):Prop where
 s0:Strs w.heap.size w v0 st.L
 s1:Nums .u64 w.heap.size w v1 S
 s2:dM w.heap.size w v2 st.I
 s3:dM w.heap.size w v3 st.O
 n1:∀c,v1=.slice none 0 c->c=0
 l0:st.L.length*16<=140737488351232
 l1:S.length*8<=140737488351232
 l2:st.I.length*24<=140737488351232
 l3:st.O.length*24<=140737488351232
theorem PolIn.below{w W:World}{v0 v1 v2 v3:Value}{st:PSt}{S:List Int}(h:PolIn w v0 v1 v2 v3 st S)(hb:Below w.heap.size w W):PolIn W v0 v1 v2 v3 st S :=
 { h with s0:=ku h.s0 hb,s1:=jr h.s1 hb,s2:=gG h.s2 hb,s3:=gG h.s3 hb }
theorem own0{W:World}{B e size n:Nat}{v:Value}{xs:List Value}(h:W.ownsRow B e size v (0+n) ([] ++ xs)):W.ownsRow B e size v n xs:=by
 rw[Nat.zero_add,List.nil_append] at h;exact h
end
end Go.Proofs.YtjngffgkllakaaaGreatDoor
