/- Parts of a proof. -/
import Derived.Test.YtjbkhdbjdahbiaaGreatDoorQ03
import Derived.LaidEql
import Derived.Test.YtjbkhdbjdahbiaaGreatDoorQ05
import Derived.Test.YtjbkhdbjdahbiaaGreatDoorQ02
import Derived.Test.YtjbkhdbjdahbiaaGreatDoorQ11
import Derived.Test.YtjbkhdbjdahbiaaGreatDoorQ10
import Derived.Lib.Strings
import Derived.Deep.CutBlock
import Derived.Deep.CutRange
import Derived.Deep.DeepCutAuto
import Derived.Test.YtjbkhdbjdahbiaaGreatDoorProg
import Derived.WalkKit
import Derived.Lib.Hide
import Derived.Below
import Derived.Lib.Bytealg
import Derived.Deep.AppendLies
import Derived.Lib.AppendZerosOnto
import Derived.Test.YtjbkhdbjdahbiaaGreatDoorRows
import Derived.ProofKit
import Derived.OpenShut
import Derived.ChangeOld
import Derived.Deep.Slices
import Derived.Deep.Fields
import Derived.Lib.SmallJoins
set_option linter.unusedVariables false
set_option linter.unusedSimpArgs false
set_option maxHeartbeats 60000000
set_option maxRecDepth 100000
namespace Go.Proofs.YtjbkhdbjdahbiaaGreatDoor
namespace Lf
open Go.RowKit
theorem Tryz.eqIfaceNil (k:Int)(w:World):(binOp .eql 32 (.iface 89 (.int .i64 k)) .nilIface).run Tryz.prog w= .ok (.bool false) w:=by simp[go_sem]
end Lf
namespace Lf
open Go.RowKit
def top (l:List Nat):Nat:=l.foldr max 0
theorem lt_top {m:Nat}{l:List Nat}:m<top l↔∃x∈l,m<x:=by
 induction l with
 | nil=>simp[top]
 | cons a r ih=>
   have e:top (a :: r)=max a (top r):=rfl
   rw[e]
   constructor
   ·intro h
    by_cases h1:m<a
    ·exact⟨a,by simp,h1⟩
    ·obtain⟨x,hx,hm⟩:=ih.1 (by omega)
     exact⟨x,by simp[hx],hm⟩
   ·rintro⟨x,hx,hm⟩
    rcases List.mem_cons.1 hx with rfl | hx
    ·omega
    ·have:=ih.2 ⟨x,hx,hm⟩
     omega
def dep:Nat→FT→Nat
 | 0,_=>0
 | n+1,f=>1+top (f.ks.map (dep n))
def siz:Nat→FT→Nat
 | 0,_=>0
 | n+1,f=>1+(f.ks.map (siz n)).sum
theorem dep_zero (n:Nat)(f:FT):0<dep (n+1) f:=by unfold dep;omega
theorem dep_succ {n m:Nat}{f:FT}:m+1<dep (n+1) f↔∃i,i<f.ks.length∧m<dep n (f.ks.getD i default):=by
 rw[show dep (n+1) f=1+top (f.ks.map (dep n)) from rfl,show m+1<1+top (f.ks.map (dep n))↔m<top (f.ks.map (dep n)) by omega,lt_top]
 constructor
 ·rintro⟨x,hx,hm⟩
  obtain⟨k,hk,rfl⟩:=List.mem_map.1 hx
  obtain⟨i,hi,rfl⟩:=List.getElem_of_mem hk
  exact⟨i,hi,by rw[List.getD_eq_getElem?_getD,List.getElem?_eq_getElem hi];exact hm⟩
 ·rintro⟨i,hi,hm⟩
  rw[List.getD_eq_getElem?_getD,List.getElem?_eq_getElem hi]at hm
  exact⟨_,List.mem_map.2 ⟨_,List.getElem_mem hi,rfl⟩,hm⟩
def sizTo (n:Nat)(ks:List FT)(i:Nat):Nat:=((ks.take i).map (siz n)).sum
theorem sizTo_zero (n:Nat)(ks:List FT):sizTo n ks 0=0:=rfl
theorem sizTo_succ (n:Nat)(ks:List FT)(i:Nat)(h:i<ks.length):sizTo n ks (i+1)=sizTo n ks i+siz n (ks.getD i default):=by
 unfold sizTo
 rw[List.take_succ_eq_append_getElem h,List.map_append,List.sum_append]
 simp[List.getD_eq_getElem?_getD,h]
theorem sizTo_len (n:Nat)(f:FT):siz (n+1) f=1+sizTo n f.ks f.ks.length:=by unfold siz sizTo;rw[List.take_length]
theorem sizTo_mono (n:Nat)(ks:List FT){i j:Nat}(h:i≤j):sizTo n ks i≤sizTo n ks j:=by
 induction h with
 | refl=>exact Nat.le_refl _
 | @step j h ih=>
   by_cases hj:j<ks.length
   ·rw[sizTo_succ n ks j hj];omega
   ·unfold sizTo at ih⊢
    rw[List.take_of_length_le (show ks.length≤j+1 by omega)]
    rw[List.take_of_length_le (show ks.length≤j by omega)]at ih
    exact ih
def ownV (k c t l:Int)(sn:Bool):Bool:=
 if k=0∨k=1 then(c == 0 && t == 0) && l == 0
 else if k=2∨k=3 then sn && l == 0
 else if k=4 then(c == 0 && t == 0) && l == 1
 else if k=5∨k=6 then c == 0 && t == 0
 else false
def ownF (f:FT):Bool:=ownV f.kind f.c f.t.length f.ks.length (snd f.c f.t)
def sndF:Nat→FT→Bool
 | 0,_=>false
 | n+1,f=>ownF f && decide (∀i,i<f.ks.length→sndF n (f.ks.getD i default)=true)
theorem sndF_no {n:Nat}{f:FT}{i:Nat}(hi:i<f.ks.length)(h:sndF n (f.ks.getD i default)=false):sndF (n+1) f=false:=by
 show(ownF f && decide (∀i,i<f.ks.length→sndF n (f.ks.getD i default)=true))=false
 rw[decide_eq_false (fun hh=>by rw[hh i hi]at h;cases h),Bool.and_false]
theorem sndF_yes {n:Nat}{f:FT}(h:∀i,i<f.ks.length→sndF n (f.ks.getD i default)=true):sndF (n+1) f=ownF f:=by
 show(ownF f && decide (∀i,i<f.ks.length→sndF n (f.ks.getD i default)=true))=ownF f
 rw[decide_eq_true h,Bool.and_true]
end Lf
namespace Lf
open Go.RowKit
theorem dep_int {n:Nat}{m:Int}{f:FT}(h0:0≤m)(h1:m≠0):m<(dep (n+1) f:Int)↔∃i,i<f.ks.length∧m - 1<(dep n (f.ks.getD i default):Int):=by
 obtain⟨k,rfl⟩:∃k:Nat,m=(k+1:Nat):=⟨(m - 1).toNat,by omega⟩
 have:=dep_succ (n:=n) (m:=k) (f:=f)
 constructor
 ·intro h
  obtain⟨i,hi,hd⟩:=this.1 (by omega)
  exact⟨i,hi,by omega⟩
 ·rintro⟨i,hi,hd⟩
  have:=this.2 ⟨i,hi,by omega⟩
  omega
theorem deeper_any:∀(n:Nat) (f:FT) (cs:List Value) (m:Int) (w:World),0≤m→m≤4096→FLies w.heap.size w n f cs→
 Calls Tryz.prog 70 #[.agg cs.toArray,.int .i64 m] w fun e w'=>e= .returned (.bool (decide (m<(dep n f:Int))))∧Below w.heap.size w w'
 | 0,_,_,_,_,_,_,h=>h.elim
 | n+1,f,cs,m,w,h0,h1,h=>by
   have IH:=deeper_any n
   obtain⟨ta,tcap,ka,kcap,rfl,_,_,hk4,hks⟩:=h
   have HB0:Hid (Below w.heap.size w (w.alloc (.cells #[.int .i64 f.kind,.int .i64 f.c,.slice ta f.t.length tcap,.slice ka f.ks.length kcap] 38))):=(Below.refl _ w).alloc (Nat.le_refl _) _
   by_cases hm:m=0
   ·subst hm
    have hd:decide ((0:Int)<(dep (n+1) f:Int))=true:=by have:=dep_zero n f;simp;omega
    rw[hd]
    clear IH hks hd
    go_enter Tryz.func70,Tryz.ntmps70
    go_wp2
    go_ret
    exact⟨rfl,HB0.out⟩
   ·have HD:=Lib.hid (dep_int (n:=n) (f:=f) h0 hm)
    have HI:=Lib.hid IH
    have HK:=Lib.hid hks
    have hme:(m == 0)=false:=by simpa using hm
    generalize hr:decide (m<(dep (n+1) f:Int))=r
    have HR:=Lib.hid hr
    clear IH hks hr
    generalize f.kind=fk at HB0
    generalize f.c=fc at HB0
    generalize f.t.length=ft at HB0
    generalize hl:f.ks.length=len at HB0 HK HD hk4
    clear hl
    go_enter Tryz.func70,Tryz.ntmps70
    go_wp2
    go_loopw [12] (fun i wr=>∃k:Nat,k≤len∧i= .int .i64 k∧Hid (∀j,j<k→(dep n (f.ks.getD j default):Int)≤m - 1)∧Below w.heap.size w wr) (fun i _=>len - (intOf i).toNat)
    case atStart=>exact⟨0,Nat.zero_le _,rfl,fun j hj=>absurd hj (Nat.not_lt_zero j),HB0.out⟩
    case round=>
     obtain⟨k,hk,rfl,hno,hb⟩:=hrel
     by_cases hlt:k<len
     ·obtain⟨b,off,c0,c1,c2,c3,rfl,hblt,g0,g1,g2,g3,hf⟩:=HK.out k hlt
      rw[←hb.cell (p:=⟨b,_,none⟩) hblt]at g0 g1 g2 g3
      obtain⟨ck,cc,cta,ctn,ctcap,cka,ckn,ckcap,rfl,rfl,rfl,rfl⟩:=hf.form
      have hb2:=hb.alloc hb.size (.cells #[.int .i64 ck,.int .i64 cc,.slice cta ctn ctcap,.slice cka ckn ckcap] 38)
      have hih:=HI.out (f.ks.getD k default) _ (m - 1) _ (by omega) (by omega) ((hf.below hb2).mono hb2.size)
      by_cases hd:m - 1<(dep n (f.ks.getD k default):Int)
      ·have hr:r=true:=by rw[←HR.out];exact decide_eq_true (HD.out.2 ⟨k,hlt,hd⟩)
       rw[decide_eq_true hd]at hih
       subst hr
       clear hd hf hno
       go_wp2_with fail
       refine hih.mono ?_
       rintro e w1 ⟨rfl,hb1⟩
       have HB1:=Lib.hid (hb2.trans (hb1.mono hb2.size))
       clear g0 g1 g2 g3 hih hb1 hb2
       go_wp2
       go_ret
       exact⟨rfl,HB1.out⟩
      ·rw[decide_eq_false hd]at hih
       have hno2:Hid (∀j,j<k+1→(dep n (f.ks.getD j default):Int)≤m - 1):=fun j hj=>by
        by_cases ej:j=k
        ·rw[ej];omega
        ·exact hno.out j (by omega)
       clear hd hf hno
       go_wp2_with fail
       refine hih.mono ?_
       rintro e w1 ⟨rfl,hb1⟩
       have HB1:=Lib.hid (hb2.trans (hb1.mono hb2.size))
       clear g0 g1 g2 g3 hih hb1 hb2
       go_wp2
       go_roundw
       case rel=>exact⟨k+1,by omega,by go_num,hno2,HB1.out⟩
       case measure=>simp[intOf];omega
     ·have hr:r=false:=by
       rw[←HR.out]
       refine decide_eq_false fun h=> ?_
       obtain⟨i,hi,hd⟩:=HD.out.1 h
       have:=hno.out i (by omega);omega
      subst hr
      clear hno
      go_wp2
      go_ret
      exact⟨rfl,hb⟩
theorem sizTo_le (n:Nat)(f:FT)(k:Nat):1+sizTo n f.ks k≤siz (n+1) f:=by
 rw[sizTo_len]
 by_cases h:k≤f.ks.length
 ·have:=sizTo_mono n f.ks h;omega
 ·have:=sizTo_mono n f.ks (show f.ks.length≤k by omega)
  have e:sizTo n f.ks k=sizTo n f.ks f.ks.length:=by
   unfold sizTo;rw[List.take_of_length_le (by omega),List.take_length]
  omega
def cnt (s:Nat)(m:Int):Int:=if(s:Int)≤m then s else m+1
theorem count_any:∀(n:Nat) (f:FT) (cs:List Value) (m:Int) (w:World),0≤m→m≤4096→FLies w.heap.size w n f cs→
 Calls Tryz.prog 71 #[.agg cs.toArray,.int .i64 m] w fun e w'=>e= .returned (.int .i64 (cnt (siz n f) m))∧Below w.heap.size w w'
 | 0,_,_,_,_,_,_,h=>h.elim
 | n+1,f,cs,m,w,h0,h1,h=>by
   have IH:=count_any n
   obtain⟨ta,tcap,ka,kcap,rfl,_,_,hk4,hks⟩:=h
   have HB0:Hid (Below w.heap.size w (w.alloc (.cells #[.int .i64 f.kind,.int .i64 f.c,.slice ta f.t.length tcap,.slice ka f.ks.length kcap] 38))):=(Below.refl _ w).alloc (Nat.le_refl _) _
   have HI:=Lib.hid IH
   have HK:=Lib.hid hks
   have HLE:=Lib.hid (sizTo_le n f)
   have HLN:=Lib.hid (sizTo_len n f)
   have HST:=Lib.hid (sizTo_succ n f.ks)
   have S0:Hid ((1:Int)=cnt (1+sizTo n f.ks 0) m):=by
    show _=_
    unfold cnt
    rw[sizTo_zero]
    split<;>omega
   generalize hr:cnt (siz (n+1) f) m=r
   have HR:=Lib.hid hr
   clear IH hks hr
   generalize f.kind=fk at HB0
   generalize f.c=fc at HB0
   generalize f.t.length=ft at HB0
   generalize hl:f.ks.length=len at HB0 HK hk4 HST HLN
   clear hl
   go_enter Tryz.func71,Tryz.ntmps71
   go_wp2
   go_loopw [5,11] (fun s i wr=>∃(k:Nat) (v:Int),k≤len∧i= .int .i64 k∧s= .int .i64 v∧1≤v∧v≤m+1∧Hid (v=cnt (1+sizTo n f.ks k) m)∧Below w.heap.size w wr) (fun _ i _=>len - (intOf i).toNat)
   case atStart=>exact⟨0,1,Nat.zero_le _,rfl,rfl,by omega,by omega,S0,HB0.out⟩
   case round=>
    obtain⟨k,v,hk,rfl,rfl,hv1,hv2,hv,hb⟩:=hrel
    by_cases hlt:k<len
    ·obtain⟨b,off,c0,c1,c2,c3,rfl,hblt,g0,g1,g2,g3,hf⟩:=HK.out k hlt
     rw[←hb.cell (p:=⟨b,_,none⟩) hblt]at g0 g1 g2 g3
     obtain⟨ck,cc,cta,ctn,ctcap,cka,ckn,ckcap,rfl,rfl,rfl,rfl⟩:=hf.form
     have hb2:=hb.alloc hb.size (.cells #[.int .i64 ck,.int .i64 cc,.slice cta ctn ctcap,.slice cka ckn ckcap] 38)
     by_cases hvm:m<v
     ·have hr:r=v:=by
       have h1:=HLE.out k
       have h2:=hv.out
       rw[←HR.out]
       unfold cnt at h2⊢
       split at h2<;>split<;>omega
      subst hr
      clear hv hf
      go_wp2_with fail
      go_ret
      exact⟨rfl,hb2⟩
     ·have hih:=HI.out (f.ks.getD k default) _ (m - v) _ (by omega) (by omega) ((hf.below hb2).mono hb2.size)
      have hs:=HST.out k hlt
      have hv3:Hid (v+cnt (siz n (f.ks.getD k default)) (m - v)=cnt (1+sizTo n f.ks (k+1)) m):=by
       have h2:=hv.out
       show _=_
       unfold cnt at h2⊢
       rw[hs]
       split at h2<;>split<;>split<;>omega
      have hc1:0≤cnt (siz n (f.ks.getD k default)) (m - v)∧cnt (siz n (f.ks.getD k default)) (m - v)≤m - v+1:=by
       unfold cnt
       split<;>omega
      generalize cnt (siz n (f.ks.getD k default)) (m - v)=u at hih hv3 hc1
      clear hs hf hv
      go_wp2_with fail
      refine hih.mono ?_
      rintro e w1 ⟨rfl,hb1⟩
      have HB1:=Lib.hid (hb2.trans (hb1.mono hb2.size))
      clear g0 g1 g2 g3 hih hb1 hb2
      go_wp2
      go_roundw
      case rel=>exact⟨k+1,v+u,by omega,by go_num,by go_num,by omega,by omega,hv3,HB1.out⟩
      case measure=>simp[intOf];omega
    ·have hr:r=v:=by
      have h1:=HLN.out
      have h2:=hv.out
      obtain rfl:k=len:=by omega
      rw[←HR.out,h2,h1]
     subst hr
     clear hv
     go_wp2
     go_ret
     exact⟨rfl,hb⟩
end Lf
namespace Lf
open Go.RowKit
theorem Tryz.eqNil (w:World):(binOp .eql 32 .nilIface .nilIface).run Tryz.prog w= .ok (.bool true) w:=by simp[go_sem]
def errV (b:Bool):Value:=if b then .nilIface else .iface 89 (.int .i64 5)
theorem lcheck_any (c:Int)(a:Option Addr)(n cap:Nat)(l:List (Int×Int))(w:World)(hn:l.length=n)(hm:n≤9223372036854775807)(hl:Lies w.heap.size w a l):
 Calls Tryz.prog 30 #[.agg #[.int .i64 c,.slice a n cap]] w fun e w'=>e= .returned (errV (snd c l))∧Below w.heap.size w w':=by
 by_cases hs:snd c l=true
 ·rw[hs];exact check_yes c a n cap l w hn hl hs
 ·have hs':snd c l=false:=by simpa using hs
  rw[hs'];exact check_no c a n cap l w hn hm hl hs'
theorem sound_any:∀(n:Nat) (f:FT) (cs:List Value) (w:World),FLies w.heap.size w n f cs→
 Calls Tryz.prog 72 #[.agg cs.toArray] w fun e w'=>e= .returned (.bool (sndF n f))∧Below w.heap.size w w'
 | 0,_,_,_,h=>h.elim
 | n+1,f,cs,w,h=>by
   have IH:=sound_any n
   obtain⟨ta,tcap,ka,kcap,rfl,hlt,ht4,hk4,hks⟩:=h
   have HC:=Lib.hid (fun W (hb:Below w.heap.size w W)=>lcheck_any f.c ta f.t.length tcap f.t W rfl ht4 ((hlt.below hb).mono hb.size))
   have HI:=Lib.hid IH
   have HK:=Lib.hid hks
   have HNO:=Lib.hid (fun i=>sndF_no (n:=n) (f:=f) (i:=i))
   have HYES:=Lib.hid (fun h=>(sndF_yes (n:=n) (f:=f) h).trans rfl)
   have HB0:Hid (Below (w.heap.size+1) (w.alloc (.cells #[.int .i64 f.kind,.int .i64 f.c,.slice ta f.t.length tcap,.slice ka f.ks.length kcap] 38)) (w.alloc (.cells #[.int .i64 f.kind,.int .i64 f.c,.slice ta f.t.length tcap,.slice ka f.ks.length kcap] 38))):=Below.refl _ _
   unfold ownF at HYES
   clear IH hks hlt
   generalize sndF (n+1) f=r at HNO HYES
   generalize snd f.c f.t=sn at HC HYES
   generalize f.kind=fk at HB0 HYES
   generalize f.c=fc at HB0 HC HYES
   generalize f.t.length=ft at HB0 HC HYES ht4
   generalize hl:f.ks.length=len at HB0 HK hk4 HNO HYES
   clear hl
   go_enter Tryz.func72,Tryz.ntmps72
   go_wp2
   go_loopw [9] (fun i wr=>∃k:Nat,k≤len∧i= .int .i64 k∧Hid (∀j,j<k→sndF n (f.ks.getD j default)=true)∧Below (w.heap.size+1) (w.alloc (.cells #[.int .i64 fk,.int .i64 fc,.slice ta ft tcap,.slice ka len kcap] 38)) wr) (fun i _=>len - (intOf i).toNat)
   case atStart=>exact⟨0,Nat.zero_le _,rfl,fun j hj=>absurd hj (Nat.not_lt_zero j),HB0.out⟩
   case round=>
    obtain⟨k,hk,rfl,hyes,hbx⟩:=hrel
    have hb:Below w.heap.size w wr:=((Below.refl _ w).alloc (Nat.le_refl _) _).trans (hbx.mono (by omega))
    have bz:w.heap.size<wr.heap.size:=by have:=hbx.size;simp at this;omega
    by_cases hlt:k<len
    ·obtain⟨b,off,c0,c1,c2,c3,rfl,hblt,g0,g1,g2,g3,hf⟩:=HK.out k hlt
     rw[←hb.cell (p:=⟨b,_,none⟩) hblt]at g0 g1 g2 g3
     obtain⟨ck,cc,cta,ctn,ctcap,cka,ckn,ckcap,rfl,rfl,rfl,rfl⟩:=hf.form
     have hb2:=hb.alloc hb.size (.cells #[.int .i64 ck,.int .i64 cc,.slice cta ctn ctcap,.slice cka ckn ckcap] 38)
     have hbx2:=hbx.alloc (show w.heap.size+1≤wr.heap.size by omega) (.cells #[.int .i64 ck,.int .i64 cc,.slice cta ctn ctcap,.slice cka ckn ckcap] 38)
     have hih:=HI.out (f.ks.getD k default) _ _ ((hf.below hb2).mono hb2.size)
     by_cases hd:sndF n (f.ks.getD k default)=true
     ·rw[hd]at hih
      have hyes2:Hid (∀j,j<k+1→sndF n (f.ks.getD j default)=true):=fun j hj=>by
       by_cases ej:j=k
       ·rw[ej];exact hd
       ·exact hyes.out j (by omega)
      clear hd hf hyes
      go_wp2_with fail
      refine hih.mono ?_
      rintro e w1 ⟨rfl,hb1⟩
      have HB1:=Lib.hid (hbx2.trans (hb1.mono (by simp;omega)))
      clear g0 g1 g2 g3 hih hb1 hb2 hbx2
      go_wp2
      go_roundw
      case rel=>exact⟨k+1,by omega,by go_num,hyes2,HB1.out⟩
      case measure=>simp[intOf];omega
     ·have hd':sndF n (f.ks.getD k default)=false:=by simpa using hd
      have hr:r=false:=HNO.out k hlt hd'
      rw[hd']at hih
      subst hr
      clear hd hd' hf hyes
      go_wp2_with fail
      refine hih.mono ?_
      rintro e w1 ⟨rfl,hb1⟩
      have HB1:=Lib.hid (hb2.trans (hb1.mono hb2.size))
      clear g0 g1 g2 g3 hih hb1 hb2 hbx2
      go_wp2
      go_ret
      exact⟨rfl,HB1.out⟩
    ·have hr:Hid (r=ownV fk fc ft len sn):=HYES.out (fun i hi=>hyes.out i (by omega))
     have q0:wr.cell? ⟨w.heap.size,0,none⟩=some (.int .i64 fk):=by rw[hbx.cell (p:=⟨w.heap.size,0,none⟩) (by simp)];simp
     have q1:wr.cell? ⟨w.heap.size,1,none⟩=some (.int .i64 fc):=by rw[hbx.cell (p:=⟨w.heap.size,1,none⟩) (by simp)];simp
     have q2:wr.cell? ⟨w.heap.size,2,none⟩=some (.slice ta ft tcap):=by rw[hbx.cell (p:=⟨w.heap.size,2,none⟩) (by simp)];simp
     have q3:wr.cell? ⟨w.heap.size,3,none⟩=some (.slice ka len kcap):=by rw[hbx.cell (p:=⟨w.heap.size,3,none⟩) (by simp)];simp
     have HCW:=Lib.hid (HC.out wr hb)
     have HBW:=Lib.hid hb
     clear hyes HYES HNO HI HK hbx hb HB0 HC
     have hkk:fk=0∨fk=1∨fk=2∨fk=3∨fk=4∨fk=5∨fk=6∨((fk == 0)=false∧(fk == 1)=false∧(fk == 2)=false∧(fk == 3)=false∧(fk == 4)=false∧(fk == 5)=false∧(fk == 6)=false):=by
      simp only[beq_eq_false_iff_ne,ne_eq];omega
     rcases hkk with rfl | rfl | rfl | rfl | rfl | rfl | rfl | ⟨k0,k1,k2,k3,k4,k5,k6⟩
     ·cases h1:(fc == 0)<;>cases h2:((ft:Int) == 0)<;>cases h3:((len:Int) == 0)
      all_goals
       go_wp2_with fail
       go_ret
       exact⟨ret_bool (by rw[hr.out];simp_all [ownV]),HBW.out⟩
     ·cases h1:(fc == 0)<;>cases h2:((ft:Int) == 0)<;>cases h3:((len:Int) == 0)
      all_goals
       go_wp2_with fail
       go_ret
       exact⟨ret_bool (by rw[hr.out];simp_all [ownV]),HBW.out⟩
     ·have hcw:=HCW.out
      have en:=fun W=>Tryz.eqNil W
      have ei:=fun W=>Tryz.eqIfaceNil 5 W
      cases h1:(fc == 0)<;>cases h2:((ft:Int) == 0)<;>cases h3:((len:Int) == 0)<;>cases sn
      all_goals
       simp only[errV]at hcw
       go_wp2_with fail
       refine hcw.mono ?_
       rintro e w1 ⟨rfl,hb1⟩
       have HB1:=Lib.hid (HBW.out.trans (hb1.mono HBW.out.size))
       have q31:w1.cell? ⟨w.heap.size,3,none⟩=some (.slice ka len kcap):=(hb1.cell (p:=⟨w.heap.size,3,none⟩) bz).trans q3
       have bz1:w.heap.size<w1.heap.size:=by have:=hb1.size;omega
       clear hb1 hcw
       go_wp2_with fail
       go_ret
       exact⟨ret_bool (by rw[hr.out];simp_all [ownV]),HB1.out⟩
     ·have hcw:=HCW.out
      have en:=fun W=>Tryz.eqNil W
      have ei:=fun W=>Tryz.eqIfaceNil 5 W
      cases h1:(fc == 0)<;>cases h2:((ft:Int) == 0)<;>cases h3:((len:Int) == 0)<;>cases sn
      all_goals
       simp only[errV]at hcw
       go_wp2_with fail
       refine hcw.mono ?_
       rintro e w1 ⟨rfl,hb1⟩
       have HB1:=Lib.hid (HBW.out.trans (hb1.mono HBW.out.size))
       have q31:w1.cell? ⟨w.heap.size,3,none⟩=some (.slice ka len kcap):=(hb1.cell (p:=⟨w.heap.size,3,none⟩) bz).trans q3
       have bz1:w.heap.size<w1.heap.size:=by have:=hb1.size;omega
       clear hb1 hcw
       go_wp2_with fail
       go_ret
       exact⟨ret_bool (by rw[hr.out];simp_all [ownV]),HB1.out⟩
     ·cases h1:(fc == 0)<;>cases h2:((ft:Int) == 0)<;>cases h3:((len:Int) == 1)
      all_goals
       go_wp2_with fail
       go_ret
       exact⟨ret_bool (by rw[hr.out];simp_all [ownV]),HBW.out⟩
     ·cases h1:(fc == 0)<;>cases h2:((ft:Int) == 0)
      all_goals
       go_wp2_with fail
       go_ret
       exact⟨ret_bool (by rw[hr.out];simp_all [ownV]),HBW.out⟩
     ·cases h1:(fc == 0)<;>cases h2:((ft:Int) == 0)
      all_goals
       go_wp2_with fail
       go_ret
       exact⟨ret_bool (by rw[hr.out];simp_all [ownV]),HBW.out⟩
     ·cases h1:(fc == 0)<;>cases h2:((ft:Int) == 0)
      all_goals
       go_wp2_with fail
       go_ret
       exact⟨ret_bool (by rw[hr.out];simp_all [ownV]),HBW.out⟩
end Lf
section
open Go.RowKit
theorem ValAll.at {g:Nat}{args:Array Value}{z:Value}{w W:World}(h:ValAll g args z w)(hb:Below w.heap.size w W):Calls Tryz.prog g args W fun r w'=>r= .returned z∧Below W.heap.size W w':=h W hb
end
section
open Go.RowKit
def varSh:Pak.Sh (ByteArray×Int) where
 k:=2
 rel:=fun _ _ cs x=>cs=[.string x.1,.int .i64 x.2]∧x.1.size≤maxLen∧i64 x.2
 len:=fun h=>by rw[h.1];rfl
 one:=fun h u hu=>by rw[h.1]at hu;simp at hu;rcases hu with rfl | rfl<;>rfl
 keep:=fun _ _ h=>h
def varOf (s:ByteArray):List (ByteArray×Int)→Int
 | []=>0
 | x :: r=>if x.1=s then x.2 else varOf s r
theorem varOf_at {s:ByteArray}:∀ {xs:List (ByteArray×Int)} {j:Nat} (h:j<xs.length),(∀q,(hq:q<xs.length)→q<j→xs[q].1≠s)→xs[j].1=s→varOf s xs=xs[j].2
 | [],_,h,_,_=>absurd h (Nat.not_lt_zero _)
 | x :: r,0,_,_,e=>if_pos e
 | x :: r,j+1,h,hn,e=>by
   have h0:¬x.1=s:=hn 0 (by simp) (Nat.succ_pos _)
   unfold varOf
   rw[if_neg h0]
   exact varOf_at (xs:=r) (j:=j) (by simpa using h) (fun q hq hlt=>hn (q+1) (by simpa using hq) (by omega)) e
theorem varOf_no {s:ByteArray}:∀ {xs:List (ByteArray×Int)},(∀q,(hq:q<xs.length)→xs[q].1≠s)→varOf s xs=0
 | [],_=>rfl
 | x :: r,hn=>by
   have h0:¬x.1=s:=hn 0 (by simp)
   unfold varOf
   rw[if_neg h0]
   exact varOf_no (xs:=r) (fun q hq=>hn (q+1) (by simpa using hq))
theorem variable_any (s:ByteArray)(a:Option Addr)(m cap:Nat)(xs:List (ByteArray×Int))(w:World)(hm:xs.length=m)(hs:Pak.Sits varSh (Pak.Lo w.heap.size) w a xs):
 Calls Tryz.prog 67 #[.string s,.slice a m cap] w fun r w'=>r= .returned (.int .i64 (varOf s xs))∧Below w.heap.size w w':=by
 have HS:=Lib.hid hs
 have HM:=Lib.hid hm
 have hmm:m≤9223372036854775807:=by rw[←hm];exact hs.1
 have HHIT:=Lib.hid (fun j h h1 h2=>varOf_at (s:=s) (xs:=xs) (j:=j) h h1 h2)
 have HMISS:=Lib.hid (fun h=>varOf_no (s:=s) (xs:=xs) h)
 clear hs hm
 generalize varOf s xs=y at HHIT HMISS
 go_enter Tryz.func67,Tryz.ntmps67
 go_wp2_with fail
 go_loopw [9] (fun i wr=>∃j:Nat,j≤m∧i= .int .i64 j∧Hid (∀q,(hq:q<xs.length)→q<j→xs[q].1≠s)∧Hid (Below w.heap.size w wr)) (fun i _=>m - (intOf i).toNat)
 case atStart=>exact⟨0,Nat.zero_le _,rfl,fun q _ h=>absurd h (Nat.not_lt_zero _),Below.refl _ _⟩
 case round=>
  obtain⟨j,hj,rfl,hno,hb⟩:=hrel
  obtain⟨wo,rfl⟩:∃wo:World,wo=wr:=⟨_,rfl⟩
  by_cases hlt:j<m
  ·have hlx:j<xs.length:=by rw[HM.out];exact hlt
   obtain⟨b,off,cs,rfl,hbl,hc,rfl,_⟩:=(HS.out.below hb.out hb.out.size).2 j hlx
   have c0:=hc 0 _ rfl
   have c1:=hc 1 _ rfl
   rw[show varSh.k=2 from rfl,Nat.add_zero]at c0
   rw[show varSh.k=2 from rfl]at c1
   have hA:Below wo.heap.size wo (wo.alloc (.cells #[.string xs[j].1,.int .i64 xs[j].2] 106)):=box_low
   have HB:=Lib.hid (hb.out.trans (hA.mono hb.out.size))
   have HH:=Lib.hid (fun e=>HHIT.out j hlx hno.out e)
   have HN:Hid (¬xs[j].1=s→∀q,(hq:q<xs.length)→q<j+1→xs[q].1≠s):=fun h q hq hlq=>by
    by_cases e:q=j
    ·subst e;exact h
    ·exact hno.out q hq (by omega)
   have hji:(j:Int)<(m:Int):=by omega
   clear hc hA
   generalize xs[j]=x at*
   obtain⟨xn,xv⟩:=x
   dsimp only at c0 c1 HB HH HN
   by_cases hx:xn=s
   ·obtain rfl:=HH.out hx
    subst hx
    clear HH HN
    go_wp2_with fail
    go_ret
    exact⟨rfl,HB.out⟩
   ·have HN2:=Lib.hid (HN.out hx)
    have e1:(xn.toList == s.toList)=false:=bs_ne hx
    clear HH HN
    go_wp2_with fail
    go_roundw
    case rel=>exact⟨j+1,by omega,by go_num,HN2,HB⟩
    case measure=>simp[intOf];omega
  ·obtain rfl:j=m:=by omega
   obtain rfl:=HMISS.out (fun q hq=>hno.out q hq (by rw[HM.out]at hq;exact hq))
   go_wp2_with fail
   go_ret
   exact⟨rfl,hb.out⟩
end
section
open Go.RowKit
def nearB (n:Int):Bool:=decide (-4294967296≤n) && decide (n≤4294967296)
theorem near_is {n:Int}(h:nearB n=true): -4294967296≤n∧n≤4294967296:=by
 unfold nearB at h;simpa using h
def valE (ρ:ByteArray→Int):Nat→ET→Int×Bool
 | 0,_=>(0,false)
 | n+1,e=>
   if e.kind=0 then(e.n,nearB e.n)
   else if e.kind=1 then(ρ e.name,nearB (ρ e.name))
   else
    let a:=valE ρ n (e.ks.getD 0 default)
    if a.2=false then(0,false)
    else if e.kind=4 then(e.n*a.1,nearB (e.n*a.1))
    else
     let b:=valE ρ n (e.ks.getD 1 default)
     if b.2=false then(0,false)
     else if e.kind=2 then(a.1+b.1,nearB (a.1+b.1)) else(a.1 - b.1,nearB (a.1 - b.1))
theorem valE_succ (ρ:ByteArray→Int)(n:Nat)(e:ET):valE ρ (n+1) e=if e.kind=0 then(e.n,nearB e.n)
 else if e.kind=1 then(ρ e.name,nearB (ρ e.name))
 else
  if(valE ρ n (e.ks.getD 0 default)).2=false then(0,false)
  else if e.kind=4 then(e.n*(valE ρ n (e.ks.getD 0 default)).1,nearB (e.n*(valE ρ n (e.ks.getD 0 default)).1))
  else
   if(valE ρ n (e.ks.getD 1 default)).2=false then(0,false)
   else if e.kind=2 then((valE ρ n (e.ks.getD 0 default)).1+(valE ρ n (e.ks.getD 1 default)).1,nearB ((valE ρ n (e.ks.getD 0 default)).1+(valE ρ n (e.ks.getD 1 default)).1)) else((valE ρ n (e.ks.getD 0 default)).1 - (valE ρ n (e.ks.getD 1 default)).1,nearB ((valE ρ n (e.ks.getD 0 default)).1 - (valE ρ n (e.ks.getD 1 default)).1)):=rfl
def ValIn (x:Int×Bool)(w:World)(r:Ending)(w':World):Prop:=r= .returned (.tuple #[.int .i64 x.1,.bool x.2])∧Below w.heap.size w w'
structure Kids2 (g:Nat)(x y:Value)(w:World):Prop where
 c0:w.cell? ⟨g,0,none⟩=some x
 c1:w.cell? ⟨g,1,none⟩=some y
 f:∀o,w.frozen? ⟨g,o,none⟩=false
theorem Kids2.below {g:Nat}{x y:Value}{w w':World}(h:Kids2 g x y w)(hb:Below w.heap.size w w'):Kids2 g x y w':=
 ⟨(hb.cell (p:=⟨g,0,none⟩) (block_lt_of_cell h.c0)).trans h.c0,(hb.cell (p:=⟨g,1,none⟩) (block_lt_of_cell h.c1)).trans h.c1,fun o=>(hb.frozen (p:=⟨g,o,none⟩) (show g<w.heap.size from block_lt_of_cell (a:=⟨g,0,none⟩) h.c0)).trans (h.f o)⟩
theorem Kids2.set0 {g:Nat}{x y v:Value}{w:World}(h:Kids2 g x y w):Kids2 g v y (w.setCell ⟨g,0,none⟩ v):=
 ⟨World.cell?_setCell_same _ _ _ h.c0,by rw[World.cell?_setCell_other _ _ _ _ (by simp)];exact h.c1,fun o=>by rw[World.frozen?_setCell];exact h.f o⟩
theorem Kids2.set1 {g:Nat}{x y v:Value}{w:World}(h:Kids2 g x y w):Kids2 g x v (w.setCell ⟨g,1,none⟩ v):=
 ⟨by rw[World.cell?_setCell_other _ _ _ _ (by simp)];exact h.c0,World.cell?_setCell_same _ _ _ h.c1,fun o=>by rw[World.frozen?_setCell];exact h.f o⟩
theorem valE_far {ρ:ByteArray→Int}{n:Nat}{e:ET}{m j:Nat}(hk:(e.kind=0∧m=0)∨(e.kind=1∧m=0)∨(e.kind=2∧m=2)∨(e.kind=3∧m=2)∨(e.kind=4∧m=1))(hj:j<m)(hp:∀q,q<j→(valE ρ n (e.ks.getD q default)).2=true)(h:(valE ρ n (e.ks.getD j default)).2=false):valE ρ (n+1) e=(0,false):=by
 have h0:e.kind≠0:=by omega
 have h1:e.kind≠1:=by omega
 have hj2:j=0∨j=1:=by omega
 rw[valE_succ,if_neg h0,if_neg h1]
 rcases hj2 with rfl | rfl
 ·simp only[h,if_true]
 ·have h4:e.kind≠4:=by omega
  simp only[hp 0 (Nat.succ_pos _),h,if_true,h4,if_false,Bool.true_eq_false]
theorem frozen_new {W:World}{g:Nat}{c:Array Value}{t:TypeId}(h:W.heap[g]? =some (.cells c t (0,0)))(o:Nat):W.frozen? ⟨g,o,none⟩=false:=by
 simp[World.frozen?,h]
def kidV (ρ:ByteArray→Int)(n:Nat)(e:ET)(j q:Nat):Int:=if q<j then(valE ρ n (e.ks.getD q default)).1 else 0
theorem hexpr_box (n:Nat)(ρ:ByteArray→Int)(e:ET)(vs:Value)(a:Option Addr)(m cap:Nat)(w:World)(hm:e.ks.length=m)(hs:Pak.Sits (exprSh n) (Pak.Lo w.heap.size) w a e.ks)
 (hk:(e.kind=0∧m=0)∨(e.kind=1∧m=0)∨(e.kind=2∧m=2)∨(e.kind=3∧m=2)∨(e.kind=4∧m=1)) (hn: -1073741824≤e.n∧e.n≤1073741824)
 (hvar:ValAll 67 #[.string e.name,vs] (.int .i64 (ρ e.name)) w)
 (hnear:∀x,(valE ρ n x).2=true→ -4294967296≤(valE ρ n x).1∧(valE ρ n x).1≤4294967296)
 (hf:∀cs x W,x∈e.ks→Below w.heap.size w W→(exprSh n).rel (Pak.Lo W.heap.size) W cs x→Calls Tryz.prog 42 #[.agg cs.toArray,vs] W (ValIn (valE ρ n x) W)):
 Calls Tryz.prog 42 #[.agg #[.int .i64 e.kind,.int .i64 e.n,.string e.name,.slice a m cap],vs] w (ValIn (valE ρ (n+1) e) w):=by
 have HK:=Lib.hid hk
 have HS:=Lib.hid hs
 have HF:=Lib.hid hf
 have HM:=Lib.hid hm
 have HV:=Lib.hid hvar
 have HNR:=Lib.hid hnear
 have HN0:=Lib.hid hn
 have hm2:m≤2:=by omega
 have hmm:m≤9223372036854775807:=by omega
 have HP:Hid (∀q,(h:q<e.ks.length)→e.ks.getD q default=e.ks[q]):=fun q h=>by
  rw[List.getD_eq_getElem?_getD,List.getElem?_eq_getElem h];rfl
 have HA:Hid (Below w.heap.size w (w.alloc (.cells #[.int .i64 e.kind,.int .i64 e.n,.string e.name,.slice a m cap] 49))):=box_low
 have HQ:Hid (∀W,Below (w.alloc (.cells #[.int .i64 e.kind,.int .i64 e.n,.string e.name,.slice a m cap] 49)).heap.size (w.alloc (.cells #[.int .i64 e.kind,.int .i64 e.n,.string e.name,.slice a m cap] 49)) W→W.cell? ⟨w.heap.size,0,none⟩=some (.int .i64 e.kind)∧W.cell? ⟨w.heap.size,1,none⟩=some (.int .i64 e.n)∧W.cell? ⟨w.heap.size,2,none⟩=some (.string e.name)):=fun W hb=>
  ⟨box_at (cs:=[.int .i64 e.kind,.int .i64 e.n,.string e.name,.slice a m cap]) rfl hb,box_at (cs:=[.int .i64 e.kind,.int .i64 e.n,.string e.name,.slice a m cap]) rfl hb,box_at (cs:=[.int .i64 e.kind,.int .i64 e.n,.string e.name,.slice a m cap]) rfl hb⟩
 have HB1:Hid (Below (w.alloc (.cells #[.int .i64 e.kind,.int .i64 e.n,.string e.name,.slice a m cap] 49)).heap.size (w.alloc (.cells #[.int .i64 e.kind,.int .i64 e.n,.string e.name,.slice a m cap] 49)) ((w.alloc (.cells #[.int .i64 e.kind,.int .i64 e.n,.string e.name,.slice a m cap] 49)).alloc (.cells #[.int .i64 0,.int .i64 0] 144))):=box_low
 have HK0:Hid (Kids2 (w.heap.size+1) (.int .i64 (kidV ρ n e 0 0)) (.int .i64 (kidV ρ n e 0 1)) ((w.alloc (.cells #[.int .i64 e.kind,.int .i64 e.n,.string e.name,.slice a m cap] 49)).alloc (.cells #[.int .i64 0,.int .i64 0] 144))):=Lib.hid (by
  have hh:=heap_alloc_new (w.alloc (.cells #[.int .i64 e.kind,.int .i64 e.n,.string e.name,.slice a m cap] 49)) (.cells #[.int .i64 0,.int .i64 0] 144)
  have hz:(w.alloc (.cells #[.int .i64 e.kind,.int .i64 e.n,.string e.name,.slice a m cap] 49)).heap.size=w.heap.size+1:=by simp
  rw[hz]at hh
  exact⟨(cell_of_row _ _ _ _ _ _ hh).trans rfl,(cell_of_row _ _ _ _ _ _ hh).trans rfl,fun o=>frozen_new hh o⟩)
 clear hs hf hm hk hvar hnear hn
 go_enter Tryz.func42,Tryz.ntmps42
 go_wp2_with fail
 go_loopw [15] (fun i wr=>∃j:Nat,j≤m∧i= .int .i64 j∧Hid (∀q,q<j→(valE ρ n (e.ks.getD q default)).2=true)∧Hid (Kids2 (w.heap.size+1) (.int .i64 (kidV ρ n e j 0)) (.int .i64 (kidV ρ n e j 1)) wr)∧Hid (Below (w.alloc (.cells #[.int .i64 e.kind,.int .i64 e.n,.string e.name,.slice a m cap] 49)).heap.size (w.alloc (.cells #[.int .i64 e.kind,.int .i64 e.n,.string e.name,.slice a m cap] 49)) wr)) (fun i _=>m - (intOf i).toNat)
 case atStart=>exact⟨0,Nat.zero_le _,rfl,fun q h=>absurd h (Nat.not_lt_zero _),HK0,HB1⟩
 case round=>
  obtain⟨j,hj,rfl,hno,hkid,hb⟩:=hrel
  obtain⟨wo,rfl⟩:∃wo:World,wo=wr:=⟨_,rfl⟩
  have HWO:=Lib.hid (HA.out.trans (hb.out.mono HA.out.size))
  by_cases hlt:j<m
  ·have hlx:j<e.ks.length:=by rw[HM.out];exact hlt
   have hji:(j:Int)<(m:Int):=by omega
   obtain⟨b,off,cs,rfl,hbl,hc,hr⟩:=(HS.out.below HWO.out HWO.out.size).2 j hlx
   have hlen:=(exprSh n).len hr
   have hone:=(exprSh n).one hr
   rw[exprSh_k]at hlen hc
   have HC0:Hid (∀i v,cs[i]? =some v→wo.cell? ((⟨b,off+j*4,none⟩:Addr).add i)=some v):=fun i v hv=>by
    rw[show(⟨b,off+j*4,none⟩:Addr).add i=⟨b,off+j*4+i,none⟩ by unfold Addr.add;split<;>simp_all]
    exact hc i v hv
   have hA:Below wo.heap.size wo (wo.alloc (.cells cs.toArray 49)):=box_low
   have HBK:=Lib.hid (hb.out.trans (hA.mono hb.out.size))
   have HWK:=Lib.hid (HWO.out.trans (hA.mono HWO.out.size))
   have HKA:=Lib.hid (hkid.out.below hA)
   have HC:=Lib.hid (HF.out _ e.ks[j] _ (List.getElem_mem hlx) HWK.out (rel_low hr hA))
   have HX:Hid (∀i v,cs[i]? =some v→(wo.alloc (.cells cs.toArray 49)).cell? ((⟨wo.heap.size,0,none⟩:Addr).add i)=some v):=box_part (o:=0) (fun i v h=>by rw[Nat.zero_add];exact h) (Below.refl _ _)
   have HL:=Lib.hid hlen
   have HO:=Lib.hid hone
   have HFAR:Hid ((valE ρ n e.ks[j]).2=false→valE ρ (n+1) e=(0,false)):=fun h=>valE_far HK.out hlt hno.out (by rw[HP.out j hlx];exact h)
   have HNX:Hid ((valE ρ n e.ks[j]).2=true→∀q,q<j+1→(valE ρ n (e.ks.getD q default)).2=true):=fun h q hq=>by
    by_cases e':q=j
    ·subst e';rw[HP.out q hlx];exact h
    ·exact hno.out q (by omega)
   have HVX:Hid ((valE ρ n (e.ks.getD j default)).1=(valE ρ n e.ks[j]).1):=Lib.hid (by rw[HP.out j hlx])
   clear hc hr hlen hone hA
   generalize valE ρ n e.ks[j]=y at HC HFAR HNX HVX
   obtain⟨yv,yn⟩:=y
   go_wp2_with (first | go_skip | (refine wpList_store_new (by kernel_rfl) 49 _ _ rfl _ rfl cs rfl (by rw[HL.out];kernel_rfl) (by rw[HL.out];rfl) HO.out ?_) | (refine wpList_load_w (by kernel_rfl) 49 _ rfl ⟨b,off+j*4,none⟩ rfl cs _ HC0.out Tryz.underlying49 rfl (by rw[HL.out];kernel_rfl) ?_) | (refine wpList_load_w (by kernel_rfl) 49 _ rfl ⟨wo.heap.size,0,none⟩ rfl cs _ HX.out Tryz.underlying49 rfl (by rw[HL.out];kernel_rfl) ?_))
   refine HC.out.mono ?_
   rintro r w2 ⟨rfl,hb2⟩
   have HB2:=Lib.hid (HBK.out.trans (hb2.mono HBK.out.size))
   have HK2:=Lib.hid (HKA.out.below hb2)
   have HZ:=Lib.hid (HA.out.trans (HB2.out.mono HA.out.size))
   clear hb2 HC HC0 HX
   dsimp only at HFAR HNX HVX⊢
   cases yn with
   | false=>
     have hres:=Lib.hid (HFAR.out rfl)
     clear HFAR HNX HVX
     go_wp2_with fail
     go_ret2
     exact⟨by rw[hres.out];rfl,HZ.out⟩
   | true=>
     have HN2:=Lib.hid (HNX.out rfl)
     obtain⟨k0,k1,kf⟩:=HK2.out
     have hj2:j=0∨j=1:=by omega
     rcases hj2 with rfl | rfl
     ·have HK3:Hid (Kids2 (w.heap.size+1) (.int .i64 (kidV ρ n e (0+1) 0)) (.int .i64 (kidV ρ n e (0+1) 1)) (w2.setCell ⟨w.heap.size+1,0,none⟩ (.int .i64 yv))):=Lib.hid (by
       have h:=HK2.out.set0 (v:= .int .i64 yv)
       have e1:kidV ρ n e (0+1) 0=yv:=by unfold kidV;rw[if_pos (by omega)];exact HVX.out
       have e2:kidV ρ n e (0+1) 1=kidV ρ n e 0 1:=by unfold kidV;rw[if_neg (by omega),if_neg (by omega)]
       rw[e1,e2];exact h)
      have HB3:=Lib.hid (HB2.out.setCell (p:=⟨w.heap.size+1,0,none⟩) (by simp) (.int .i64 yv))
      have kf0:=kf 0
      clear HFAR HNX HVX HK2 kf
      go_wp2_with fail
      go_roundw
      case rel=>exact⟨0+1,by omega,by go_num,HN2,HK3,HB3⟩
      case measure=>simp[intOf];omega
     ·have HK3:Hid (Kids2 (w.heap.size+1) (.int .i64 (kidV ρ n e (1+1) 0)) (.int .i64 (kidV ρ n e (1+1) 1)) (w2.setCell ⟨w.heap.size+1,1,none⟩ (.int .i64 yv))):=Lib.hid (by
       have h:=HK2.out.set1 (v:= .int .i64 yv)
       have e1:kidV ρ n e (1+1) 1=yv:=by unfold kidV;rw[if_pos (by omega)];exact HVX.out
       have e2:kidV ρ n e (1+1) 0=kidV ρ n e 1 0:=by unfold kidV;rw[if_pos (by omega),if_pos (by omega)]
       rw[e1,e2];exact h)
      have HB3:=Lib.hid (HB2.out.setCell (p:=⟨w.heap.size+1,1,none⟩) (by simp) (.int .i64 yv))
      have kf1:=kf 1
      clear HFAR HNX HVX HK2 kf
      go_wp2_with fail
      go_roundw
      case rel=>exact⟨1+1,by omega,by go_num,HN2,HK3,HB3⟩
      case measure=>simp[intOf];omega
  ·have hjm:j=m:=by omega
   subst hjm
   obtain⟨q0,q1,q2⟩:=HQ.out _ hb.out
   obtain⟨k0,k1,kf⟩:=hkid.out
   have HV2:=Lib.hid (HV.out.at HWO.out)
   obtain⟨V,hV,hcase⟩:∃V:Int,valE ρ (n+1) e=(V,nearB V)∧((e.kind=0∧V=e.n)∨(e.kind=1∧V=ρ e.name)∨(e.kind=2∧V=kidV ρ n e j 0+kidV ρ n e j 1)∨(e.kind=3∧V=kidV ρ n e j 0 - kidV ρ n e j 1)∨(e.kind=4∧V=e.n*kidV ρ n e j 0)):=by
    have hk:=HK.out
    rcases hk with ⟨h1,h2⟩ | ⟨h1,h2⟩ | ⟨h1,h2⟩ | ⟨h1,h2⟩ | ⟨h1,h2⟩
    ·exact⟨e.n,by rw[valE_succ,if_pos h1],.inl ⟨h1,rfl⟩⟩
    ·exact⟨ρ e.name,by rw[valE_succ,if_neg (by omega),if_pos h1],.inr (.inl ⟨h1,rfl⟩)⟩
    ·subst h2
     refine⟨_, ?_,.inr (.inr (.inl ⟨h1,rfl⟩))⟩
     rw[show kidV ρ n e 2 0=(valE ρ n (e.ks.getD 0 default)).1 from if_pos (by decide),show kidV ρ n e 2 1=(valE ρ n (e.ks.getD 1 default)).1 from if_pos (by decide)]
     rw[valE_succ]
     rw[if_neg (by omega),if_neg (by omega)]
     simp only[hno.out 0 (by omega),hno.out 1 (by omega),Bool.true_eq_false,if_false]
     rw[if_neg (by omega)]
     rw[if_pos h1]
    ·subst h2
     refine⟨_, ?_,.inr (.inr (.inr (.inl ⟨h1,rfl⟩)))⟩
     rw[show kidV ρ n e 2 0=(valE ρ n (e.ks.getD 0 default)).1 from if_pos (by decide),show kidV ρ n e 2 1=(valE ρ n (e.ks.getD 1 default)).1 from if_pos (by decide)]
     rw[valE_succ]
     rw[if_neg (by omega),if_neg (by omega)]
     simp only[hno.out 0 (by omega),hno.out 1 (by omega),Bool.true_eq_false,if_false]
     rw[if_neg (by omega)]
     rw[if_neg (by omega)]
    ·subst h2
     refine⟨_, ?_,.inr (.inr (.inr (.inr ⟨h1,rfl⟩)))⟩
     rw[show kidV ρ n e 1 0=(valE ρ n (e.ks.getD 0 default)).1 from if_pos (by decide)]
     rw[valE_succ]
     rw[if_neg (by omega),if_neg (by omega)]
     simp only[hno.out 0 (by omega),Bool.true_eq_false,if_false]
     rw[if_pos h1]
   have hb0: -4294967296≤kidV ρ n e j 0∧kidV ρ n e j 0≤4294967296:=by
    unfold kidV
    split
    ·next h=>exact HNR.out _ (hno.out 0 h)
    ·omega
   have hb1: -4294967296≤kidV ρ n e j 1∧kidV ρ n e j 1≤4294967296:=by
    unfold kidV
    split
    ·next h=>exact HNR.out _ (hno.out 1 h)
    ·omega
   have hEV:=Lib.hid hV
   have hKN:=HK.out
   clear hV hkid hno HK HM HF HS HNR HP
   generalize kidV ρ n e j 0=u0 at*
   generalize kidV ρ n e j 1=u1 at*
   have hbn:=HN0.out
   have hmul: -4611686018427387904≤e.n*u0∧e.n*u0≤4611686018427387904:=by
    have h1:(e.n*u0).natAbs≤1073741824*4294967296:=by
     rw[Int.natAbs_mul]
     exact Nat.mul_le_mul (by omega) (by omega)
    omega
   generalize e.n=en at*
   generalize e.kind=kd at*
   have HMUL:Hid (-4611686018427387904≤en*u0∧en*u0≤4611686018427387904):=hmul
   have HCASE:=Lib.hid hcase
   clear hmul hcase
   go_upto_block 2 with fail
   go_cut [4] (fun s wr=>s= .int .i64 V∧Hid (Below w.heap.size w wr))
   case first=>
    rcases HCASE.out with ⟨h1,h2⟩ | ⟨h1,h2⟩ | ⟨h1,h2⟩ | ⟨h1,h2⟩ | ⟨h1,h2⟩
    ·skip
     have t0:(kd == 0)=true:=by rw[h1];rfl
     have t1:(kd == 1)=false:=by rw[h1];rfl
     have t2:(kd == 2)=false:=by rw[h1];rfl
     have t3:(kd == 3)=false:=by rw[h1];rfl
     have t4:(kd == 4)=false:=by rw[h1];rfl
     clear h1
     subst h2
     go_wp2_with fail
     go_meet
     case rel=>exact⟨rfl,HWO⟩
    ·skip
     have t0:(kd == 0)=false:=by rw[h1];rfl
     have t1:(kd == 1)=true:=by rw[h1];rfl
     have t2:(kd == 2)=false:=by rw[h1];rfl
     have t3:(kd == 3)=false:=by rw[h1];rfl
     have t4:(kd == 4)=false:=by rw[h1];rfl
     clear h1
     subst h2
     go_wp2_with fail
     refine HV2.out.mono ?_
     rintro r w3 ⟨rfl,hb3⟩
     have HZ3:=Lib.hid (HWO.out.trans (hb3.mono HWO.out.size))
     clear hb3
     go_wp2_with fail
     go_meet
     case rel=>exact⟨rfl,HZ3⟩
    ·skip
     have t0:(kd == 0)=false:=by rw[h1];rfl
     have t1:(kd == 1)=false:=by rw[h1];rfl
     have t2:(kd == 2)=true:=by rw[h1];rfl
     have t3:(kd == 3)=false:=by rw[h1];rfl
     have t4:(kd == 4)=false:=by rw[h1];rfl
     clear h1
     subst h2
     go_wp2_with fail
     go_meet
     case rel=>exact⟨rfl,HWO⟩
    ·skip
     have t0:(kd == 0)=false:=by rw[h1];rfl
     have t1:(kd == 1)=false:=by rw[h1];rfl
     have t2:(kd == 2)=false:=by rw[h1];rfl
     have t3:(kd == 3)=true:=by rw[h1];rfl
     have t4:(kd == 4)=false:=by rw[h1];rfl
     clear h1
     subst h2
     go_wp2_with fail
     go_meet
     case rel=>exact⟨rfl,HWO⟩
    ·skip
     have t0:(kd == 0)=false:=by rw[h1];rfl
     have t1:(kd == 1)=false:=by rw[h1];rfl
     have t2:(kd == 2)=false:=by rw[h1];rfl
     have t3:(kd == 3)=false:=by rw[h1];rfl
     have t4:(kd == 4)=true:=by rw[h1];rfl
     clear h1
     have HW1:Hid (wrap64 (en*u0)=en*u0):=Lib.hid (IntWalk.wrap64_in _ (by have:=HMUL.out;omega))
     have H2:=Lib.hid h2
     clear h2
     go_wp2_with fail
     go_meet
     case rel=>exact⟨congrArg (Value.int .i64) (HW1.out.trans H2.out.symm),HWO⟩
   case rest=>
    obtain⟨rfl,HZ⟩:=hcut
    clear HCASE HMUL HV2 HQ q0 q1 q2 k0 k1 kf hb0 hb1 hbn hKN HN0 HV
    by_cases g1: -4294967296≤V
    ·by_cases g2:V≤4294967296
     ·have hr:Hid (nearB V=true):=Lib.hid (by unfold nearB;simp[g1,g2])
      go_wp2_with fail
      go_ret2
      exact⟨by rw[hEV.out,hr.out];rfl,HZ.out⟩
     ·have g3:decide (V≤4294967296)=false:=decide_eq_false g2
      have hr:Hid (nearB V=false):=Lib.hid (by unfold nearB;simp[g2])
      go_wp2_with fail
      go_ret2
      exact⟨by rw[hEV.out,hr.out];rfl,HZ.out⟩
    ·have g3:decide (-4294967296≤V)=false:=decide_eq_false g1
     have hr:Hid (nearB V=false):=Lib.hid (by unfold nearB;simp[g1])
     go_wp2_with fail
     go_ret2
     exact⟨by rw[hEV.out,hr.out];rfl,HZ.out⟩
theorem valE_near (ρ:ByteArray→Int):∀(n:Nat) (e:ET),(valE ρ n e).2=true→ -4294967296≤(valE ρ n e).1∧(valE ρ n e).1≤4294967296
 | 0,_,h=>by cases h
 | n+1,e,h=>by
   rw[valE_succ]at h⊢
   split at h
   ·next h0=>rw[if_pos h0];exact near_is h
   ·next h0=>
    rw[if_neg h0]
    split at h
    ·next h1=>rw[if_pos h1];exact near_is h
    ·next h1=>
     rw[if_neg h1]
     split at h
     ·cases h
     ·next h2=>
      rw[if_neg h2]
      split at h
      ·next h3=>rw[if_pos h3];exact near_is h
      ·next h3=>
       rw[if_neg h3]
       split at h
       ·cases h
       ·next h4=>
        rw[if_neg h4]
        split at h
        ·next h5=>rw[if_pos h5];exact near_is h
        ·next h5=>rw[if_neg h5];exact near_is h
theorem snE_parts {nm:ByteArray→Bool}{n:Nat}{e:ET}(h:snE nm (n+1) e=true):((e.kind=0∧e.ks.length=0)∨(e.kind=1∧e.ks.length=0)∨(e.kind=2∧e.ks.length=2)∨(e.kind=3∧e.ks.length=2)∨(e.kind=4∧e.ks.length=1))∧(-1073741824≤e.n∧e.n≤1073741824)∧∀x∈e.ks,snE nm n x=true:=by
 unfold snE at h
 split at h
 ·next h1=>
  simp only[Bool.and_eq_true,beq_iff_eq]at h
  refine⟨.inr (.inl ⟨h1,h.2⟩),by omega,fun x hx=> ?_⟩
  rw[List.length_eq_zero_iff.1 h.2]at hx
  cases hx
 ·next h1=>
  split at h
  ·next h2=>
   simp only[Bool.and_eq_true,Bool.or_eq_true,beq_iff_eq,decide_eq_true_eq]at h
   obtain⟨⟨⟨hn,_⟩,hl⟩,ha⟩:=h
   have hk:e.kind=0∨e.kind=2∨e.kind=3∨e.kind=4:=by omega
   refine⟨?_, ?_,fun x hx=>List.all_eq_true.1 ha x hx⟩
   ·rcases hk with hk | hk | hk | hk<;>rw[hk]at hl<;>simp only[kidsE]at hl
    ·exact .inl ⟨hk,by simpa using hl⟩
    ·exact .inr (.inr (.inl ⟨hk,by simpa using hl⟩))
    ·exact .inr (.inr (.inr (.inl ⟨hk,by simpa using hl⟩)))
    ·exact .inr (.inr (.inr (.inr ⟨hk,by simpa using hl⟩)))
   ·rcases hn with hn | ⟨_,hn⟩
    ·omega
    ·unfold inB at hn
     simpa using hn
  ·cases h
theorem hexpr_any (nm:ByteArray→Bool)(ρ:ByteArray→Int)(vs:Value):∀(n:Nat) (e:ET) (cs:List Value) (w:World),snE nm n e=true→(exprSh n).rel (Pak.Lo w.heap.size) w cs e→(∀s W,s.size≤maxLen→Below w.heap.size w W→ValAll 67 #[.string s,vs] (.int .i64 (ρ s)) W)→
 Calls Tryz.prog 42 #[.agg cs.toArray,vs] w (ValIn (valE ρ n e) w)
 | 0,_,_,_,_,h,_=>h.elim
 | n+1,e,cs,w,hs,h,hv=>by
   obtain⟨hk,hn,hkid⟩:=snE_parts hs
   obtain⟨v,rfl,⟨_,_,hsz⟩,a,cap,rfl,hsit⟩:=h
   exact hexpr_box n ρ e vs a _ cap w rfl hsit hk hn (hv e.name w hsz (Below.refl _ _)) (valE_near ρ n) (fun cs x W hx hb hr=>hexpr_any nm ρ vs n x cs W (hkid x hx) hr (fun s V hs hV=>hv s V hs (hb.trans (hV.mono hb.size))))
theorem hexpr_all (nm:ByteArray→Bool)(xs:List (ByteArray×Int))(a:Option Addr)(cap:Nat)(n:Nat)(e:ET)(cs:List Value)(w:World)(hs:snE nm n e=true)(h:(exprSh n).rel (Pak.Lo w.heap.size) w cs e)(hx:Pak.Sits varSh (Pak.Lo w.heap.size) w a xs):
 ValAll 42 #[.agg cs.toArray,.slice a xs.length cap] (.tuple #[.int .i64 (valE (fun s=>varOf s xs) n e).1,.bool (valE (fun s=>varOf s xs) n e).2]) w:=fun W hW=>
 hexpr_any nm (fun s=>varOf s xs) _ n e cs W hs (rel_low h hW) (fun s V hs hV U hU=>variable_any s a xs.length cap xs U rfl ((hx.below (hW.trans (hV.mono hW.size)) (Nat.le_trans hW.size hV.size)).below hU hU.size))
end
namespace Lf
open Go.RowKit
def ccV (d s:Nat)(b:Bool):Int:=if 64<d then 4 else if 4096<s then 2 else if b then 0 else 5
def cc (n:Nat)(f:FT):Int:=ccV (dep n f) (siz n f) (sndF n f)
def codeV (k:Int):Value:=if k=0 then .nilIface else .iface 89 (.int .i64 k)
theorem fcheck_any (n:Nat)(f:FT)(cs:List Value)(w:World)(h:FLies w.heap.size w n f cs):
 Calls Tryz.prog 46 #[.agg cs.toArray] w fun e w'=>e= .returned (codeV (cc n f))∧Below w.heap.size w w':=by
 have FL:=fun W (hb:Below w.heap.size w W)=>(h.below hb).mono hb.size
 cases n with
 | zero=>exact h.elim
 | succ n=>
   obtain⟨ta,tcap,ka,kcap,rfl,_⟩:=h
   have hd:=Lib.hid (fun W hb=>deeper_any (n+1) f _ 64 W (by omega) (by omega) (FL W hb))
   have hc:=Lib.hid (fun W hb=>count_any (n+1) f _ 4096 W (by omega) (by omega) (FL W hb))
   have hs:=Lib.hid (fun W hb=>sound_any (n+1) f _ W (FL W hb))
   have T0:=Lib.hid (box_start w f.kind f.c ta ka f.t.length tcap f.ks.length kcap)
   unfold cc
   clear FL
   generalize dep (n+1) f=d at hd
   generalize siz (n+1) f=s at hc
   generalize sndF (n+1) f=b at hs
   generalize f.kind=fk at T0 hd hc hs
   generalize f.c=fc at T0 hd hc hs
   generalize f.t.length=ft at T0 hd hc hs
   generalize f.ks.length=fl at T0 hd hc hs
   by_cases h1:64<d
   ·have e1:decide ((64:Int)<(d:Int))=true:=by simp;omega
    have er:codeV (ccV d s b)= .iface 89 (.int .i64 4):=by unfold ccV;rw[if_pos h1];rfl
    rw[er]
    rw[e1]at hd
    clear er e1 h1 hc hs
    go_enter Tryz.func46,Tryz.ntmps46
    go_wp2_with fail
    refine(hd.out _ T0.out.bel).mono ?_
    rintro e w1 ⟨rfl,hb1⟩
    have T1:=Lib.hid (T0.out.below hb1 T0.out.lt)
    clear hb1
    go_wp2_with fail
    go_ret
    exact⟨rfl,T1.out.bel⟩
   ·have e1:decide ((64:Int)<(d:Int))=false:=by simp;omega
    rw[e1]at hd
    by_cases h2:4096<s
    ·have er:codeV (ccV d s b)= .iface 89 (.int .i64 2):=by unfold ccV;rw[if_neg h1,if_pos h2];rfl
     have e2:cnt s 4096=4097:=by unfold cnt;rw[if_neg (by omega)];rfl
     rw[er]
     rw[e2]at hc
     clear er e1 e2 h1 h2 hs
     go_enter Tryz.func46,Tryz.ntmps46
     go_wp2_with fail
     refine(hd.out _ T0.out.bel).mono ?_
     rintro e w1 ⟨rfl,hb1⟩
     have T1:=Lib.hid (T0.out.below hb1 T0.out.lt)
     clear hb1
     obtain⟨l1,p0,p1,p2,p3,_⟩:=T1.out
     go_wp2_with fail
     refine(hc.out _ T1.out.bel).mono ?_
     rintro e w2 ⟨rfl,hb2⟩
     have T2:=Lib.hid (T1.out.below hb2 T1.out.lt)
     clear hb2 l1 p0 p1 p2 p3
     go_wp2_with fail
     go_ret
     exact⟨rfl,T2.out.bel⟩
    ·have e2:cnt s 4096=s:=by unfold cnt;rw[if_pos (by omega)]
     have er:codeV (ccV d s b)=errV b:=by unfold ccV;rw[if_neg h1,if_neg h2];cases b<;>rfl
     have hs4:(s:Int)≤4096:=by omega
     rw[er]
     rw[e2]at hc
     clear er e1 e2 h1 h2
     go_enter Tryz.func46,Tryz.ntmps46
     go_wp2_with fail
     refine(hd.out _ T0.out.bel).mono ?_
     rintro e w1 ⟨rfl,hb1⟩
     have T1:=Lib.hid (T0.out.below hb1 T0.out.lt)
     clear hb1
     obtain⟨l1,p0,p1,p2,p3,_⟩:=T1.out
     go_wp2_with fail
     refine(hc.out _ T1.out.bel).mono ?_
     rintro e w2 ⟨rfl,hb2⟩
     have T2:=Lib.hid (T1.out.below hb2 T1.out.lt)
     clear hb2 l1 p0 p1 p2 p3
     obtain⟨l2,p0,p1,p2,p3,_⟩:=T2.out
     go_wp2_with fail
     refine(hs.out _ T2.out.bel).mono ?_
     rintro e w3 ⟨rfl,hb3⟩
     have T3:=Lib.hid (T2.out.below hb3 T2.out.lt)
     clear hb3 l2 p0 p1 p2 p3
     cases b with
     | true=>
       go_wp2_with fail
       go_ret
       exact⟨rfl,T3.out.bel⟩
     | false=>
       go_wp2_with fail
       go_ret
       exact⟨rfl,T3.out.bel⟩
theorem Tryz.neNil (w:World):(binOp .neq 32 .nilIface .nilIface).run Tryz.prog w= .ok (.bool false) w:=by simp[go_sem]
theorem Tryz.neCode (k:Int)(w:World):(binOp .neq 32 (.iface 89 (.int .i64 k)) .nilIface).run Tryz.prog w= .ok (.bool true) w:=by simp[go_sem]
end Lf
section
open Go.RowKit
theorem info_parts {p:Option TypeInfo}{a:Option Value}{b c:Nat}(h:p.map (fun i=>(i.zero,i.size,i.bytes))=some (a,b,c)):∃i,p=some i∧i.zero=a∧i.size=b∧i.bytes=c:=by
 cases p with
 | none=>cases h
 | some i=>simp at h;exact⟨i,rfl,h.1,h.2.1,h.2.2⟩
end
namespace Lf
open Go.ChangeShapes Go.WideShapes Go.RowKit Go.Deep
section
variable {H:Type} {enc:TypeId×Value→H} {P:Program} {w:World} {base:Nat} {spare:Nat→Bool} {held:Bool}
end
section
variable {H:Type} {enc:TypeId×Value→H} {w:World} {base:Nat} {spare:Nat→Bool} {held:Bool}
theorem open_nums {r:Reach}{b0:Nat}{v:Value}{d:DataW H}{p:List MemPlace}(hv:Value.okWide Tryz.prog w r b0 54 v)(h:DataW.Trod enc Tryz.prog w base spare held 54 v d p):
 ∃(a:Option Addr) (n cap:Nat) (zs:List Int),v= .slice a n cap∧zs.length=n∧n≤cap∧cap≤maxLen∧(∀i,i<zs.length→∃b off,a=some ⟨b,off,none⟩∧b<w.heap.size∧w.cell? ⟨b,off+i,none⟩=some (.int .i64 (zs.getD i 0)))∧∀m∈zs,(Lit.int .i64 m).wf=true:=by
 obtain⟨a,len,cap,rfl⟩:=okWide_slice Tryz.underlying54 hv
 obtain⟨fuel,hf⟩:=h
 rcases open_ints Tryz.underlying54 Tryz.underlying3 (by kernel_rfl) hf with ⟨hcs,_⟩ | ⟨x,l,c,zs,hcs,_,hl,hm,hz,_,hcell,hwz⟩
 ·simp[Value.cells]at hcs
  obtain⟨rfl,rfl,rfl⟩:=hcs
  exact⟨none,0,0,[],rfl,rfl,Nat.le_refl _,Nat.zero_le _,fun i hi=>absurd hi (Nat.not_lt_zero i),fun m hm=>by cases hm⟩
 ·simp[Value.cells]at hcs
  obtain⟨rfl,rfl,rfl⟩:=hcs
  have hz':len≤zs.length:=by rw[hz];split<;>omega
  clear hz
  refine⟨some x,len,cap,zs.take len,rfl,by simp;omega,hl,hm,fun i hi=> ?_,fun m hm=>hwz m (List.mem_of_mem_take hm)⟩
  have hi':i<len:=by rw[List.length_take]at hi;omega
  obtain⟨b,off,rfl,hc⟩:=ints_at hcell (by omega)
  have h1:=hc i (by omega)
  refine⟨b,off,rfl,by simpa using block_lt_of_cell h1, ?_⟩
  rw[h1]
  simp[List.getD_eq_getElem?_getD,hi']
end
end Lf
end Go.Proofs.YtjbkhdbjdahbiaaGreatDoor
