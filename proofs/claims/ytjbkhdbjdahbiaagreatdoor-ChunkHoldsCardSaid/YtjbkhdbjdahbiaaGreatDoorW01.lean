/- Parts of a proof. -/
import Derived.Test.YtjbkhdbjdahbiaaGreatDoorQ03
import Derived.LaidEql
import Derived.Test.YtjbkhdbjdahbiaaGreatDoorQ05
import Derived.Test.YtjbkhdbjdahbiaaGreatDoorQ02
import Derived.Test.YtjbkhdbjdahbiaaGreatDoorProg
import Derived.WalkKit
import Derived.Lib.Hide
import Derived.Below
import Derived.Lib.Bytealg
import Derived.Deep.AppendLies
import Derived.Lib.AppendZerosOnto
import Derived.RegionTactic
import Derived.BigRegion
import Derived.Deep.RegionWith
import Derived.BigQuiet
import Derived.Deep.QuietTactic
import Derived.Lib.QuietBelow
import Derived.Deep.RegionLaw
set_option linter.unusedVariables false
set_option linter.unusedSimpArgs false
set_option maxHeartbeats 60000000
set_option maxRecDepth 100000
namespace Go.Proofs.YtjbkhdbjdahbiaaGreatDoor
namespace Lf
open Go.RowKit
theorem Tryz.eqIfaceNil (k:Int)(w:World):(binOp .eql 32 (.iface 89 (.int .i64 k)) .nilIface).run Tryz.prog w= .ok (.bool false) w:=by simp[go_sem]
end Lf
namespace Lf
open Go.RowKit
def top (l:List Nat):Nat:=l.foldr max 0
theorem lt_top {m:Nat}{l:List Nat}:m<top l↔∃x∈l,m<x:=by
 induction l with
 | nil=>simp[top]
 | cons a r ih=>
   have e:top (a :: r)=max a (top r):=rfl
   rw[e]
   constructor
   ·intro h
    by_cases h1:m<a
    ·exact⟨a,by simp,h1⟩
    ·obtain⟨x,hx,hm⟩:=ih.1 (by omega)
     exact⟨x,by simp[hx],hm⟩
   ·rintro⟨x,hx,hm⟩
    rcases List.mem_cons.1 hx with rfl | hx
    ·omega
    ·have:=ih.2 ⟨x,hx,hm⟩
     omega
def dep:Nat→FT→Nat
 | 0,_=>0
 | n+1,f=>1+top (f.ks.map (dep n))
def siz:Nat→FT→Nat
 | 0,_=>0
 | n+1,f=>1+(f.ks.map (siz n)).sum
theorem dep_zero (n:Nat)(f:FT):0<dep (n+1) f:=by unfold dep;omega
theorem dep_succ {n m:Nat}{f:FT}:m+1<dep (n+1) f↔∃i,i<f.ks.length∧m<dep n (f.ks.getD i default):=by
 rw[show dep (n+1) f=1+top (f.ks.map (dep n)) from rfl,show m+1<1+top (f.ks.map (dep n))↔m<top (f.ks.map (dep n)) by omega,lt_top]
 constructor
 ·rintro⟨x,hx,hm⟩
  obtain⟨k,hk,rfl⟩:=List.mem_map.1 hx
  obtain⟨i,hi,rfl⟩:=List.getElem_of_mem hk
  exact⟨i,hi,by rw[List.getD_eq_getElem?_getD,List.getElem?_eq_getElem hi];exact hm⟩
 ·rintro⟨i,hi,hm⟩
  rw[List.getD_eq_getElem?_getD,List.getElem?_eq_getElem hi]at hm
  exact⟨_,List.mem_map.2 ⟨_,List.getElem_mem hi,rfl⟩,hm⟩
def sizTo (n:Nat)(ks:List FT)(i:Nat):Nat:=((ks.take i).map (siz n)).sum
theorem sizTo_zero (n:Nat)(ks:List FT):sizTo n ks 0=0:=rfl
theorem sizTo_succ (n:Nat)(ks:List FT)(i:Nat)(h:i<ks.length):sizTo n ks (i+1)=sizTo n ks i+siz n (ks.getD i default):=by
 unfold sizTo
 rw[List.take_succ_eq_append_getElem h,List.map_append,List.sum_append]
 simp[List.getD_eq_getElem?_getD,h]
theorem sizTo_len (n:Nat)(f:FT):siz (n+1) f=1+sizTo n f.ks f.ks.length:=by unfold siz sizTo;rw[List.take_length]
theorem sizTo_mono (n:Nat)(ks:List FT){i j:Nat}(h:i≤j):sizTo n ks i≤sizTo n ks j:=by
 induction h with
 | refl=>exact Nat.le_refl _
 | @step j h ih=>
   by_cases hj:j<ks.length
   ·rw[sizTo_succ n ks j hj];omega
   ·unfold sizTo at ih⊢
    rw[List.take_of_length_le (show ks.length≤j+1 by omega)]
    rw[List.take_of_length_le (show ks.length≤j by omega)]at ih
    exact ih
def ownV (k c t l:Int)(sn:Bool):Bool:=
 if k=0∨k=1 then(c == 0 && t == 0) && l == 0
 else if k=2∨k=3 then sn && l == 0
 else if k=4 then(c == 0 && t == 0) && l == 1
 else if k=5∨k=6 then c == 0 && t == 0
 else false
def ownF (f:FT):Bool:=ownV f.kind f.c f.t.length f.ks.length (snd f.c f.t)
def sndF:Nat→FT→Bool
 | 0,_=>false
 | n+1,f=>ownF f && decide (∀i,i<f.ks.length→sndF n (f.ks.getD i default)=true)
theorem sndF_no {n:Nat}{f:FT}{i:Nat}(hi:i<f.ks.length)(h:sndF n (f.ks.getD i default)=false):sndF (n+1) f=false:=by
 show(ownF f && decide (∀i,i<f.ks.length→sndF n (f.ks.getD i default)=true))=false
 rw[decide_eq_false (fun hh=>by rw[hh i hi]at h;cases h),Bool.and_false]
theorem sndF_yes {n:Nat}{f:FT}(h:∀i,i<f.ks.length→sndF n (f.ks.getD i default)=true):sndF (n+1) f=ownF f:=by
 show(ownF f && decide (∀i,i<f.ks.length→sndF n (f.ks.getD i default)=true))=ownF f
 rw[decide_eq_true h,Bool.and_true]
end Lf
namespace Lf
open Go.RowKit
theorem dep_int {n:Nat}{m:Int}{f:FT}(h0:0≤m)(h1:m≠0):m<(dep (n+1) f:Int)↔∃i,i<f.ks.length∧m - 1<(dep n (f.ks.getD i default):Int):=by
 obtain⟨k,rfl⟩:∃k:Nat,m=(k+1:Nat):=⟨(m - 1).toNat,by omega⟩
 have:=dep_succ (n:=n) (m:=k) (f:=f)
 constructor
 ·intro h
  obtain⟨i,hi,hd⟩:=this.1 (by omega)
  exact⟨i,hi,by omega⟩
 ·rintro⟨i,hi,hd⟩
  have:=this.2 ⟨i,hi,by omega⟩
  omega
theorem deeper_any:∀(n:Nat) (f:FT) (cs:List Value) (m:Int) (w:World),0≤m→m≤4096→FLies w.heap.size w n f cs→
 Calls Tryz.prog 70 #[.agg cs.toArray,.int .i64 m] w fun e w'=>e= .returned (.bool (decide (m<(dep n f:Int))))∧Below w.heap.size w w'
 | 0,_,_,_,_,_,_,h=>h.elim
 | n+1,f,cs,m,w,h0,h1,h=>by
   have IH:=deeper_any n
   obtain⟨ta,tcap,ka,kcap,rfl,_,_,hk4,hks⟩:=h
   have HB0:Hid (Below w.heap.size w (w.alloc (.cells #[.int .i64 f.kind,.int .i64 f.c,.slice ta f.t.length tcap,.slice ka f.ks.length kcap] 38))):=(Below.refl _ w).alloc (Nat.le_refl _) _
   by_cases hm:m=0
   ·subst hm
    have hd:decide ((0:Int)<(dep (n+1) f:Int))=true:=by have:=dep_zero n f;simp;omega
    rw[hd]
    clear IH hks hd
    go_enter Tryz.func70,Tryz.ntmps70
    go_wp2
    go_ret
    exact⟨rfl,HB0.out⟩
   ·have HD:=Lib.hid (dep_int (n:=n) (f:=f) h0 hm)
    have HI:=Lib.hid IH
    have HK:=Lib.hid hks
    have hme:(m == 0)=false:=by simpa using hm
    generalize hr:decide (m<(dep (n+1) f:Int))=r
    have HR:=Lib.hid hr
    clear IH hks hr
    generalize f.kind=fk at HB0
    generalize f.c=fc at HB0
    generalize f.t.length=ft at HB0
    generalize hl:f.ks.length=len at HB0 HK HD hk4
    clear hl
    go_enter Tryz.func70,Tryz.ntmps70
    go_wp2
    go_loopw [12] (fun i wr=>∃k:Nat,k≤len∧i= .int .i64 k∧Hid (∀j,j<k→(dep n (f.ks.getD j default):Int)≤m - 1)∧Below w.heap.size w wr) (fun i _=>len - (intOf i).toNat)
    case atStart=>exact⟨0,Nat.zero_le _,rfl,fun j hj=>absurd hj (Nat.not_lt_zero j),HB0.out⟩
    case round=>
     obtain⟨k,hk,rfl,hno,hb⟩:=hrel
     by_cases hlt:k<len
     ·obtain⟨b,off,c0,c1,c2,c3,rfl,hblt,g0,g1,g2,g3,hf⟩:=HK.out k hlt
      rw[←hb.cell (p:=⟨b,_,none⟩) hblt]at g0 g1 g2 g3
      obtain⟨ck,cc,cta,ctn,ctcap,cka,ckn,ckcap,rfl,rfl,rfl,rfl⟩:=hf.form
      have hb2:=hb.alloc hb.size (.cells #[.int .i64 ck,.int .i64 cc,.slice cta ctn ctcap,.slice cka ckn ckcap] 38)
      have hih:=HI.out (f.ks.getD k default) _ (m - 1) _ (by omega) (by omega) ((hf.below hb2).mono hb2.size)
      by_cases hd:m - 1<(dep n (f.ks.getD k default):Int)
      ·have hr:r=true:=by rw[←HR.out];exact decide_eq_true (HD.out.2 ⟨k,hlt,hd⟩)
       rw[decide_eq_true hd]at hih
       subst hr
       clear hd hf hno
       go_wp2_with fail
       refine hih.mono ?_
       rintro e w1 ⟨rfl,hb1⟩
       have HB1:=Lib.hid (hb2.trans (hb1.mono hb2.size))
       clear g0 g1 g2 g3 hih hb1 hb2
       go_wp2
       go_ret
       exact⟨rfl,HB1.out⟩
      ·rw[decide_eq_false hd]at hih
       have hno2:Hid (∀j,j<k+1→(dep n (f.ks.getD j default):Int)≤m - 1):=fun j hj=>by
        by_cases ej:j=k
        ·rw[ej];omega
        ·exact hno.out j (by omega)
       clear hd hf hno
       go_wp2_with fail
       refine hih.mono ?_
       rintro e w1 ⟨rfl,hb1⟩
       have HB1:=Lib.hid (hb2.trans (hb1.mono hb2.size))
       clear g0 g1 g2 g3 hih hb1 hb2
       go_wp2
       go_roundw
       case rel=>exact⟨k+1,by omega,by go_num,hno2,HB1.out⟩
       case measure=>simp[intOf];omega
     ·have hr:r=false:=by
       rw[←HR.out]
       refine decide_eq_false fun h=> ?_
       obtain⟨i,hi,hd⟩:=HD.out.1 h
       have:=hno.out i (by omega);omega
      subst hr
      clear hno
      go_wp2
      go_ret
      exact⟨rfl,hb⟩
theorem sizTo_le (n:Nat)(f:FT)(k:Nat):1+sizTo n f.ks k≤siz (n+1) f:=by
 rw[sizTo_len]
 by_cases h:k≤f.ks.length
 ·have:=sizTo_mono n f.ks h;omega
 ·have:=sizTo_mono n f.ks (show f.ks.length≤k by omega)
  have e:sizTo n f.ks k=sizTo n f.ks f.ks.length:=by
   unfold sizTo;rw[List.take_of_length_le (by omega),List.take_length]
  omega
def cnt (s:Nat)(m:Int):Int:=if(s:Int)≤m then s else m+1
theorem count_any:∀(n:Nat) (f:FT) (cs:List Value) (m:Int) (w:World),0≤m→m≤4096→FLies w.heap.size w n f cs→
 Calls Tryz.prog 71 #[.agg cs.toArray,.int .i64 m] w fun e w'=>e= .returned (.int .i64 (cnt (siz n f) m))∧Below w.heap.size w w'
 | 0,_,_,_,_,_,_,h=>h.elim
 | n+1,f,cs,m,w,h0,h1,h=>by
   have IH:=count_any n
   obtain⟨ta,tcap,ka,kcap,rfl,_,_,hk4,hks⟩:=h
   have HB0:Hid (Below w.heap.size w (w.alloc (.cells #[.int .i64 f.kind,.int .i64 f.c,.slice ta f.t.length tcap,.slice ka f.ks.length kcap] 38))):=(Below.refl _ w).alloc (Nat.le_refl _) _
   have HI:=Lib.hid IH
   have HK:=Lib.hid hks
   have HLE:=Lib.hid (sizTo_le n f)
   have HLN:=Lib.hid (sizTo_len n f)
   have HST:=Lib.hid (sizTo_succ n f.ks)
   have S0:Hid ((1:Int)=cnt (1+sizTo n f.ks 0) m):=by
    show _=_
    unfold cnt
    rw[sizTo_zero]
    split<;>omega
   generalize hr:cnt (siz (n+1) f) m=r
   have HR:=Lib.hid hr
   clear IH hks hr
   generalize f.kind=fk at HB0
   generalize f.c=fc at HB0
   generalize f.t.length=ft at HB0
   generalize hl:f.ks.length=len at HB0 HK hk4 HST HLN
   clear hl
   go_enter Tryz.func71,Tryz.ntmps71
   go_wp2
   go_loopw [5,11] (fun s i wr=>∃(k:Nat) (v:Int),k≤len∧i= .int .i64 k∧s= .int .i64 v∧1≤v∧v≤m+1∧Hid (v=cnt (1+sizTo n f.ks k) m)∧Below w.heap.size w wr) (fun _ i _=>len - (intOf i).toNat)
   case atStart=>exact⟨0,1,Nat.zero_le _,rfl,rfl,by omega,by omega,S0,HB0.out⟩
   case round=>
    obtain⟨k,v,hk,rfl,rfl,hv1,hv2,hv,hb⟩:=hrel
    by_cases hlt:k<len
    ·obtain⟨b,off,c0,c1,c2,c3,rfl,hblt,g0,g1,g2,g3,hf⟩:=HK.out k hlt
     rw[←hb.cell (p:=⟨b,_,none⟩) hblt]at g0 g1 g2 g3
     obtain⟨ck,cc,cta,ctn,ctcap,cka,ckn,ckcap,rfl,rfl,rfl,rfl⟩:=hf.form
     have hb2:=hb.alloc hb.size (.cells #[.int .i64 ck,.int .i64 cc,.slice cta ctn ctcap,.slice cka ckn ckcap] 38)
     by_cases hvm:m<v
     ·have hr:r=v:=by
       have h1:=HLE.out k
       have h2:=hv.out
       rw[←HR.out]
       unfold cnt at h2⊢
       split at h2<;>split<;>omega
      subst hr
      clear hv hf
      go_wp2_with fail
      go_ret
      exact⟨rfl,hb2⟩
     ·have hih:=HI.out (f.ks.getD k default) _ (m - v) _ (by omega) (by omega) ((hf.below hb2).mono hb2.size)
      have hs:=HST.out k hlt
      have hv3:Hid (v+cnt (siz n (f.ks.getD k default)) (m - v)=cnt (1+sizTo n f.ks (k+1)) m):=by
       have h2:=hv.out
       show _=_
       unfold cnt at h2⊢
       rw[hs]
       split at h2<;>split<;>split<;>omega
      have hc1:0≤cnt (siz n (f.ks.getD k default)) (m - v)∧cnt (siz n (f.ks.getD k default)) (m - v)≤m - v+1:=by
       unfold cnt
       split<;>omega
      generalize cnt (siz n (f.ks.getD k default)) (m - v)=u at hih hv3 hc1
      clear hs hf hv
      go_wp2_with fail
      refine hih.mono ?_
      rintro e w1 ⟨rfl,hb1⟩
      have HB1:=Lib.hid (hb2.trans (hb1.mono hb2.size))
      clear g0 g1 g2 g3 hih hb1 hb2
      go_wp2
      go_roundw
      case rel=>exact⟨k+1,v+u,by omega,by go_num,by go_num,by omega,by omega,hv3,HB1.out⟩
      case measure=>simp[intOf];omega
    ·have hr:r=v:=by
      have h1:=HLN.out
      have h2:=hv.out
      obtain rfl:k=len:=by omega
      rw[←HR.out,h2,h1]
     subst hr
     clear hv
     go_wp2
     go_ret
     exact⟨rfl,hb⟩
end Lf
namespace Lf
open Go.RowKit
theorem Tryz.eqNil (w:World):(binOp .eql 32 .nilIface .nilIface).run Tryz.prog w= .ok (.bool true) w:=by simp[go_sem]
def errV (b:Bool):Value:=if b then .nilIface else .iface 89 (.int .i64 5)
theorem lcheck_any (c:Int)(a:Option Addr)(n cap:Nat)(l:List (Int×Int))(w:World)(hn:l.length=n)(hm:n≤9223372036854775807)(hl:Lies w.heap.size w a l):
 Calls Tryz.prog 30 #[.agg #[.int .i64 c,.slice a n cap]] w fun e w'=>e= .returned (errV (snd c l))∧Below w.heap.size w w':=by
 by_cases hs:snd c l=true
 ·rw[hs];exact check_yes c a n cap l w hn hl hs
 ·have hs':snd c l=false:=by simpa using hs
  rw[hs'];exact check_no c a n cap l w hn hm hl hs'
theorem sound_any:∀(n:Nat) (f:FT) (cs:List Value) (w:World),FLies w.heap.size w n f cs→
 Calls Tryz.prog 72 #[.agg cs.toArray] w fun e w'=>e= .returned (.bool (sndF n f))∧Below w.heap.size w w'
 | 0,_,_,_,h=>h.elim
 | n+1,f,cs,w,h=>by
   have IH:=sound_any n
   obtain⟨ta,tcap,ka,kcap,rfl,hlt,ht4,hk4,hks⟩:=h
   have HC:=Lib.hid (fun W (hb:Below w.heap.size w W)=>lcheck_any f.c ta f.t.length tcap f.t W rfl ht4 ((hlt.below hb).mono hb.size))
   have HI:=Lib.hid IH
   have HK:=Lib.hid hks
   have HNO:=Lib.hid (fun i=>sndF_no (n:=n) (f:=f) (i:=i))
   have HYES:=Lib.hid (fun h=>(sndF_yes (n:=n) (f:=f) h).trans rfl)
   have HB0:Hid (Below (w.heap.size+1) (w.alloc (.cells #[.int .i64 f.kind,.int .i64 f.c,.slice ta f.t.length tcap,.slice ka f.ks.length kcap] 38)) (w.alloc (.cells #[.int .i64 f.kind,.int .i64 f.c,.slice ta f.t.length tcap,.slice ka f.ks.length kcap] 38))):=Below.refl _ _
   unfold ownF at HYES
   clear IH hks hlt
   generalize sndF (n+1) f=r at HNO HYES
   generalize snd f.c f.t=sn at HC HYES
   generalize f.kind=fk at HB0 HYES
   generalize f.c=fc at HB0 HC HYES
   generalize f.t.length=ft at HB0 HC HYES ht4
   generalize hl:f.ks.length=len at HB0 HK hk4 HNO HYES
   clear hl
   go_enter Tryz.func72,Tryz.ntmps72
   go_wp2
   go_loopw [9] (fun i wr=>∃k:Nat,k≤len∧i= .int .i64 k∧Hid (∀j,j<k→sndF n (f.ks.getD j default)=true)∧Below (w.heap.size+1) (w.alloc (.cells #[.int .i64 fk,.int .i64 fc,.slice ta ft tcap,.slice ka len kcap] 38)) wr) (fun i _=>len - (intOf i).toNat)
   case atStart=>exact⟨0,Nat.zero_le _,rfl,fun j hj=>absurd hj (Nat.not_lt_zero j),HB0.out⟩
   case round=>
    obtain⟨k,hk,rfl,hyes,hbx⟩:=hrel
    have hb:Below w.heap.size w wr:=((Below.refl _ w).alloc (Nat.le_refl _) _).trans (hbx.mono (by omega))
    have bz:w.heap.size<wr.heap.size:=by have:=hbx.size;simp at this;omega
    by_cases hlt:k<len
    ·obtain⟨b,off,c0,c1,c2,c3,rfl,hblt,g0,g1,g2,g3,hf⟩:=HK.out k hlt
     rw[←hb.cell (p:=⟨b,_,none⟩) hblt]at g0 g1 g2 g3
     obtain⟨ck,cc,cta,ctn,ctcap,cka,ckn,ckcap,rfl,rfl,rfl,rfl⟩:=hf.form
     have hb2:=hb.alloc hb.size (.cells #[.int .i64 ck,.int .i64 cc,.slice cta ctn ctcap,.slice cka ckn ckcap] 38)
     have hbx2:=hbx.alloc (show w.heap.size+1≤wr.heap.size by omega) (.cells #[.int .i64 ck,.int .i64 cc,.slice cta ctn ctcap,.slice cka ckn ckcap] 38)
     have hih:=HI.out (f.ks.getD k default) _ _ ((hf.below hb2).mono hb2.size)
     by_cases hd:sndF n (f.ks.getD k default)=true
     ·rw[hd]at hih
      have hyes2:Hid (∀j,j<k+1→sndF n (f.ks.getD j default)=true):=fun j hj=>by
       by_cases ej:j=k
       ·rw[ej];exact hd
       ·exact hyes.out j (by omega)
      clear hd hf hyes
      go_wp2_with fail
      refine hih.mono ?_
      rintro e w1 ⟨rfl,hb1⟩
      have HB1:=Lib.hid (hbx2.trans (hb1.mono (by simp;omega)))
      clear g0 g1 g2 g3 hih hb1 hb2 hbx2
      go_wp2
      go_roundw
      case rel=>exact⟨k+1,by omega,by go_num,hyes2,HB1.out⟩
      case measure=>simp[intOf];omega
     ·have hd':sndF n (f.ks.getD k default)=false:=by simpa using hd
      have hr:r=false:=HNO.out k hlt hd'
      rw[hd']at hih
      subst hr
      clear hd hd' hf hyes
      go_wp2_with fail
      refine hih.mono ?_
      rintro e w1 ⟨rfl,hb1⟩
      have HB1:=Lib.hid (hb2.trans (hb1.mono hb2.size))
      clear g0 g1 g2 g3 hih hb1 hb2 hbx2
      go_wp2
      go_ret
      exact⟨rfl,HB1.out⟩
    ·have hr:Hid (r=ownV fk fc ft len sn):=HYES.out (fun i hi=>hyes.out i (by omega))
     have q0:wr.cell? ⟨w.heap.size,0,none⟩=some (.int .i64 fk):=by rw[hbx.cell (p:=⟨w.heap.size,0,none⟩) (by simp)];simp
     have q1:wr.cell? ⟨w.heap.size,1,none⟩=some (.int .i64 fc):=by rw[hbx.cell (p:=⟨w.heap.size,1,none⟩) (by simp)];simp
     have q2:wr.cell? ⟨w.heap.size,2,none⟩=some (.slice ta ft tcap):=by rw[hbx.cell (p:=⟨w.heap.size,2,none⟩) (by simp)];simp
     have q3:wr.cell? ⟨w.heap.size,3,none⟩=some (.slice ka len kcap):=by rw[hbx.cell (p:=⟨w.heap.size,3,none⟩) (by simp)];simp
     have HCW:=Lib.hid (HC.out wr hb)
     have HBW:=Lib.hid hb
     clear hyes HYES HNO HI HK hbx hb HB0 HC
     have hkk:fk=0∨fk=1∨fk=2∨fk=3∨fk=4∨fk=5∨fk=6∨((fk == 0)=false∧(fk == 1)=false∧(fk == 2)=false∧(fk == 3)=false∧(fk == 4)=false∧(fk == 5)=false∧(fk == 6)=false):=by
      simp only[beq_eq_false_iff_ne,ne_eq];omega
     rcases hkk with rfl | rfl | rfl | rfl | rfl | rfl | rfl | ⟨k0,k1,k2,k3,k4,k5,k6⟩
     ·cases h1:(fc == 0)<;>cases h2:((ft:Int) == 0)<;>cases h3:((len:Int) == 0)
      all_goals
       go_wp2_with fail
       go_ret
       exact⟨ret_bool (by rw[hr.out];simp_all [ownV]),HBW.out⟩
     ·cases h1:(fc == 0)<;>cases h2:((ft:Int) == 0)<;>cases h3:((len:Int) == 0)
      all_goals
       go_wp2_with fail
       go_ret
       exact⟨ret_bool (by rw[hr.out];simp_all [ownV]),HBW.out⟩
     ·have hcw:=HCW.out
      have en:=fun W=>Tryz.eqNil W
      have ei:=fun W=>Tryz.eqIfaceNil 5 W
      cases h1:(fc == 0)<;>cases h2:((ft:Int) == 0)<;>cases h3:((len:Int) == 0)<;>cases sn
      all_goals
       simp only[errV]at hcw
       go_wp2_with fail
       refine hcw.mono ?_
       rintro e w1 ⟨rfl,hb1⟩
       have HB1:=Lib.hid (HBW.out.trans (hb1.mono HBW.out.size))
       have q31:w1.cell? ⟨w.heap.size,3,none⟩=some (.slice ka len kcap):=(hb1.cell (p:=⟨w.heap.size,3,none⟩) bz).trans q3
       have bz1:w.heap.size<w1.heap.size:=by have:=hb1.size;omega
       clear hb1 hcw
       go_wp2_with fail
       go_ret
       exact⟨ret_bool (by rw[hr.out];simp_all [ownV]),HB1.out⟩
     ·have hcw:=HCW.out
      have en:=fun W=>Tryz.eqNil W
      have ei:=fun W=>Tryz.eqIfaceNil 5 W
      cases h1:(fc == 0)<;>cases h2:((ft:Int) == 0)<;>cases h3:((len:Int) == 0)<;>cases sn
      all_goals
       simp only[errV]at hcw
       go_wp2_with fail
       refine hcw.mono ?_
       rintro e w1 ⟨rfl,hb1⟩
       have HB1:=Lib.hid (HBW.out.trans (hb1.mono HBW.out.size))
       have q31:w1.cell? ⟨w.heap.size,3,none⟩=some (.slice ka len kcap):=(hb1.cell (p:=⟨w.heap.size,3,none⟩) bz).trans q3
       have bz1:w.heap.size<w1.heap.size:=by have:=hb1.size;omega
       clear hb1 hcw
       go_wp2_with fail
       go_ret
       exact⟨ret_bool (by rw[hr.out];simp_all [ownV]),HB1.out⟩
     ·cases h1:(fc == 0)<;>cases h2:((ft:Int) == 0)<;>cases h3:((len:Int) == 1)
      all_goals
       go_wp2_with fail
       go_ret
       exact⟨ret_bool (by rw[hr.out];simp_all [ownV]),HBW.out⟩
     ·cases h1:(fc == 0)<;>cases h2:((ft:Int) == 0)
      all_goals
       go_wp2_with fail
       go_ret
       exact⟨ret_bool (by rw[hr.out];simp_all [ownV]),HBW.out⟩
     ·cases h1:(fc == 0)<;>cases h2:((ft:Int) == 0)
      all_goals
       go_wp2_with fail
       go_ret
       exact⟨ret_bool (by rw[hr.out];simp_all [ownV]),HBW.out⟩
     ·cases h1:(fc == 0)<;>cases h2:((ft:Int) == 0)
      all_goals
       go_wp2_with fail
       go_ret
       exact⟨ret_bool (by rw[hr.out];simp_all [ownV]),HBW.out⟩
end Lf
section
open Go.RowKit
abbrev Bs:=List UInt8
theorem bl_irrefl:∀x:Bs,Op.bytesLess x x=false
 | []=>rfl
 | a :: x=>by
   have h1:¬a<a:=UInt8.lt_irrefl a
   simp[Op.bytesLess,bl_irrefl x]
theorem bl_trans:∀ {x y z:Bs},Op.bytesLess x y=true→Op.bytesLess y z=true→Op.bytesLess x z=true
 | [],[],_,h,_=>by simp[Op.bytesLess]at h
 | [],_ :: _,[],_,h=>by simp[Op.bytesLess]at h
 | [],_ :: _,_ :: _,_,_=>rfl
 | _ :: _,[],_,h,_=>by simp[Op.bytesLess]at h
 | _ :: _,_ :: _,[],_,h=>by simp[Op.bytesLess]at h
 | a :: x,b :: y,c :: z,h1,h2=>by
   simp only[Op.bytesLess,Bool.or_eq_true,decide_eq_true_eq,Bool.and_eq_true,beq_iff_eq]at h1 h2⊢
   rcases h1 with h1 | ⟨rfl,h1⟩
   ·rcases h2 with h2 | ⟨rfl,_⟩
    ·exact .inl (UInt8.lt_trans h1 h2)
    ·exact .inl h1
   ·rcases h2 with h2 | ⟨rfl,h2⟩
    ·exact .inl h2
    ·exact .inr ⟨rfl,bl_trans h1 h2⟩
theorem bl_total:∀ {x y:Bs},x≠y→Op.bytesLess x y=true∨Op.bytesLess y x=true
 | [],[],h=>absurd rfl h
 | [],_ :: _,_=> .inl rfl
 | _ :: _,[],_=> .inr rfl
 | a :: x,b :: y,h=>by
   simp only[Op.bytesLess,Bool.or_eq_true,decide_eq_true_eq,Bool.and_eq_true,beq_iff_eq]
   by_cases hab:a=b
   ·subst hab
    rcases bl_total (x:=x) (y:=y) (fun e=>h (by rw[e]))with h1 | h1
    ·exact .inl (.inr ⟨rfl,h1⟩)
    ·exact .inr (.inr ⟨rfl,h1⟩)
   ·rcases UInt8.lt_or_lt_of_ne hab with h1 | h1
    ·exact .inl (.inl h1)
    ·exact .inr (.inl h1)
abbrev Key:=Int×Bs
def kl (x y:Key):Bool:=decide (x.1<y.1) || (decide (x.1=y.1) && Op.bytesLess x.2 y.2)
theorem kl_iff {x y:Key}:kl x y=true↔x.1<y.1∨x.1=y.1∧Op.bytesLess x.2 y.2=true:=by simp[kl]
theorem kl_irrefl (x:Key):¬kl x x=true:=fun h=>by
 rcases kl_iff.1 h with h | ⟨_,h⟩
 ·omega
 ·rw[bl_irrefl]at h;cases h
theorem kl_trans {x y z:Key}(h1:kl x y=true)(h2:kl y z=true):kl x z=true:=by
 rw[kl_iff]at*
 rcases h1 with h1 | ⟨e1,h1⟩
 ·rcases h2 with h2 | ⟨e2,h2⟩
  ·left;omega
  ·left;omega
 ·rcases h2 with h2 | ⟨e2,h2⟩
  ·left;omega
  ·right;exact⟨by omega,bl_trans h1 h2⟩
theorem kl_total {x y:Key}(h:x≠y):kl x y=true∨kl y x=true:=by
 rw[kl_iff,kl_iff]
 obtain⟨a,f⟩:=x
 obtain⟨b,g⟩:=y
 simp only
 by_cases e:a=b
 ·subst e
  rcases bl_total (x:=f) (y:=g) (fun e=>h (by rw[e]))with h1 | h1
  ·exact .inl (.inr ⟨rfl,h1⟩)
  ·exact .inr (.inr ⟨rfl,h1⟩)
 ·rcases Int.lt_or_gt_of_ne e with h1 | h1
  ·exact .inl (.inl h1)
  ·exact .inr (.inl h1)
theorem kl_ne {x y:Key}(h:kl x y=true):x≠y:=fun e=>by subst e;exact kl_irrefl x h
end
section
open Go.RowKit
structure HC where
 a:Int
 f:ByteArray
 v:Int
def hc0:HC:=⟨0,ByteArray.empty,0⟩
def hkey (c:HC):Key:=(c.a,c.f.toList)
def hcells (xs:List HC):List Value:=xs.flatMap fun x=>[.int .i64 x.a,.string x.f,.int .i64 x.v]
theorem hcells_append (xs ys:List HC):hcells (xs ++ ys)=hcells xs ++ hcells ys:=by simp[hcells]
theorem hcells_len:∀xs:List HC,(hcells xs).length=xs.length*3
 | []=>rfl
 | x :: xs=>by
   have:=hcells_len xs
   simp only[hcells,List.flatMap_cons,List.length_append,List.length_cons,List.length_nil]at this⊢
   omega
theorem hcells_one:∀xs:List HC,∀u∈hcells xs,u.oneCell'=true:=fun xs u hu=>by
 obtain⟨x,_,h⟩:=List.mem_flatMap.1 hu
 simp only[List.mem_cons,List.not_mem_nil,or_false]at h
 rcases h with rfl | rfl | rfl<;>rfl
theorem hcells_get:∀(xs:List HC) (i:Nat),i<xs.length→(hcells xs)[i*3]? =some (.int .i64 (xs.getD i hc0).a)∧(hcells xs)[i*3+1]? =some (.string (xs.getD i hc0).f)∧(hcells xs)[i*3+2]? =some (.int .i64 (xs.getD i hc0).v)
 | [],i,h=>absurd h (Nat.not_lt_zero i)
 | x :: xs,0,_=>⟨rfl,rfl,rfl⟩
 | x :: xs,i+1,h=>by
   have:=hcells_get xs i (by simpa using h)
   rw[show(i+1)*3=i*3+3 by omega,show i*3+3+1=i*3+1+3 by omega,show i*3+3+2=i*3+2+3 by omega]
   exact this
def HLies (B:Nat)(w:World)(a:Option Addr)(xs:List HC):Prop:=
 ∀i,i<xs.length→∃b off,a=some ⟨b,off,none⟩∧b<B∧w.cell? ⟨b,off+i*3,none⟩=some (.int .i64 (xs.getD i hc0).a)∧w.cell? ⟨b,off+i*3+1,none⟩=some (.string (xs.getD i hc0).f)∧w.cell? ⟨b,off+i*3+2,none⟩=some (.int .i64 (xs.getD i hc0).v)
theorem HLies.mono {B B':Nat}{w:World}{a:Option Addr}{xs:List HC}(h:HLies B w a xs)(hb:B≤B'):HLies B' w a xs:=fun i hi=>by
 obtain⟨b,off,ha,hlt,h1⟩:=h i hi
 exact⟨b,off,ha,Nat.lt_of_lt_of_le hlt hb,h1⟩
theorem HLies.below {B:Nat}{w w':World}{a:Option Addr}{xs:List HC}(h:HLies B w a xs)(hb:Below B w w'):HLies B w' a xs:=fun i hi=>by
 obtain⟨b,off,ha,hlt,h1,h2,h3⟩:=h i hi
 exact⟨b,off,ha,hlt,(hb.cell (p:=⟨b,_,none⟩) hlt).trans h1,(hb.cell (p:=⟨b,_,none⟩) hlt).trans h2,(hb.cell (p:=⟨b,_,none⟩) hlt).trans h3⟩
theorem HLies.up {w w':World}{a:Option Addr}{xs:List HC}(h:HLies w.heap.size w a xs)(hb:Below w.heap.size w w'):HLies w'.heap.size w' a xs:=(h.below hb).mono hb.size
theorem HLies.cells {B:Nat}{w:World}{a:Option Addr}{xs:List HC}(h:HLies B w a xs)(hpos:0<xs.length):∃b off,a=some ⟨b,off,none⟩∧b<B∧∀j u,(hcells xs)[j]? =some u→w.cell? ⟨b,off+j,none⟩=some u:=by
 obtain⟨b,off,ha,hlt,_⟩:=h 0 hpos
 refine⟨b,off,ha,hlt,fun j u hu=> ?_⟩
 have hj:j<xs.length*3:=by have:=(List.getElem?_eq_some_iff.1 hu).1;rwa [hcells_len]at this
 obtain⟨b',off',ha',_,h1,h2,h3⟩:=h (j / 3) (by omega)
 rw[ha]at ha'
 obtain⟨rfl,rfl⟩:b=b'∧off=off':=by injection ha' with e;injection e with e1 e2 e3;exact⟨e1,e2⟩
 obtain⟨g1,g2,g3⟩:=hcells_get xs (j / 3) (by omega)
 rcases(show j=j / 3*3∨j=j / 3*3+1∨j=j / 3*3+2 by omega)with e | e | e
 ·rw[e]at hu
  rw[g1]at hu
  rw[show off+j=off+j / 3*3 by omega,h1,hu]
 ·rw[e]at hu
  rw[g2]at hu
  rw[show off+j=off+j / 3*3+1 by omega,h2,hu]
 ·rw[e]at hu
  rw[g3]at hu
  rw[show off+j=off+j / 3*3+2 by omega,h3,hu]
theorem lt_of_some {W:World}{b:Nat}{o:Obj}(h:W.heap[b]? =some o):b<W.heap.size:=(Array.getElem?_eq_some_iff.1 h).1
theorem hlies_new (w:World)(xs:List HC)(t:TypeId):HLies (w.heap.size+1) (w.alloc (.cells (hcells xs).toArray t)) (some ⟨w.heap.size,0,none⟩) xs:=fun i hi=>by
 have hn:=heap_alloc_new w (.cells (hcells xs).toArray t)
 obtain⟨g1,g2,g3⟩:=hcells_get xs i hi
 refine⟨w.heap.size,0,rfl,by omega, ?_, ?_, ?_⟩
 ·rw[cell_of_row _ _ _ _ _ _ hn];simpa using g1
 ·rw[cell_of_row _ _ _ _ _ _ hn];simpa using g2
 ·rw[cell_of_row _ _ _ _ _ _ hn];simpa using g3
theorem run_append_h {P:Program}{w:World}(B:Nat)(t ty e:TypeId)(i:TypeInfo)(z:Value)(ht:P.underlying t=some (.slice e))(hi:P.info? e=some i)(hz:i.zero=some z)(hs:i.size=3)(hby:i.bytes=32)(hzs:z.cells.size=3)
 (v:Value) (n:Nat) (xs:List HC) (hn:xs.length=n) (hown:w.ownsRow B e 3 v n (hcells xs)) (hB:B≤w.heap.size) (a:Option Addr) (m cap:Nat) (ys:List HC) (hm:ys.length=m)
 (hl:HLies w.heap.size w a ys) (hsz:(n+m)*32≤140737488355328):
 ∃v' w',(Builtin.append_ #[t,t] ty #[v,.slice a m cap]).run P w= .ok v' w'∧w'.ownsRow B e 3 v' (n+m) (hcells (xs ++ ys))∧w.grownBy w' v.ownBlock∧Below B w w':=by
 have hvb:=fun k (hk:v.ownBlock=some k)=>(World.ownsRow.lt hown k hk).1
 by_cases h0:m=0
 ·subst h0
  have hy:ys=[]:=List.length_eq_zero_iff.1 hm
  subst hy
  refine⟨v,w, ?_,by simpa using hown,⟨rfl,rfl,rfl,Nat.le_refl _,fun _ _ _=>rfl⟩,Below.refl _ _⟩
  have hf:∀ad:Addr,(Builtin.firstCells 3 0 (.slice (some ad) 0 cap)).run P w= .ok #[] w:=fun ad=>run_firstCells_some w 3 0 ad 0 cap [] (by simp) (fun j u h=>by cases h)
  have hf0:=run_firstCells_none (P:=P) w 3 0 0 cap
  rcases hown.2 with ⟨rfl,rfl⟩ | ⟨g,cap',cur,rfl,_,_,hnc,_⟩
  ·cases a<;>simp[Builtin.append_,run_underlying ht,sizeOf,typeInfo,hi,hs,Builtin.lenOf,hf,hf0]
  ·cases a<;>simp[Builtin.append_,run_underlying ht,sizeOf,typeInfo,hi,hs,Builtin.lenOf,hf,hf0,hnc,storeCells]
 ·obtain⟨b,off,rfl,_,hc⟩:=hl.cells (by omega)
  obtain⟨g,cap',w',hr,h2,h3,h4,h5⟩:=run_append_lies (P:=P) w t ty B e i z 3 32 ht hi hz hs hby hzs (by decide) v n (hcells xs) hown ⟨b,off,none⟩ m cap (hcells ys) (by rw[hcells_len];omega)
   (fun j u hu=>by rw[show(⟨b,off,none⟩:Addr).add j=⟨b,off+j,none⟩ by unfold Addr.add;split<;>simp_all];exact hc j u hu)
   (hcells_one ys) (by omega) (by unfold maxLen;omega) hsz hB _ rfl
  exact⟨_,w',hr,by rw[hcells_append];exact h2,h3,(Below.refl B w).grown h3 hB hvb⟩
theorem own_hlies {B:Nat}{e:TypeId}{xs:List HC}{v:Value}{n:Nat}{w:World}(hn:xs.length=n)(hr:w.ownsRow B e 3 v n (hcells xs)):∃a cap,v= .slice a n cap∧n≤cap∧cap≤9223372036854775807∧HLies w.heap.size w a xs∧(∀b off s,a=some ⟨b,off,s⟩→B≤b):=by
 subst hn
 have hc:=fun g=>World.ownsRow.cells hr (g:=g)
 have hlt:=World.ownsRow.lt hr
 obtain⟨_,h1 | ⟨g,cap,cur,hv,h2⟩⟩:=hr
 ·refine⟨none,0,by rw[h1.1,h1.2],by omega,by omega,fun i hi=> ?_,fun _ _ _ h=>by cases h⟩
  omega
 ·subst hv
  have hcp:=h2.2.2
  have hcm:cap≤9223372036854775807:=hcp.2.1
  refine⟨some ⟨g,0,none⟩,cap,rfl,hcp.1,hcm,fun i hi=> ?_,fun b off s h=>by injection h with h;injection h with h1;rw[←h1];exact h2.1⟩
  obtain⟨g1,g2,g3⟩:=hcells_get xs i hi
  have c1:=hc g rfl _ _ g1
  have c2:=hc g rfl _ _ g2
  have c3:=hc g rfl _ _ g3
  have ea:∀k,(⟨g,0,none⟩:Addr).add k=⟨g,0+k,none⟩:=fun k=>by unfold Addr.add;split<;>simp_all
  rw[ea]at c1 c2 c3
  exact⟨g,0,rfl,(hlt g rfl).2,c1,c2,c3⟩
theorem Tryz.infoCell:(Tryz.prog.info? 122).map (fun i=>(i.zero,i.size,i.bytes))=some (some (.agg #[.int .i64 0,.string ByteArray.empty,.int .i64 0]),3,32):=by kernel_rfl
theorem Tryz.infoShare:(Tryz.prog.info? 77).map (fun i=>(i.zero,i.size,i.bytes))=some (some (.agg #[.int .i64 0,.string ByteArray.empty,.int .i64 0]),3,32):=by kernel_rfl
theorem info_parts {p:Option TypeInfo}{a:Option Value}{b c:Nat}(h:p.map (fun i=>(i.zero,i.size,i.bytes))=some (a,b,c)):∃i,p=some i∧i.zero=a∧i.size=b∧i.bytes=c:=by
 cases p with
 | none=>cases h
 | some i=>simp at h;exact⟨i,rfl,h.1,h.2.1,h.2.2⟩
end
section
open Go.RowKit
theorem ownsRow_lower {B B':Nat}{e:TypeId}{k:Nat}{v:Value}{n:Nat}{xs:List Value}{w:World}(h:w.ownsRow B e k v n xs)(hb:B'≤B):w.ownsRow B' e k v n xs:=by
 obtain⟨h1,h2⟩:=h
 exact⟨h1,h2.imp id fun⟨g,cap',cur,e1,e2,e3⟩=>⟨g,cap',cur,e1,Nat.le_trans hb e2,e3⟩⟩
end
section
open Go.RowKit
theorem below_drewN2 {B:Nat}{a w:World}(h:Below B a w):∀n,Below B a (w.drewN n):=fun n=>⟨h.os,h.tape,h.output,h.size,h.block⟩
theorem rbelow_any (a:Int)(f:ByteArray)(b:Int)(g:ByteArray)(w:World):Calls Tryz.prog 49 #[.int .i64 a,.string f,.int .i64 b,.string g] w fun e w'=>e= .returned (.bool (kl (a,f.toList) (b,g.toList)))∧w'=w:=by
 by_cases h1:a<b
 ·have e:kl (a,f.toList) (b,g.toList)=true:=kl_iff.2 (.inl h1)
  rw[e]
  clear e
  go_enter Tryz.func49,Tryz.ntmps49
  go_wp2_with fail
  go_ret
  exact⟨rfl,rfl⟩
 ·by_cases h2:a=b
  ·subst h2
   have e:kl (a,f.toList) (a,g.toList)=Op.bytesLess f.toList g.toList:=by unfold kl;simp
   rw[e]
   clear e
   go_enter Tryz.func49,Tryz.ntmps49
   go_wp2_with fail
   go_ret
   exact⟨rfl,rfl⟩
  ·have e:kl (a,f.toList) (b,g.toList)=false:=by unfold kl;simp[h1,h2]
   have h3:(a == b)=false:=by simp[h2]
   rw[e]
   clear e
   go_enter Tryz.func49,Tryz.ntmps49
   go_wp2_with fail
   go_ret
   exact⟨rfl,rfl⟩
end
section
open Go.RowKit
theorem hkey_eq {c:HC}{a:Int}{f:ByteArray}:hkey c=(a,f.toList)↔c.a=a∧c.f.toList=f.toList:=by simp[hkey]
inductive RGetIs (hs:List HC) (k:Key):Int→Bool→Prop
 | yes (i:Nat):i<hs.length→hkey (hs.getD i hc0)=k→(∀j,j<i→hkey (hs.getD j hc0)≠k)→RGetIs hs k (hs.getD i hc0).v true
 | no:(∀i,i<hs.length→hkey (hs.getD i hc0)≠k)→RGetIs hs k 0 false
def RGetEnd (hs:List HC)(k:Key)(w:World)(e:Ending)(w':World):Prop:=∃x b,e= .returned (.tuple #[.int .i64 x,.bool b])∧RGetIs hs k x b∧Below w.heap.size w w'
theorem rget_any (hs:List HC)(ad:Option Addr)(n cap:Nat)(a:Int)(f:ByteArray)(w:World)(hn:hs.length=n)(hnm:n≤9223372036854775807)(hl:HLies w.heap.size w ad hs):
 Calls Tryz.prog 24 #[.slice ad n cap,.int .i64 a,.string f] w (RGetEnd hs (a,f.toList) w):=by
 have HL:=Lib.hid hl
 have HN:=Lib.hid hn
 clear hl hn
 go_enter Tryz.func24,Tryz.ntmps24
 go_wp2_with fail
 go_loopw [8] (fun i wr=>∃k:Nat,i= .int .i64 k∧k≤n∧Hid (∀j,j<k→hkey (hs.getD j hc0)≠(a,f.toList))∧Hid (Below w.heap.size w wr)) (fun i _=>n - (intOf i).toNat)
 case atStart=>exact⟨0,rfl,Nat.zero_le _,fun j hj=>absurd hj (Nat.not_lt_zero j),Below.refl _ _⟩
 case round=>
  obtain⟨k,rfl,hk,hno,hb⟩:=hrel
  by_cases hlt:k<n
  ·have hlti:(k:Int)<(n:Int):=by omega
   obtain⟨b3,off3,rfl,hb3,c1,c2,c3⟩:=HL.out k (by rw[HN.out];omega)
   have c1:=(hb.out.cell (p:=⟨b3,_,none⟩) hb3).trans c1
   have c2:=(hb.out.cell (p:=⟨b3,_,none⟩) hb3).trans c2
   have c3:=(hb.out.cell (p:=⟨b3,_,none⟩) hb3).trans c3
   have HY:Hid (hkey (hs.getD k hc0)=(a,f.toList)→∀W,Below w.heap.size w W→RGetEnd hs (a,f.toList) w (.returned (.tuple #[.int .i64 (hs.getD k hc0).v,.bool true])) W):=fun h W hW=>⟨_,_,rfl,.yes k (by rw[HN.out];exact hlt) h hno.out,hW⟩
   have HK:Hid (hkey (hs.getD k hc0)≠(a,f.toList)→∀j,j<k+1→hkey (hs.getD j hc0)≠(a,f.toList)):=fun h j hj=>by
    by_cases e:j=k
    ·subst e;exact h
    ·exact hno.out j (by omega)
   clear hno
   generalize hs.getD k hc0=x at c1 c2 c3 HY HK
   obtain⟨xa,xf,xv⟩:=x
   simp only at c1 c2 c3
   by_cases e1:xa=a
   ·have he1:(xa == a)=true:=by simp[e1]
    by_cases e2:xf.toList=f.toList
    ·have he2:(xf.toList == f.toList)=true:=by simp[e2]
     have HE:=Lib.hid (HY.out (hkey_eq.2 ⟨e1,e2⟩))
     clear HK HY e1 e2
     go_wp2_with fail
     go_ret2
     exact HE.out _ hb.out
    ·have he2:(xf.toList == f.toList)=false:=by simp[e2]
     have HE:=Lib.hid (HK.out (fun h=>e2 (hkey_eq.1 h).2))
     clear HK HY e1 e2
     go_wp2_with fail
     go_roundw
     case rel=>exact⟨k+1,by go_num,by omega,HE,hb⟩
     case measure=>simp[intOf];omega
   ·have he1:(xa == a)=false:=by simp[e1]
    have HE:=Lib.hid (HK.out (fun h=>e1 (hkey_eq.1 h).1))
    clear HK HY e1
    go_wp2_with fail
    go_roundw
    case rel=>exact⟨k+1,by go_num,by omega,HE,hb⟩
    case measure=>simp[intOf];omega
  ·have hlti:¬(k:Int)<(n:Int):=by omega
   have HE:Hid (∀W,Below w.heap.size w W→RGetEnd hs (a,f.toList) w (.returned (.tuple #[.int .i64 0,.bool false])) W):=fun W hW=>⟨_,_,rfl,.no (fun i hi=>hno.out i (by rw[HN.out]at hi;omega)),hW⟩
   go_wp2_with fail
   go_ret2
   exact HE.out _ hb.out
end
section
open Go.RowKit
theorem take_snocH (hs:List HC)(k:Nat)(h:k<hs.length):hs.take (k+1)=hs.take k ++ [hs.getD k hc0]:=by
 rw[List.take_succ_eq_append_getElem h,List.getD_eq_getElem?_getD,List.getElem?_eq_getElem h];rfl
def dropL (hs:List HC)(K:Key):List HC:=hs.filter fun c=>decide (hkey c≠K)
theorem dropL_len (hs:List HC)(K:Key):(dropL hs K).length≤hs.length:=List.length_filter_le _ _
theorem dropL_snoc (hs:List HC)(K:Key)(c:HC):dropL (hs ++ [c]) K=dropL hs K ++ (if hkey c≠K then[c] else[]):=by
 unfold dropL
 rw[List.filter_append]
 by_cases h:hkey c≠K
 ·rw[if_pos h];simp[h]
 ·rw[if_neg h];simp at h;simp[h]
def HRow (B:Nat)(xs:List HC)(v:Value)(w:World):Prop:=w.ownsRow B 122 3 v xs.length (hcells xs)
theorem HRow.nil (B:Nat)(w:World):HRow B [] (.slice none 0 0) w:=World.ownsRow_nil _ _ _ _
theorem HRow.below {B:Nat}{xs:List HC}{v:Value}{w w':World}(h:HRow B xs v w)(hb:Below w.heap.size w w'):HRow B xs v w':=
 World.ownsRow.kept (row:=none) h ⟨hb.os,hb.tape,hb.output,hb.size,fun q hq _=>hb.block q hq⟩ (by cases v.ownBlock<;>simp)
theorem HRow.lies {B:Nat}{xs:List HC}{v:Value}{w:World}(h:HRow B xs v w):∃a cap,v= .slice a xs.length cap∧xs.length≤cap∧cap≤9223372036854775807∧HLies w.heap.size w a xs:=by
 obtain⟨a,cap,h1,h2,h3,h4,_⟩:=own_hlies rfl h
 exact⟨a,cap,h1,h2,h3,h4⟩
theorem run_append_cell {w:World}(ty:TypeId)(B:Nat)(xs:List HC)(v:Value)(c:HC)(hown:HRow B xs v w)(hB:B≤w.heap.size)(hsz:xs.length≤1000000):
 ∃v' w',(Builtin.append_ #[70,70] ty #[v,.slice (some ⟨w.heap.size,0,none⟩) 1 1]).run Tryz.prog (w.alloc (.cells #[.int .i64 c.a,.string c.f,.int .i64 c.v] 122))= .ok v' w'∧HRow B (xs ++ [c]) v' w'∧Below B w w':=by
 obtain⟨i0,hi,hz0,hz1,hz2⟩:=info_parts Tryz.infoCell
 have hA:Below w.heap.size w (w.alloc (.cells #[.int .i64 c.a,.string c.f,.int .i64 c.v] 122)):=(Below.refl _ w).alloc (Nat.le_refl _) _
 have hown2:(w.alloc (.cells #[.int .i64 c.a,.string c.f,.int .i64 c.v] 122)).ownsRow B 122 3 v xs.length (hcells xs):=hown.below hA
 have hl:HLies (w.alloc (.cells #[.int .i64 c.a,.string c.f,.int .i64 c.v] 122)).heap.size (w.alloc (.cells #[.int .i64 c.a,.string c.f,.int .i64 c.v] 122)) (some ⟨w.heap.size,0,none⟩) [c]:=(hlies_new w [c] 122).mono (by simp)
 obtain⟨v',w',hr,h1,_,h3⟩:=run_append_h (P:=Tryz.prog) B 70 ty 122 i0 _ Tryz.underlying70 hi hz0 hz1 hz2 rfl v xs.length xs rfl hown2 (Nat.le_trans hB hA.size) (some ⟨w.heap.size,0,none⟩) 1 1 [c] rfl hl (by omega)
 refine⟨v',w',hr, ?_,(hA.mono hB).trans h3⟩
 unfold HRow
 rw[List.length_append]
 exact h1
def RowEnd (xs:List HC)(w:World)(e:Ending)(w':World):Prop:=∃v,e= .returned v∧HRow w.heap.size xs v w'∧Below w.heap.size w w'
end
section
open Go.RowKit
def BoundV (l:List HC)(b:Int):Prop:=∀c,c∈l→ -b≤c.v∧c.v≤b
theorem getD_memH {l:List HC}{i:Nat}(h:i<l.length):l.getD i hc0∈l:=by
 rw[List.getD_eq_getElem?_getD,List.getElem?_eq_getElem h];exact List.getElem_mem h
def SRow (B:Nat)(xs:List HC)(v:Value)(w:World):Prop:=w.ownsRow B 77 3 v xs.length (hcells xs)
theorem SRow.nil (B:Nat)(w:World):SRow B [] (.slice none 0 0) w:=World.ownsRow_nil _ _ _ _
theorem SRow.below {B:Nat}{xs:List HC}{v:Value}{w w':World}(h:SRow B xs v w)(hb:Below w.heap.size w w'):SRow B xs v w':=
 World.ownsRow.kept (row:=none) h ⟨hb.os,hb.tape,hb.output,hb.size,fun q hq _=>hb.block q hq⟩ (by cases v.ownBlock<;>simp)
theorem run_append_share {w:World}(ty:TypeId)(B:Nat)(xs:List HC)(v:Value)(c:HC)(hown:SRow B xs v w)(hB:B≤w.heap.size)(hsz:xs.length≤1000000):
 ∃v' w',(Builtin.append_ #[71,71] ty #[v,.slice (some ⟨w.heap.size,0,none⟩) 1 1]).run Tryz.prog (w.alloc (.cells #[.int .i64 c.a,.string c.f,.int .i64 c.v] 77))= .ok v' w'∧SRow B (xs ++ [c]) v' w'∧Below B w w':=by
 obtain⟨i0,hi,hz0,hz1,hz2⟩:=info_parts Tryz.infoShare
 have hA:Below w.heap.size w (w.alloc (.cells #[.int .i64 c.a,.string c.f,.int .i64 c.v] 77)):=(Below.refl _ w).alloc (Nat.le_refl _) _
 have hown2:(w.alloc (.cells #[.int .i64 c.a,.string c.f,.int .i64 c.v] 77)).ownsRow B 77 3 v xs.length (hcells xs):=hown.below hA
 have hl:HLies (w.alloc (.cells #[.int .i64 c.a,.string c.f,.int .i64 c.v] 77)).heap.size (w.alloc (.cells #[.int .i64 c.a,.string c.f,.int .i64 c.v] 77)) (some ⟨w.heap.size,0,none⟩) [c]:=(hlies_new w [c] 77).mono (by simp)
 obtain⟨v',w',hr,h1,_,h3⟩:=run_append_h (P:=Tryz.prog) B 71 ty 77 i0 _ Tryz.underlying71 hi hz0 hz1 hz2 rfl v xs.length xs rfl hown2 (Nat.le_trans hB hA.size) (some ⟨w.heap.size,0,none⟩) 1 1 [c] rfl hl (by omega)
 refine⟨v',w',hr, ?_,(hA.mono hB).trans h3⟩
 unfold SRow
 rw[List.length_append]
 exact h1
end
section
open Go.RowKit
def Str (l:List HC):Prop:=l.Pairwise fun x y=>kl (hkey x) (hkey y)=true
def tot:List HC→Key→Int
 | [],_=>0
 | x :: l,k=>(if hkey x=k then x.v else 0)+tot l k
def Hs (l:List HC)(k:Key):Prop:=∃c,c∈l∧hkey c=k
theorem tot_append:∀(l m:List HC) (k:Key),tot (l ++ m) k=tot l k+tot m k
 | [],m,k=>by simp[tot]
 | x :: l,m,k=>by
   show(if hkey x=k then x.v else 0)+tot (l ++ m) k=(if hkey x=k then x.v else 0)+tot l k+tot m k
   rw[tot_append l m k]
   omega
theorem tot_none {l:List HC}{k:Key}(h:¬Hs l k):tot l k=0:=by
 induction l with
 | nil=>rfl
 | cons x l ih=>
   show(if hkey x=k then x.v else 0)+tot l k=0
   rw[if_neg (fun e=>h ⟨x,List.mem_cons_self,e⟩),ih (fun⟨c,h1,h2⟩=>h ⟨c,List.mem_cons_of_mem _ h1,h2⟩)]
   rfl
theorem str_not {x:HC}{l:List HC}(h:Str (x :: l)):¬Hs l (hkey x):=fun⟨c,h1,h2⟩=>kl_ne ((List.pairwise_cons.1 h).1 c h1) h2.symm
def addD (s:HC):Bool→List HC→List HC
 | d,[]=>if d=true then[] else[s]
 | d,x :: l=>if hkey x=hkey s then⟨s.a,s.f,x.v+s.v⟩ :: addD s true l else if(!d && kl (hkey s) (hkey x))=true then s :: x :: addD s true l else x :: addD s d l
theorem addD_done {s:HC}:∀ {l:List HC},(∀c,c∈l→kl (hkey s) (hkey c)=true)→addD s true l=l
 | [],_=>rfl
 | x :: l,h=>by
   unfold addD
   rw[if_neg (fun e=>kl_ne (h x List.mem_cons_self) e.symm),if_neg (by simp),addD_done (fun c hc=>h c (List.mem_cons_of_mem _ hc))]
structure Added (l m:List HC)(s:HC):Prop where
 str:Str m
 hs:∀k,Hs m k↔Hs l k∨hkey s=k
 tot:∀k,tot m k=tot l k+if hkey s=k then s.v else 0
theorem hs_cons {x:HC}{l:List HC}{k:Key}:Hs (x :: l) k↔hkey x=k∨Hs l k:=by
 constructor
 ·rintro⟨c,h1,h2⟩
  rcases List.mem_cons.1 h1 with rfl | h1
  ·exact .inl h2
  ·exact .inr ⟨c,h1,h2⟩
 ·rintro(h | ⟨c,h1,h2⟩)
  ·exact⟨x,List.mem_cons_self,h⟩
  ·exact⟨c,List.mem_cons_of_mem _ h1,h2⟩
theorem hs_nil {k:Key}:¬Hs [] k:=fun⟨c,h,_⟩=>by cases h
theorem addD_is {s:HC}:∀ {l:List HC},Str l→Added l (addD s false l) s
 | [],_=>⟨List.pairwise_singleton _ _,fun k=>by
     show Hs [s] k↔_
     rw[hs_cons]
     exact⟨fun h=>h.elim .inr .inl,fun h=>h.elim .inr .inl⟩,fun k=>by
     show(if hkey s=k then s.v else 0)+0=0+_
     omega⟩
 | x :: l,h=>by
   obtain⟨h1,h2⟩:=List.pairwise_cons.1 h
   by_cases e:hkey x=hkey s
   ·have ed:addD s false (x :: l)=⟨s.a,s.f,x.v+s.v⟩ :: l:=by
     unfold addD
     rw[if_pos e,addD_done (fun c hc=>by rw[←e];exact h1 c hc)]
    have ek:hkey (⟨s.a,s.f,x.v+s.v⟩:HC)=hkey s:=rfl
    rw[ed]
    refine⟨List.pairwise_cons.2 ⟨fun c hc=>by rw[ek,←e];exact h1 c hc,h2⟩,fun k=> ?_,fun k=> ?_⟩
    ·rw[hs_cons,hs_cons,ek,e]
     exact⟨fun h=>h.elim .inr (fun h=> .inl (.inr h)),fun h=>h.elim id .inl⟩
    ·simp only[tot]
     rw[ek,e]
     split<;>omega
   ·by_cases lt:kl (hkey s) (hkey x)=true
    ·have ed:addD s false (x :: l)=s :: x :: l:=by
      unfold addD
      rw[if_neg e,if_pos (by simp[lt]),addD_done (fun c hc=>kl_trans lt (h1 c hc))]
     rw[ed]
     refine⟨List.pairwise_cons.2 ⟨fun c hc=> ?_,h⟩,fun k=> ?_,fun k=> ?_⟩
     ·rcases List.mem_cons.1 hc with rfl | hc
      ·exact lt
      ·exact kl_trans lt (h1 c hc)
     ·rw[hs_cons]
      exact⟨fun h=>h.elim .inr .inl,fun h=>h.elim .inr .inl⟩
     ·simp only[tot]
      omega
    ·have ed:addD s false (x :: l)=x :: addD s false l:=by
      conv=>lhs;unfold addD
      rw[if_neg e,if_neg (by simp[lt])]
     obtain⟨i1,i2,i3⟩:=addD_is (s:=s) h2
     rw[ed]
     refine⟨List.pairwise_cons.2 ⟨fun c hc=> ?_,i1⟩,fun k=> ?_,fun k=> ?_⟩
     ·rcases(i2 (hkey c)).1 ⟨c,hc,rfl⟩with ⟨d,d1,d2⟩ | d
      ·rw[←d2];exact h1 d d1
      ·rw[←d]
       rcases kl_total e with k1 | k1
       ·exact k1
       ·exact absurd k1 lt
     ·rw[hs_cons,hs_cons,i2 k]
      constructor
      ·rintro(h | h | h)
       ·exact .inl (.inl h)
       ·exact .inl (.inr h)
       ·exact .inr h
      ·rintro((h | h) | h)
       ·exact .inl h
       ·exact .inr (.inl h)
       ·exact .inr (.inr h)
     ·simp only[tot]
      rw[i3 k]
      omega
def joinD (ys:List HC):List HC:=ys.foldl (fun l s=>addD s false l) []
theorem fold_is:∀(ys:List HC) {l:List HC},Str l→Str (ys.foldl (fun l s=>addD s false l) l)∧(∀k,Hs (ys.foldl (fun l s=>addD s false l) l) k↔Hs l k∨Hs ys k)∧(∀k,tot (ys.foldl (fun l s=>addD s false l) l) k=tot l k+tot ys k)
 | [],l,h=>⟨h,fun k=>⟨.inl,fun h=>h.elim id (fun h=>absurd h hs_nil)⟩,fun k=>by simp[tot]⟩
 | y :: ys,l,h=>by
   obtain⟨i1,i2,i3⟩:=addD_is (s:=y) h
   obtain⟨j1,j2,j3⟩:=fold_is ys i1
   refine⟨j1,fun k=> ?_,fun k=> ?_⟩
   ·show Hs (ys.foldl _ (addD y false l)) k↔_
    rw[j2 k,i2 k,hs_cons]
    constructor
    ·rintro((h | h) | h)
     ·exact .inl h
     ·exact .inr (.inl h)
     ·exact .inr (.inr h)
    ·rintro(h | h | h)
     ·exact .inl (.inl h)
     ·exact .inl (.inr h)
     ·exact .inr h
   ·show tot (ys.foldl _ (addD y false l)) k=_
    rw[j3 k,i3 k]
    simp only[tot]
    omega
end
section
open Go.RowKit
def insTo (rs:List HC)(c:HC):Nat→List HC×Bool
 | 0=>([],false)
 | k+1=>if(!(insTo rs c k).2 && kl (hkey c) (hkey (rs.getD k hc0)))=true then((insTo rs c k).1 ++ [c] ++ [rs.getD k hc0],true) else((insTo rs c k).1 ++ [rs.getD k hc0],(insTo rs c k).2)
def insF (rs:List HC)(c:HC):List HC:=if(insTo rs c rs.length).2=true then(insTo rs c rs.length).1 else(insTo rs c rs.length).1 ++ [c]
theorem insTo_len (rs:List HC)(c:HC):∀k,(insTo rs c k).1.length≤2*k
 | 0=>by simp[insTo]
 | k+1=>by
   have:=insTo_len rs c k
   unfold insTo
   split<;>simp<;>omega
end
namespace Lf
open Go.RowKit
def Nums (B:Nat)(w:World)(a:Option Addr)(zs:List Int):Prop:=
 ∀i,i<zs.length→∃b off,a=some ⟨b,off,none⟩∧b<B∧w.cell? ⟨b,off+i,none⟩=some (.int .i64 (zs.getD i 0))
theorem Nums.mono {B B':Nat}{w:World}{a:Option Addr}{l:List Int}(h:Nums B w a l)(hb:B≤B'):Nums B' w a l:=fun i hi=>by
 obtain⟨b,off,ha,hlt,h1⟩:=h i hi
 exact⟨b,off,ha,Nat.lt_of_lt_of_le hlt hb,h1⟩
theorem Nums.below {B:Nat}{w w':World}{a:Option Addr}{l:List Int}(h:Nums B w a l)(hb:Below B w w'):Nums B w' a l:=fun i hi=>by
 obtain⟨b,off,ha,hlt,h1⟩:=h i hi
 exact⟨b,off,ha,hlt,by rw[hb.cell (p:=⟨b,_,none⟩) hlt];exact h1⟩
def valOf (zs:List Int)(v:Int):Int:=if v<zs.length then zs.getD v.toNat 0 else 0
def Held (w:World)(pv:Nat)(a:Option Addr)(n cap:Nat):Prop:=pv<w.heap.size∧w.cell? ⟨pv,0,none⟩=some (.slice a n cap)
theorem valueLit_yes (pv q:Nat)(s v k:Int)(a:Option Addr)(n cap:Nat)(zs:List Int)(w:World)(hn:zs.length=n)(hv:0≤v)(hne:pv<q)(hh:Held w pv a n cap)(hz:Nums w.heap.size w a zs)(ho:Own w q s)
 (hk: -1073741824≤k∧k≤1073741824) (hs: -2305843009213693952≤s∧s≤2305843009213693952) (hx:wi (valOf zs v) 16777216=true):
 Calls Tryz.prog 82 #[.agg #[.int .i64 v,.int .i64 k],.pointer (some ⟨pv,0,none⟩),.pointer (some ⟨q,0,none⟩)] w fun e w'=>e= .returned (.bool true)∧Own w' q (s+k*valOf zs v)∧Below q w w':=by
 have hwi:=fun W=>within_any (valOf zs v) 16777216 W (by omega) (by omega)
 rw[hx]at hwi
 have hxb: -16777216≤valOf zs v∧valOf zs v≤16777216:=by unfold wi at hx;simpa using hx
 have hmul: -18014398509481984≤k*valOf zs v∧k*valOf zs v≤18014398509481984:=by
  have h1:(k*valOf zs v).natAbs≤1073741824*16777216:=by
   rw[Int.natAbs_mul];exact Nat.mul_le_mul (by omega) (by omega)
  omega
 have hq:=ho
 obtain⟨h1,h2,h3⟩:=ho
 obtain⟨g1,g2⟩:=hh
 by_cases hlt:v<n
 ·obtain⟨i,rfl⟩:=Int.eq_ofNat_of_zero_le hv
  obtain⟨b,off,rfl,hb,hc⟩:=hz i (by omega)
  have hx2:valOf zs (i:Int)=zs.getD i 0:=by unfold valOf;rw[if_pos (by omega)];simp
  rw[hx2]at hwi hxb hmul hx⊢
  generalize zs.getD i 0=x at hwi hxb hmul hx hc⊢
  have O1:=Lib.hid ((hq.set (s+k*x)).alloc (.cells #[.int .i64 (i:Int),.int .i64 k] 84))
  have B1:=Lib.hid (((Below.refl q w).setCell (p:=⟨q,0,none⟩) (Nat.le_refl _) (.int .i64 (s+k*x))).alloc (Nat.le_of_lt (hq.set (s+k*x)).1) (.cells #[.int .i64 (i:Int),.int .i64 k] 84))
  clear hz hn hx2 hx hq
  go_enter Tryz.func82,Tryz.ntmps82
  go_wp2_with (go_at_call 52;refine(hwi _).mono ?_;rintro e w' ⟨rfl,rfl⟩)
  go_ret
  exact⟨rfl,O1.out,B1.out⟩
 ·have hx2:valOf zs v=0:=by unfold valOf;rw[if_neg (by omega)]
  rw[hx2]at hwi hxb hmul hx⊢
  rw[Int.mul_zero,Int.add_zero]
  have O1:=Lib.hid ((hq.set s).alloc (.cells #[.int .i64 v,.int .i64 k] 84))
  have B1:=Lib.hid (((Below.refl q w).setCell (p:=⟨q,0,none⟩) (Nat.le_refl _) (.int .i64 s)).alloc (Nat.le_of_lt (hq.set s).1) (.cells #[.int .i64 v,.int .i64 k] 84))
  clear hz hn hx2 hx hq
  go_enter Tryz.func82,Tryz.ntmps82
  go_wp2_with (go_at_call 52;refine(hwi _).mono ?_;rintro e w' ⟨rfl,rfl⟩)
  go_ret
  exact⟨rfl,O1.out,B1.out⟩
theorem valueLit_any (pv q:Nat)(s v k:Int)(a:Option Addr)(n cap:Nat)(zs:List Int)(w:World)(hn:zs.length=n)(hv:0≤v)(hne:pv<q)(hh:Held w pv a n cap)(hz:Nums w.heap.size w a zs)(ho:Own w q s):
 Calls Tryz.prog 82 #[.agg #[.int .i64 v,.int .i64 k],.pointer (some ⟨pv,0,none⟩),.pointer (some ⟨q,0,none⟩)] w fun e w'=>e= .returned (.bool (wi (valOf zs v) 16777216))∧(∃s',Own w' q s')∧Below q w w':=by
 have hwi:=fun W=>within_any (valOf zs v) 16777216 W (by omega) (by omega)
 have hq:=ho
 obtain⟨h1,h2,h3⟩:=ho
 obtain⟨g1,g2⟩:=hh
 have O1:Hid (∀y x,Own ((w.setCell ⟨q,0,none⟩ (.int .i64 y)).alloc (.cells #[.int .i64 x,.int .i64 k] 84)) q y∧Below q w ((w.setCell ⟨q,0,none⟩ (.int .i64 y)).alloc (.cells #[.int .i64 x,.int .i64 k] 84))):=
  fun y x=>⟨(hq.set y).alloc _,(((Below.refl q w).setCell (p:=⟨q,0,none⟩) (Nat.le_refl _) (.int .i64 y)).alloc (Nat.le_of_lt (hq.set y).1) _)⟩
 by_cases hlt:v<n
 ·obtain⟨i,rfl⟩:=Int.eq_ofNat_of_zero_le hv
  obtain⟨b,off,rfl,hb,hc⟩:=hz i (by omega)
  have hx2:valOf zs (i:Int)=zs.getD i 0:=by unfold valOf;rw[if_pos (by omega)];simp
  rw[hx2]at hwi⊢
  generalize zs.getD i 0=x at hwi hc⊢
  clear hz hn hx2 hq
  go_enter Tryz.func82,Tryz.ntmps82
  go_wp2_with (go_at_call 52;refine(hwi _).mono ?_;rintro e w' ⟨rfl,rfl⟩)
  go_ret
  exact⟨rfl,⟨_,(O1.out _ _).1⟩,(O1.out _ _).2⟩
 ·have hx2:valOf zs v=0:=by unfold valOf;rw[if_neg (by omega)]
  rw[hx2]at hwi⊢
  clear hz hn hx2 hq
  go_enter Tryz.func82,Tryz.ntmps82
  go_wp2_with (go_at_call 52;refine(hwi _).mono ?_;rintro e w' ⟨rfl,rfl⟩)
  go_ret
  exact⟨rfl,⟨_,(O1.out _ _).1⟩,(O1.out _ _).2⟩
def sAt (c:Int)(l:List (Int×Int))(zs:List Int):Nat→Int
 | 0=>c
 | i+1=>sAt c l zs i+(l.getD i (0,0)).2*valOf zs (l.getD i (0,0)).1
def near (l:List (Int×Int))(zs:List Int)(i:Nat):Bool:=wi (valOf zs (l.getD i (0,0)).1) 16777216
theorem sAt_in (c:Int)(l:List (Int×Int))(zs:List Int)(hc: -1073741824≤c∧c≤1073741824):∀i,i≤64→(∀j,j<i→ -1073741824≤(l.getD j (0,0)).2∧(l.getD j (0,0)).2≤1073741824)→(∀j,j<i→near l zs j=true)→
 -(1073741824+i*18014398509481984:Int)≤sAt c l zs i∧sAt c l zs i≤1073741824+i*18014398509481984
 | 0,_,_,_=>by unfold sAt;omega
 | i+1,hi,hk,hx=>by
   have h1:=sAt_in c l zs hc i (by omega) (fun j hj=>hk j (by omega)) (fun j hj=>hx j (by omega))
   have h2:=hk i (by omega)
   have h3:=hx i (by omega)
   unfold near wi at h3
   have h3: -16777216≤valOf zs (l.getD i (0,0)).1∧valOf zs (l.getD i (0,0)).1≤16777216:=by simpa using h3
   have h4:((l.getD i (0,0)).2*valOf zs (l.getD i (0,0)).1).natAbs≤1073741824*16777216:=by
    rw[Int.natAbs_mul];exact Nat.mul_le_mul (by omega) (by omega)
   unfold sAt
   omega
theorem Tryz.enters35:∀args w,(callFunc 82 args).run Tryz.prog w= .ok (.enter 82 args) w:=fun _ _=>by kernel_rfl
def VInv (pv q:Nat)(a2:Option Addr)(n2 cap2:Nat)(P:Int→Prop)(W:World):Prop:=Held W pv a2 n2 cap2∧∃s,P s∧Own W q s
theorem VInv.alloc {pv q:Nat}{a2:Option Addr}{n2 cap2:Nat}{P:Int→Prop}{W:World}(h:VInv pv q a2 n2 cap2 P W)(o:Obj):VInv pv q a2 n2 cap2 P (W.alloc o):=by
 obtain⟨⟨h1,h2⟩,s,hp,ho⟩:=h
 have hb:=(Below.refl W.heap.size W).alloc (Nat.le_refl _) o
 exact⟨⟨Nat.lt_of_lt_of_le h1 hb.size,by rw[hb.cell (p:=⟨pv,0,none⟩) h1];exact h2⟩,s,hp,ho.alloc o⟩
theorem Held.below {w w':World}{pv q:Nat}{a:Option Addr}{n cap:Nat}(h:Held w pv a n cap)(hq:pv<q)(hb:Below q w w'):Held w' pv a n cap:=
 ⟨Nat.lt_of_lt_of_le h.1 hb.size,by rw[hb.cell (p:=⟨pv,0,none⟩) hq];exact h.2⟩
theorem valueAll_yes (pv q:Nat)(c:Int)(a:Option Addr)(n cap:Nat)(l:List (Int×Int))(a2:Option Addr)(n2 cap2:Nat)(zs:List Int)(w:World)(B:Nat)(hB:B≤pv)(hpq:pv<q)(hn:l.length=n)(hm:n≤64)(hn2:zs.length=n2)
 (hl:Lies B w a l) (hz:Nums B w a2 zs) (hh:Held w pv a2 n2 cap2) (ho:Own w q c) (hc: -1073741824≤c∧c≤1073741824)
 (hk:∀j,j<n→0≤(l.getD j (0,0)).1∧ -1073741824≤(l.getD j (0,0)).2∧(l.getD j (0,0)).2≤1073741824) (h:∀i,i<n→near l zs i=true):
 Calls Tryz.prog 53 #[.slice a n cap,.func (.func 82) #[] #[.pointer (some ⟨pv,0,none⟩),.pointer (some ⟨q,0,none⟩)]] w fun e w'=>e= .returned (.bool true)∧Own w' q (sAt c l zs n)∧Below B w w':=by
 have hbs:B≤w.heap.size:=by have:=hh.1;omega
 refine(all_yes 82 #[.pointer (some ⟨pv,0,none⟩),.pointer (some ⟨q,0,none⟩)] a n cap l w (fun i W=>VInv pv q a2 n2 cap2 (·=sAt c l zs i) W) (near l zs) Tryz.enters35 hn (by omega) B hbs hl ⟨hh,c,rfl,ho⟩
  (fun _ _ o h=>h.alloc o) ?_ h).mono ?_
 ·intro i W hi hb hI
  obtain⟨hhW,s,rfl,hoW⟩:=hI
  have hs:=sAt_in c l zs hc i (by omega) (fun j hj=>(hk j (by omega)).2) (fun j hj=>h j (by omega))
  have hki:=hk i hi
  refine(valueLit_yes pv q _ (l.getD i (0,0)).1 (l.getD i (0,0)).2 a2 n2 cap2 zs W hn2 hki.1 hpq hhW ((hz.below hb).mono (by have:=hb.size;omega)) hoW hki.2 (by omega) (h i hi)).mono ?_
  rintro e w' ⟨he,ho',hb'⟩
  exact⟨by rw[h i hi];exact he,⟨hhW.below hpq hb',_,rfl,ho'⟩,hb'.mono (by omega)⟩
 ·rintro e w' ⟨he,⟨_,s,rfl,ho'⟩,hb⟩
  exact⟨he,ho',hb⟩
theorem valueAll_no (pv q:Nat)(c:Int)(a:Option Addr)(n cap:Nat)(l:List (Int×Int))(a2:Option Addr)(n2 cap2:Nat)(zs:List Int)(w:World)(B:Nat)(hB:B≤pv)(hpq:pv<q)(hn:l.length=n)(hm:n≤64)(hn2:zs.length=n2)
 (hl:Lies B w a l) (hz:Nums B w a2 zs) (hh:Held w pv a2 n2 cap2) (ho:Own w q c)
 (hk:∀j,j<n→0≤(l.getD j (0,0)).1) (h:¬ ∀i,i<n→near l zs i=true):
 Calls Tryz.prog 53 #[.slice a n cap,.func (.func 82) #[] #[.pointer (some ⟨pv,0,none⟩),.pointer (some ⟨q,0,none⟩)]] w fun e w'=>e= .returned (.bool false)∧Below B w w':=by
 have hbs:B≤w.heap.size:=by have:=hh.1;omega
 obtain⟨j,hj,h1,h2⟩:=first_no _ _ h
 refine(all_no 82 #[.pointer (some ⟨pv,0,none⟩),.pointer (some ⟨q,0,none⟩)] a n cap l w (fun i W=>VInv pv q a2 n2 cap2 (fun _=>True) W) (near l zs) Tryz.enters35 hn (by omega) B hbs hl ⟨hh,c,trivial,ho⟩
  (fun _ _ o h=>h.alloc o) ?_ j hj h1 h2).mono fun _ _ ⟨he,_,hb⟩=>⟨he,hb⟩
 intro i W hi hb hI
 obtain⟨hhW,s,_,hoW⟩:=hI
 refine(valueLit_any pv q s (l.getD i (0,0)).1 (l.getD i (0,0)).2 a2 n2 cap2 zs W hn2 (hk i hi) hpq hhW ((hz.below hb).mono (by have:=hb.size;omega)) hoW).mono ?_
 rintro e w' ⟨he,⟨s',ho'⟩,hb'⟩
 exact⟨he,⟨hhW.below hpq hb',s',trivial,ho'⟩,hb'.mono (by omega)⟩
theorem value_ok (c:Int)(a:Option Addr)(n cap:Nat)(l:List (Int×Int))(a2:Option Addr)(n2 cap2:Nat)(zs:List Int)(w:World)(hn:l.length=n)(hn2:zs.length=n2)(hl:Lies w.heap.size w a l)(hz:Nums w.heap.size w a2 zs)(hs:snd c l=true)
 (h:∀i,i<n→near l zs i=true):
 Calls Tryz.prog 73 #[.agg #[.int .i64 c,.slice a n cap],.slice a2 n2 cap2] w fun e w'=>e= .returned (.tuple #[.int .i64 (sAt c l zs n),.nilIface])∧Below w.heap.size w w':=by
 obtain⟨hwc,h64,hall⟩:=snd_iff.1 hs
 have hb0:Below w.heap.size w ((w.alloc (.cells #[.int .i64 c,.slice a n cap] 25)).alloc (.cells #[.slice a2 n2 cap2] 54)):=((Below.refl _ w).alloc (Nat.le_refl _) _).alloc (by simp) _
 have hck:=check_yes c a n cap l _ hn ((hl.below hb0).mono hb0.size) hs
 have hcb: -1073741824≤c∧c≤1073741824:=by unfold wi at hwc;simpa using hwc
 have hga:=fun(W:World) (q:Nat) (hq:w.heap.size+1<q) (hb:Below w.heap.size w W) (hh:Held W (w.heap.size+1) a2 n2 cap2) (ho:Own W q c)=>
  valueAll_yes (w.heap.size+1) q c a n cap l a2 n2 cap2 zs W w.heap.size (by omega) hq hn (by omega) hn2 (hl.below hb) (hz.below hb) hh ho hcb (fun j hj=>by have:=okAt_in (hall j (by omega));omega) h
 generalize sAt c l zs n=r at hga⊢
 have HG:=Lib.hid hga
 have HB:=Lib.hid hb0
 clear hn hs hall hl hz hga hb0 hwc h64 hcb h
 go_enter Tryz.func73,Tryz.ntmps73
 go_wp2_with (go_at_call 30;refine hck.mono ?_;rintro e w1 ⟨rfl,hb1⟩;obtain⟨hc1,hf1⟩:=bcell hb1;have hz:w.heap.size+1<w1.heap.size:=(by have:=hb1.size;simp at this;omega);have hz0:w.heap.size<w1.heap.size:=(by omega);clear hck)
 have hb2:Below w.heap.size w (w1.alloc (.cells #[.int .i64 c] 3)):=(HB.out.trans (hb1.mono (by simp;omega))).alloc (by omega) _
 have hh:Held (w1.alloc (.cells #[.int .i64 c] 3)) (w.heap.size+1) a2 n2 cap2:=⟨by simp;omega,by
  have hbb:=(Below.refl w1.heap.size w1).alloc (Nat.le_refl _) (.cells #[.int .i64 c] 3)
  rw[hbb.cell (p:=⟨w.heap.size+1,0,none⟩) hz,hc1 _ _ (by simp)]
  simp⟩
 refine(HG.out _ w1.heap.size hz hb2 hh (Own.new _ _ _)).mono ?_
 rintro e w2 ⟨rfl,ho,hb3⟩
 obtain⟨ho1,ho2,ho3⟩:=ho
 have B3:=Lib.hid (hb2.trans hb3)
 clear hb3 hb2 hh hc1 hf1
 go_wp2_with fail
 go_ret2
 exact⟨rfl,B3.out⟩
theorem value_far (c:Int)(a:Option Addr)(n cap:Nat)(l:List (Int×Int))(a2:Option Addr)(n2 cap2:Nat)(zs:List Int)(w:World)(hn:l.length=n)(hn2:zs.length=n2)(hl:Lies w.heap.size w a l)(hz:Nums w.heap.size w a2 zs)(hs:snd c l=true)
 (h:¬ ∀i,i<n→near l zs i=true):
 Calls Tryz.prog 73 #[.agg #[.int .i64 c,.slice a n cap],.slice a2 n2 cap2] w fun e w'=>e= .returned (.tuple #[.int .i64 0,.iface 89 (.int .i64 1)])∧Below w.heap.size w w':=by
 obtain⟨_,h64,hall⟩:=snd_iff.1 hs
 have hb0:Below w.heap.size w ((w.alloc (.cells #[.int .i64 c,.slice a n cap] 25)).alloc (.cells #[.slice a2 n2 cap2] 54)):=((Below.refl _ w).alloc (Nat.le_refl _) _).alloc (by simp) _
 have hck:=check_yes c a n cap l _ hn ((hl.below hb0).mono hb0.size) hs
 have hga:=fun(W:World) (q:Nat) (hq:w.heap.size+1<q) (hb:Below w.heap.size w W) (hh:Held W (w.heap.size+1) a2 n2 cap2) (ho:Own W q c)=>
  valueAll_no (w.heap.size+1) q c a n cap l a2 n2 cap2 zs W w.heap.size (by omega) hq hn (by omega) hn2 (hl.below hb) (hz.below hb) hh ho (fun j hj=>by have:=okAt_in (hall j (by omega));omega) h
 have HG:=Lib.hid hga
 have HB:=Lib.hid hb0
 clear hn hs hall hl hz hga hb0 h64 h
 go_enter Tryz.func73,Tryz.ntmps73
 go_wp2_with (go_at_call 30;refine hck.mono ?_;rintro e w1 ⟨rfl,hb1⟩;obtain⟨hc1,hf1⟩:=bcell hb1;have hz:w.heap.size+1<w1.heap.size:=(by have:=hb1.size;simp at this;omega);have hz0:w.heap.size<w1.heap.size:=(by omega);clear hck)
 have hb2:Below w.heap.size w (w1.alloc (.cells #[.int .i64 c] 3)):=(HB.out.trans (hb1.mono (by simp;omega))).alloc (by omega) _
 have hh:Held (w1.alloc (.cells #[.int .i64 c] 3)) (w.heap.size+1) a2 n2 cap2:=⟨by simp;omega,by
  have hbb:=(Below.refl w1.heap.size w1).alloc (Nat.le_refl _) (.cells #[.int .i64 c] 3)
  rw[hbb.cell (p:=⟨w.heap.size+1,0,none⟩) hz,hc1 _ _ (by simp)]
  simp⟩
 refine(HG.out _ w1.heap.size hz hb2 hh (Own.new _ _ _)).mono ?_
 rintro e w2 ⟨rfl,hb3⟩
 have B3:=Lib.hid (hb2.trans hb3)
 clear hb3 hb2 hh hc1 hf1
 go_wp2_with fail
 go_ret2
 exact⟨rfl,B3.out⟩
end Lf
end Go.Proofs.YtjbkhdbjdahbiaaGreatDoor
